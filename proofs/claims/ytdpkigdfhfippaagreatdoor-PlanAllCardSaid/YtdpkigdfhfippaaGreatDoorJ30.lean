/- Parts, joined. -/
import Derived.Test.YtdpkigdfhfippaaGreatDoorJ23
import Derived.Test.YtdpkigdfhfippaaGreatDoorJ29
import Derived.Test.YtdpkigdfhfippaaGreatDoorJ22
import Derived.Test.YtdpkigdfhfippaaGreatDoorJ28
import Derived.Test.YtdpkigdfhfippaaGreatDoorJ16
import Derived.Test.YtdpkigdfhfippaaGreatDoorJ20
import Derived.Test.YtdpkigdfhfippaaGreatDoorJ04
import Derived.Test.YtdpkigdfhfippaaGreatDoorJ24
import Derived.Test.YtdpkigdfhfippaaGreatDoorJ01
import Derived.Test.YtdpkigdfhfippaaGreatDoorJ25
import Derived.Deep.LoopGhost
import Derived.Deep.RegionHeld3
/- Operations: the tables' example once more (without what only some seats have); the document's sizes of a side, and sizes that an operation leads to. -/
namespace Go.Proofs.YtdpkigdfhfippaaGreatDoor
open Go.RowKit


set_option maxRecDepth 100000 in
theorem lives8 : LiveC Kinds 39 := by
  intro w hk
  have C5 : ∀ w : World, Kinds w → Calls Tryz.prog 54 #[] w fun e w' => e = .returned (.bool true) ∧ Below w.heap.size w w' := fun w hk => rlives row_yes keysC w hk
  have C6 : ∀ w : World, Kinds w → Calls Tryz.prog 55 #[] w fun e w' => e = .returned (.bool true) ∧ Below w.heap.size w w' := fun w hk => tlives (K := Kinds) (fun _ _ h b => kinds_below h b) (fun xs ad cap w _ hr hx hl => apportion_any xs ad cap w hr hx hl) (fun s w _ _ _ => gaussian_any s w) w hk
  obtain ⟨e1, e2, e3⟩ := res_ex
  have CR1 := fun w hk => resize_c 0 4 2 (by omega) (by omega) (by omega) (by omega) (by omega) (by omega) w hk
  rw [e1, show (2 : Int).toNat = 2 from rfl, e2] at CR1
  have CK : ∀ w' : World, Below w.heap.size w w' → Kinds w' := fun w' b => kinds_below hk b
  have L1 : ∀ {w : World} {v : Value} {n : Int}, Tab w v n [(0, [8192, 8192]), (2, [8192, 8192])] → Calls Tryz.prog 20 #[v, .int .i64 1] w fun e w' => ∃ u, e = .returned (.agg #[.int .i64 2, u]) ∧ OwnI .i64 2 w' w.heap.size u [8192, 8192] ∧ Below w.heap.size w w' := fun h => tab_line h 1 (by decide)
  have L0 : ∀ {w : World} {v : Value} {n : Int}, Tab w v n [(0, [8192, 8192]), (2, [8192, 8192])] → Calls Tryz.prog 20 #[v, .int .i64 0] w fun e w' => ∃ u, e = .returned (.agg #[.int .i64 0, u]) ∧ OwnI .i64 2 w' w.heap.size u [8192, 8192] ∧ Below w.heap.size w w' := fun h => tab_line h 0 (by decide)
  have LR : ∀ {w : World} {v : Value} {n : Int}, Tab w v n [(0, [8192, 8192]), (2, [8192, 8192])] → Calls Tryz.prog 48 #[v, .int .i64 0, .int .i64 2] w fun e w' => e = .returned (.tuple #[.int .i64 0, .int .i64 4]) ∧ Below w.heap.size w w' := by
    intro w v n h
    have := tab_reach h 0 2 (by omega) (by omega) (by omega) (by omega)
    rw [e3] at this
    exact this
  clear e1 e2 e3 hk
  go_enter Tryz.func39, Tryz.ntmps39
  go_wp2_with (first
    | (go_at_call 54; (with_reducible refine (C5 _ (CK _ (by repeat (first | exact Below.refl _ _ | exact HB.out | (with_reducible refine bt ?_ (by assumption)) | with_reducible refine bd ?_ | with_reducible refine ba ?_ _)))).mono ?_); rintro e w1 ⟨rfl, b1⟩)
    | (go_at_call 55; (with_reducible refine (C6 _ (CK _ (by repeat (first | exact Below.refl _ _ | exact HB.out | (with_reducible refine bt ?_ (by assumption)) | with_reducible refine bd ?_ | with_reducible refine ba ?_ _)))).mono ?_); rintro e w2 ⟨rfl, b2⟩)
    | (go_at_call 51; (with_reducible refine (CR1 _ (CK _ (by repeat (first | exact Below.refl _ _ | exact HB.out | (with_reducible refine bt ?_ (by assumption)) | with_reducible refine bd ?_ | with_reducible refine ba ?_ _)))).mono ?_); rintro e w3 ⟨v, rfl, hT, _, b3⟩; have HT := hide (hT (by trivial)); clear hT; obtain ⟨a, rfl⟩ := Tab.ptr HT.out)
    | (go_at_call 20; (with_reducible refine (L1 HT.out).mono ?_); rintro e w4 ⟨u, rfl, ou, b4⟩; obtain ⟨ad, cap, rfl, ra, _⟩ := ou.formn (show [(8192 : Int), 8192].length = 2 from rfl))
    | (go_at_call 48; (with_reducible refine (LR (Tab.below HT.out (by repeat (first | exact Below.refl _ _ | exact HB.out | (with_reducible refine bt ?_ (by assumption)) | with_reducible refine bd ?_ | with_reducible refine ba ?_ _)))).mono ?_); rintro e w5 ⟨rfl, b5⟩; have q0 := cb b5 (b := w4.heap.size) (o := 0) (v := .int .i64 2) (by simp) (by simp); have q1 := cb b5 (b := w4.heap.size) (o := 1) (v := .slice ad 2 cap) (by simp) (by simp); have z5 : w4.heap.size < w5.heap.size := (by have := b5.size; simp at this; omega))
    | (go_at_call 20; (with_reducible refine (L0 (Tab.below HT.out (by repeat (first | exact Below.refl _ _ | exact HB.out | (with_reducible refine bt ?_ (by assumption)) | with_reducible refine bd ?_ | with_reducible refine ba ?_ _)))).mono ?_); rintro e w6 ⟨u6, rfl, ou6, b6⟩; obtain ⟨ad6, cap6, rfl, _, _⟩ := ou6.formn (show [(8192 : Int), 8192].length = 2 from rfl); have F0 := field_first 0 ad6 2 cap6; have y0 := cb b6 z5 q0; have y1 := cb b6 z5 q1)
    | (go_at_call 56; (with_reducible refine (same_n 2 [8192, 8192] rfl _ _ _ _ _ (ra.below (by repeat (first | exact Below.refl _ _ | exact HB.out | (with_reducible refine bt ?_ (by assumption)) | with_reducible refine bd ?_ | with_reducible refine ba ?_ _))) (lit2 _ _ _ _) (by omega)).mono ?_); rintro e w7 ⟨rfl, b7⟩))
  go_ret
  refine ⟨rfl, ?_⟩
  exact (by repeat (first | exact Below.refl _ _ | exact HB.out | (with_reducible refine bt ?_ (by assumption)) | with_reducible refine bd ?_ | with_reducible refine ba ?_ _))
theorem dside12_yes (n : Int) (h0 : 1 ≤ n) (h1 : n ≤ 65536) (w : World) :
    Calls Tryz.prog 41 #[.int .i64 n] w fun e w' => e = .returned (.bool true) ∧ w = w' := by
  go_enter Tryz.func41, Tryz.ntmps41
  go_wp2
  go_ret
  first | exact ⟨rfl, rfl⟩ | exact ⟨ret_bool (decide_eq_true (by omega)), rfl⟩
theorem dside12_no (n : Int) (h : n < 1 ∨ 65536 < n) (w : World) :
    Calls Tryz.prog 41 #[.int .i64 n] w fun e w' => e = .returned (.bool false) ∧ w = w' := by
  rcases h with h | h
  all_goals
    go_enter Tryz.func41, Tryz.ntmps41
    go_wp2
    go_ret
    first | exact ⟨rfl, rfl⟩ | exact ⟨ret_bool (decide_eq_false (by omega)), rfl⟩
end Go.Proofs.YtdpkigdfhfippaaGreatDoor

/- Operations: what the laws make of them: as the document has them; little ones. -/
namespace Go.Proofs.YtdpkigdfhfippaaGreatDoor
open Go.RowKit


/-- One operation, as the document has it: the same cells. -/
theorem ref12_any (o : Opr) (ax : Option Addr) (cx : Nat) (ay : Option Addr) (cy : Nat) (w : World) :
    Calls Tryz.prog 26 #[opV o ax cx ay cy] w fun e w' => e = .returned (opV o ax cx ay cy) ∧ Below w.heap.size w w' := by
  unfold opV
  obtain ⟨kd, bd, sg, rd, xs, ys, fl, wd, ht⟩ := o
  simp only
  generalize xs.length = nx at *
  generalize ys.length = ny at *
  go_enter Tryz.func26, Tryz.ntmps26
  go_wp2
  exact bodyPost_ret (v := .agg #[.int .i64 kd, .int .i64 bd, .int .i64 sg, .int .i64 rd, .slice ax nx cx, .slice ay ny cy, .int .i64 fl, .int .i64 wd, .int .i64 ht]) (by simp [results, Tryz.results26, go_sem]) rfl ⟨rfl, ba (below1 _ _) _⟩
/-- What the laws don't play. -/
def BigO (s : Int) (o : Opr) : Prop := 40 < o.xs.length ∨ 40 < o.ys.length ∨ (262144 < o.sg ∧ o.sg ≤ 4194304) ∨ (20 < o.rd ∧ o.rd < 512) ∨ (s < o.wd ∧ o.wd ≤ 65536) ∨ (s < o.ht ∧ o.ht ≤ 65536)
def bigB (s : Int) (L : List Opr) : Nat → Bool
  | 0 => false
  | k + 1 => bigB s L k || (decide (40 < (opAt L k).xs.length) || decide (40 < (opAt L k).ys.length) || decide (262144 < (opAt L k).sg ∧ (opAt L k).sg ≤ 4194304) || decide (20 < (opAt L k).rd ∧ (opAt L k).rd < 512) || decide (s < (opAt L k).wd ∧ (opAt L k).wd ≤ 65536) || decide (s < (opAt L k).ht ∧ (opAt L k).ht ≤ 65536))
theorem bigB_step (s : Int) (L : List Opr) (k : Nat) : bigB s L (k + 1) = true ↔ bigB s L k = true ∨ BigO s (opAt L k) := by
  show (bigB s L k || _) = true ↔ _
  unfold BigO
  simp only [Bool.or_eq_true, decide_eq_true_eq, or_assoc]
theorem bigB_stays {s : Int} {L : List Opr} {k : Nat} (h : bigB s L k = true) {n : Nat} (hk : k ≤ n) : bigB s L n = true := by
  induction n with
  | zero => rw [← Nat.le_zero.1 hk]; exact h
  | succ n ih =>
    rcases Nat.lt_or_ge n k with q | q
    · rw [show n + 1 = k by omega]; exact h
    · exact (bigB_step s L n).2 (.inl (ih q))
end Go.Proofs.YtdpkigdfhfippaaGreatDoor

/- Operations: what the program's calls are to answer; the example; the law on one operation. -/
namespace Go.Proofs.YtdpkigdfhfippaaGreatDoor
open Go.RowKit


/-- What Make answers. -/
def MakeAns (e : Ending) (w' : World) (k : Int) (S : Stg) : Prop :=
  (k ≠ 0 ∧ e = .returned (.tuple #[.agg #[.pointer none, .pointer none, .int .i64 0], .int .i64 k])) ∨ (k = 0 ∧ ∃ x y, e = .returned (.tuple #[.agg #[x, y, .int .i64 S.sb], .int .i64 0]) ∧ Tab w' x S.fx S.lx ∧ Tab w' y S.fy S.ly)
def OMakeC (K : World → Prop) : Prop := ∀ (o : Opr) (ax : Option Addr) (cx : Nat) (ay : Option Addr) (cy : Nat) (a b : Int) (w : World), K w → OpAt w o ax cx ay cy → OpFits o → In64 a → In64 b →
  Calls Tryz.prog 22 #[opV o ax cx ay cy, .int .i64 a, .int .i64 b] w fun e w' => MakeAns e w' (opCode o a b) (stgOf o a b) ∧ Below w.heap.size w w'
def exO : Opr := ⟨3, 0, 0, 0, [], [], 0, 2, 1⟩
theorem exO_code : opCode exO 4 3 = 0 ∧ (stgOf exO 4 3).lx.length = 2 ∧ (stgOf exO 4 3).ly.length = 1 := by decide +kernel
theorem exO_fits : OpFits exO := by
  refine ⟨?_, ?_, ?_, ?_, ?_, ?_, ?_, (fun n hn => by cases hn), (fun n hn => by cases hn), Nat.zero_le _, Nat.zero_le _⟩ <;> (unfold In64 exO; simp)
set_option maxRecDepth 100000 in
theorem olives {K : World → Prop} (hKB : ∀ w w', K w → Below w.heap.size w w' → K w') (hKK : ∀ w, K w → Kinds w) (CM : OMakeC K) (w : World) (hk : K w) :
    Calls Tryz.prog 23 #[] w fun e w' => e = .returned (.bool true) ∧ Below w.heap.size w w' := by
  have C8 : ∀ w : World, Kinds w → Calls Tryz.prog 39 #[] w fun e w' => e = .returned (.bool true) ∧ Below w.heap.size w w' := fun w hk => lives8 w hk
  obtain ⟨e1, e2, e3⟩ := exO_code
  have C1 : ∀ w : World, K w → Calls Tryz.prog 22 #[.agg #[.int .i64 3, .int .i64 0, .int .i64 0, .int .i64 0, .slice none 0 0, .slice none 0 0, .int .i64 0, .int .i64 2, .int .i64 1], .int .i64 4, .int .i64 3] w fun e w' => (∃ x y, e = .returned (.tuple #[.agg #[.pointer (some x), .pointer (some y), .int .i64 0], .int .i64 0]) ∧ Tab w' (.pointer (some x)) 4 (stgOf exO 4 3).lx ∧ Tab w' (.pointer (some y)) 3 (stgOf exO 4 3).ly) ∧ Below w.heap.size w w' := fun w hk =>
    (CM exO none 0 none 0 4 3 w hk ⟨.inl rfl, .inl rfl, fun _ => rfl, fun _ => rfl⟩ exO_fits (by unfold In64; omega) (by unfold In64; omega)).mono fun e w' ⟨hA, hB⟩ => by
      rw [e1] at hA
      rcases hA with ⟨h0, _⟩ | ⟨_, x, y, he, tx, ty⟩
      · exact absurd rfl h0
      · obtain ⟨ax, rfl⟩ := tx.ptr
        obtain ⟨ay, rfl⟩ := ty.ptr
        exact ⟨⟨ax, ay, he, tx, ty⟩, hB⟩
  have TF := fun {w : World} {v : Value} {n : Int} {L : List (Int × List Int)} (h : Tab w v n L) => tab_from h
  have TX := fun {w : World} {v : Value} {n : Int} (h : Tab w v n (stgOf exO 4 3).lx) => tab_to h
  have TY := fun {w : World} {v : Value} {n : Int} (h : Tab w v n (stgOf exO 4 3).ly) => tab_to h
  rw [e2] at TX
  rw [e3] at TY
  clear e1 e2 e3 CM
  generalize (stgOf exO 4 3).lx = LX at *
  generalize (stgOf exO 4 3).ly = LY at *
  have q1 : ∀ (a : Addr) (w : World), (binOp .neq 29 (.pointer (some a)) (.pointer none)).run Tryz.prog w = .ok (.bool true) w := fun a w => by kernel_rfl
  go_enter Tryz.func23, Tryz.ntmps23
  go_wp2_with (first
    | (go_at_call 22; (with_reducible refine (C1 _ hk).mono ?_); rintro e w1 ⟨⟨x, y, rfl, tx, ty⟩, b1⟩; have HX := hide tx; have HY := hide ty; clear tx ty)
    | (go_at_call 39; (with_reducible refine (C8 _ (hKK _ (hKB _ _ hk (ba b1 _)))).mono ?_); rintro e w2 ⟨rfl, b2⟩; have p0 := cb b2 (b := w1.heap.size) (o := 0) (v := .pointer (some x)) (by simp) (by simp); have p1 := cb b2 (b := w1.heap.size) (o := 1) (v := .pointer (some y)) (by simp) (by simp); have l2 : w1.heap.size < w2.heap.size := (by have := b2.size; simp at this; omega))
    | (go_at_call 40; (with_reducible refine (TF ((HX.out.below (below1 _ _)).below b2)).mono ?_); rintro e w3 ⟨rfl, b3⟩; have p2 := cb b3 l2 p0; have p3 := cb b3 l2 p1; have l3 := Nat.lt_of_lt_of_le l2 b3.size)
    | (go_at_call 12; (with_reducible refine (TX (((HX.out.below (below1 _ _)).below b2).below b3)).mono ?_); rintro e w4 ⟨rfl, b4⟩; have p5 := cb b4 l3 p3; have l4 := Nat.lt_of_lt_of_le l3 b4.size)
    | (go_at_call 40; (with_reducible refine (TF ((((HY.out.below (below1 _ _)).below b2).below b3).below b4)).mono ?_); rintro e w5 ⟨rfl, b5⟩; have p6 := cb b5 l4 p5)
    | (go_at_call 12; (with_reducible refine (TY (((((HY.out.below (below1 _ _)).below b2).below b3).below b4).below b5)).mono ?_); rintro e w6 ⟨rfl, b6⟩))
  go_ret
  exact ⟨rfl, bt (bt (bt (bt (bt (ba b1 _) b2) b3) b4) b5) b6⟩
end Go.Proofs.YtdpkigdfhfippaaGreatDoor

/- Plans: what the program's calls are to answer. -/
namespace Go.Proofs.YtdpkigdfhfippaaGreatDoor
open Go.RowKit


/-- May a tile be so large? -/
def tileB (a b : Int) : Bool := decide (1 ≤ a ∧ a ≤ 4096 ∧ 1 ≤ b ∧ b ≤ 4096)
theorem tileB_iff {a b : Int} : tileB a b = true ↔ 1 ≤ a ∧ a ≤ 4096 ∧ 1 ≤ b ∧ b ≤ 4096 := decide_eq_true_iff
def inB (n i : Int) : Bool := decide (0 ≤ i ∧ i < n)
theorem inB_iff {n i : Int} : inB n i = true ↔ 0 ≤ i ∧ i < n := decide_eq_true_iff
/-- A table, or none. -/
def TabOr (w : World) (x : Value) : Prop := x = .pointer none ∨ ∃ n L, Tab w x n L
/-- What the program's own calls are to answer. 'PT w v x y S a b': in memory v is a plan of the stage S, whose tables are x and y, of tiles of a by b. -/
structure PlanC (K : World → Prop) (PT : World → Value → Value → Value → Stg → Int → Int → Prop) : Prop where
  below : ∀ {w w' : World} {v x y : Value} {S : Stg} {a b : Int}, PT w v x y S a b → Below w.heap.size w w' → PT w' v x y S a b
  ptr : ∀ {w : World} {v x y : Value} {S : Stg} {a b : Int}, PT w v x y S a b → ∃ p, v = .pointer (some p)
  ok : ∀ {w : World} {v x y : Value} {S : Stg} {a b : Int}, PT w v x y S a b → Tab w x S.fx S.lx ∧ Tab w y S.fy S.ly ∧ tileB a b = true
  new : ∀ (x y : Value) (S : Stg) (a b : Int) (w : World), K w → Tab w x S.fx S.lx → Tab w y S.fy S.ly → In64 a → In64 b →
    Calls Tryz.prog 10 #[.agg #[x, y, .int .i64 S.sb], .int .i64 a, .int .i64 b] w fun e w' => ((tileB a b = true ∧ ∃ v, e = .returned (.tuple #[v, .int .i64 0]) ∧ PT w' v x y S a b) ∨ (tileB a b = false ∧ e = .returned (.tuple #[.pointer none, .int .i64 9]))) ∧ Below w.heap.size w w'
  lacks : ∀ (x y : Value) (c a b : Int) (w : World), K w → TabOr w x → TabOr w y → x = .pointer none ∨ y = .pointer none → In64 a → In64 b →
    Calls Tryz.prog 10 #[.agg #[x, y, .int .i64 c], .int .i64 a, .int .i64 b] w fun e w' => e = .returned (.tuple #[.pointer none, .int .i64 6]) ∧ Below w.heap.size w w'
  count : ∀ {w : World} {v x y : Value} {S : Stg} {a b : Int}, PT w v x y S a b → Calls Tryz.prog 15 #[v] w fun e w' => e = .returned (.int .i64 (countF S.lx S.ly a b)) ∧ Below w.heap.size w w'
  tile : ∀ {w : World} {v x y : Value} {S : Stg} {a b : Int}, PT w v x y S a b → ∀ i : Int, In64 i →
    Calls Tryz.prog 17 #[v, .int .i64 i] w fun e w' => e = .returned (.tuple #[tilV (if inB (countF S.lx S.ly a b) i = true then tilF S.lx S.ly a b i else til0), .bool (inB (countF S.lx S.ly a b) i)]) ∧ Below w.heap.size w w'
  all : ∀ {w : World} {v x y : Value} {S : Stg} {a b : Int}, PT w v x y S a b →
    Calls Tryz.prog 11 #[v] w fun e w' => (∃ ad cap, e = .returned (.slice ad (countF S.lx S.ly a b).toNat cap) ∧ TilsAt w' ad (countF S.lx S.ly a b).toNat (fun k => tilF S.lx S.ly a b (k : Int)) ∧ (ad = none → cap = 0)) ∧ Below w.heap.size w w'
  find : ∀ {w : World} {v x y : Value} {S : Stg} {a b : Int}, PT w v x y S a b → ∀ i j : Int, In64 i → In64 j →
    Calls Tryz.prog 19 #[v, .int .i64 i, .int .i64 j] w fun e w' => e = .returned (.tuple #[.int .i64 (if (inB (S.lx.length : Int) i && inB (S.ly.length : Int) j) = true then findF S.lx a b i j else 0), .bool (inB (S.lx.length : Int) i && inB (S.ly.length : Int) j)]) ∧ Below w.heap.size w w'
  scratch : ∀ {w : World} {v x y : Value} {S : Stg} {a b : Int}, PT w v x y S a b → ∀ c : Int, -1 ≤ c → c ≤ 3 →
    Calls Tryz.prog 21 #[v, .int .i64 c] w fun e w' => e = .returned (.int .i64 (if c < 1 then 0 else mostF S.ly * min a (S.lx.length : Int) * c)) ∧ Below w.heap.size w w'
  stage : ∀ {w : World} {v x y : Value} {S : Stg} {a b : Int}, PT w v x y S a b → Calls Tryz.prog 16 #[v] w fun e w' => e = .returned (.agg #[x, y, .int .i64 S.sb]) ∧ Below w.heap.size w w'
end Go.Proofs.YtdpkigdfhfippaaGreatDoor

/- What stands beyond the edge: the program's answer, and the document's. -/
namespace Go.Proofs.YtdpkigdfhfippaaGreatDoor
open Go.RowKit

theorem knownE_yes (p : Int) (p0 : 0 ≤ p) (p1 : p ≤ 2) (w : World) :
    Calls Tryz.prog 49 #[.int .i64 p] w fun e w' => e = .returned (.bool true) ∧ w = w' := by
  go_enter Tryz.func49, Tryz.ntmps49
  go_wp2
  go_ret
  first | exact ⟨rfl, rfl⟩ | exact ⟨ret_bool (decide_eq_true (by omega)), rfl⟩
theorem knownE_no (p : Int) (h : p < 0 ∨ 2 < p) (w : World) :
    Calls Tryz.prog 49 #[.int .i64 p] w fun e w' => e = .returned (.bool false) ∧ w = w' := by
  rcases h with h | h
  all_goals
    go_enter Tryz.func49, Tryz.ntmps49
    go_wp2
    go_ret
    first | exact ⟨rfl, rfl⟩ | exact ⟨ret_bool (decide_eq_false (by omega)), rfl⟩
end Go.Proofs.YtdpkigdfhfippaaGreatDoor

/- What stands beyond the edge: the laws. -/
namespace Go.Proofs.YtdpkigdfhfippaaGreatDoor
open Go.RowKit

/-- A callee that leaves the world as it is, in a region that draws and only reads. -/
theorem calm {P : Program} {f : FuncId} {args : Array Value} {u : Value} (h : ∀ w : World, Calls P f args w fun e w' => e = .returned u ∧ w = w') (w : World) (n : Nat) :
    Calls P f args (w.drewN n) fun e w'' => e = .returned u ∧ ∃ m, w'' = w.drewN m :=
  (h _).mono fun _ _ q => ⟨q.1, n, q.2.symm⟩
end Go.Proofs.YtdpkigdfhfippaaGreatDoor
