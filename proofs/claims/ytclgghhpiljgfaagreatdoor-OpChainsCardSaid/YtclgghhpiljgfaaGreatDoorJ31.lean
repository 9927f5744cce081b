/- Parts, joined. -/
import Derived.Test.YtclgghhpiljgfaaGreatDoorJ30
import Derived.Test.YtclgghhpiljgfaaGreatDoorJ29
/- Blocks of nine cells, and of three. -/
namespace Go.Proofs.YtclgghhpiljgfaaGreatDoor
open Go.RowKit


/-- The nine cells of an operation at the head of a block. -/
def P9 (w : World) (b : Nat) (k d s r : Int) (x y : Value) (f a h : Int) : Prop :=
  w.cell? ⟨b, 0, none⟩ = some (.int .i64 k) ∧ w.cell? ⟨b, 1, none⟩ = some (.int .i64 d) ∧ w.cell? ⟨b, 2, none⟩ = some (.int .i64 s) ∧ w.cell? ⟨b, 3, none⟩ = some (.int .i64 r) ∧ w.cell? ⟨b, 4, none⟩ = some x ∧ w.cell? ⟨b, 5, none⟩ = some y ∧
  w.cell? ⟨b, 6, none⟩ = some (.int .i64 f) ∧ w.cell? ⟨b, 7, none⟩ = some (.int .i64 a) ∧ w.cell? ⟨b, 8, none⟩ = some (.int .i64 h)
theorem P9.below {w w' : World} {b : Nat} {k d s r : Int} {x y : Value} {f a h : Int} (p : P9 w b k d s r x y f a h) (hb : Below w.heap.size w w') : P9 w' b k d s r x y f a h := by
  obtain ⟨p0, p1, p2, p3, p4, p5, p6, p7, p8⟩ := p
  have hl := cell_ltL p0
  exact ⟨cb hb hl p0, cb hb hl p1, cb hb hl p2, cb hb hl p3, cb hb hl p4, cb hb hl p5, cb hb hl p6, cb hb hl p7, cb hb hl p8⟩
theorem P9.new (w : World) (T : TypeId) (k d s r : Int) (x y : Value) (f a h : Int) : P9 (w.alloc (.cells #[.int .i64 k, .int .i64 d, .int .i64 s, .int .i64 r, x, y, .int .i64 f, .int .i64 a, .int .i64 h] T)) w.heap.size k d s r x y f a h := by
  unfold P9
  simp
/-- A literal of one operation. -/
theorem ops_one (w : World) (T : TypeId) (o : Opr) (ax : Option Addr) (cx : Nat) (ay : Option Addr) (cy : Nat) (hA : OpAt w o ax cx ay cy) : OpsAt (w.alloc (.cells #[.int .i64 o.kd, .int .i64 o.bd, .int .i64 o.sg, .int .i64 o.rd, .slice ax o.xs.length cx, .slice ay o.ys.length cy, .int .i64 o.fl, .int .i64 o.wd, .int .i64 o.ht] T)) (some ⟨w.heap.size, 0, none⟩) [o] := by
  refine .inr ⟨w.heap.size, 0, rfl, fun j hj => ?_⟩
  obtain rfl : j = 0 := by simpa using hj
  show OpIn _ _ _ o
  obtain ⟨p0, p1, p2, p3, p4, p5, p6, p7, p8⟩ := P9.new w T o.kd o.bd o.sg o.rd (.slice ax o.xs.length cx) (.slice ay o.ys.length cy) o.fl o.wd o.ht
  exact ⟨p0, p1, p2, p3, p6, p7, p8, ax, cx, ay, cy, p4, p5, hA.below (below1 _ _)⟩
theorem S3new (w : World) (T : TypeId) (x y z : Value) : (w.alloc (.cells #[x, y, z] T)).cell? ⟨w.heap.size, 0, none⟩ = some x ∧ (w.alloc (.cells #[x, y, z] T)).cell? ⟨w.heap.size, 1, none⟩ = some y ∧ (w.alloc (.cells #[x, y, z] T)).cell? ⟨w.heap.size, 2, none⟩ = some z := by simp
theorem t3_below {w w' : World} {R : Nat} {x y z : Value} (h : w.cell? ⟨R, 0, none⟩ = some x ∧ w.cell? ⟨R, 1, none⟩ = some y ∧ w.cell? ⟨R, 2, none⟩ = some z) (hb : Below w.heap.size w w') : w'.cell? ⟨R, 0, none⟩ = some x ∧ w'.cell? ⟨R, 1, none⟩ = some y ∧ w'.cell? ⟨R, 2, none⟩ = some z :=
  ⟨cb hb (cell_ltL h.1) h.1, cb hb (cell_ltL h.1) h.2.1, cb hb (cell_ltL h.1) h.2.2⟩
end Go.Proofs.YtclgghhpiljgfaaGreatDoor

/- Operations: that a stage is the document's. -/
namespace Go.Proofs.YtclgghhpiljgfaaGreatDoor
open Go.RowKit


set_option maxHeartbeats 4000000 in
set_option maxRecDepth 100000 in
theorem lines12_any (v : Value) (n : Int) (L : List (Int × List Int)) (N : Nat) (hN : L.length = N) (g cap : Nat) (w : World) (hT : Tab w v n L) (hr : LinesAt w g L) :
    Calls Tryz.prog 37 #[v, .slice (some ⟨g, 0, none⟩) N cap, .int .i64 n] w fun e w' => e = .returned (.bool true) ∧ Below w.heap.size w w' := by
  obtain ⟨hok, l0, l1, n0, n1⟩ := hT.ok
  obtain ⟨a, rfl⟩ := hT.ptr
  have CT : ∀ w' : World, Below w.heap.size w w' → Tab w' (.pointer (some a)) n L := fun w' b => hT.below b
  have CF := fun w' b => tab_from (CT w' b)
  have CO := fun w' b => tab_to (CT w' b)
  have CL := fun w' b => tab_line (CT w' b)
  have q1 : ∀ w : World, (binOp .eql 30 (.pointer (some a)) (.pointer none)).run Tryz.prog w = .ok (.bool false) w := fun w => by kernel_rfl
  have HOK := hide hok
  have HR := hide hr
  have HN := hide hN
  rw [hN] at l0 l1 CO CL
  clear hN hok hr hT CT
  go_enter Tryz.func37, Tryz.ntmps37
  go_wp2_with (first
    | (go_at_call 21; (with_reducible refine (CF _ (by repeat (first | exact Below.refl _ _ | assumption))).mono ?_); rintro e w1 ⟨rfl, b1⟩)
    | (go_at_call 22; (with_reducible refine (CO _ (by repeat (first | exact Below.refl _ _ | assumption))).mono ?_); rintro e w2 ⟨rfl, b2⟩))
  have B2 := hide (bt b1 b2)
  clear b1 b2 CF CO
  go_loopw [27] (fun o' wr => ∃ o : Nat, o ≤ N ∧ o' = .int .i64 (o : Int) ∧ Below w.heap.size w wr) (fun o' _ => N - (intOf o').toNat)
  case atStart => exact ⟨0, by omega, rfl, B2.out⟩
  case round =>
    clear B2
    obtain ⟨o, ho, rfl, hb⟩ := hrel
    have HB := hide hb
    clear hb
    by_cases hlt : o < N
    · obtain ⟨c1, u, c2, ad, cp, rfl, hrow⟩ := (HR.out.below HB.out) o (by rw [HN.out]; exact hlt)
      obtain ⟨f0, f1, t0, t1, hx⟩ := HOK.out o (by rw [HN.out]; exact hlt)
      have CL1 := fun w' b => CL w' b o hlt
      obtain ⟨m, hm⟩ : ∃ m, (lnAt L o).2.length = m := ⟨_, rfl⟩
      obtain ⟨f, ts, he⟩ : ∃ f ts, lnAt L o = (f, ts) := ⟨_, _, rfl⟩
      rw [he] at c1 f0 f1 hx hrow CL1
      rw [hm] at c2 t0 t1
      have hm2 : ts.length = m := by rw [← hm, he]
      have HMM := hide hm2
      have HROW := hide hrow
      clear CL he hm hm2 hx hrow
      go_wp2_with (first
        | (go_at_call 11; (with_reducible refine (CL1 _ (by repeat (first | exact Below.refl _ _ | exact HB.out | (with_reducible refine bt ?_ (by assumption)) | with_reducible refine bd ?_ | with_reducible refine ba ?_ _))).mono ?_); rintro e w3 ⟨u3, rfl, ou, b3⟩; obtain ⟨ad2, cap2, rfl, ra2, _⟩ := ou.formn HMM.out; have z3 : wr.heap.size < w3.heap.size := (by have := b3.size; simp at this; omega); have p0 := cb b3 (b := wr.heap.size) (o := 0) (v := .int .i64 f) (by simp) (by simp); have p1 := cb b3 (b := wr.heap.size) (o := 1) (v := .slice ad m cp) (by simp) (by simp); have q0 := ca (ob := .cells #[.int .i64 f, .slice ad2 m cap2] 38) z3 p0; have q1' := ca (ob := .cells #[.int .i64 f, .slice ad2 m cap2] 38) z3 p1)
        | (go_at_call 44; (with_reducible refine (same_n m ts HMM.out _ _ _ _ _ (ra2.below (by repeat (first | exact Below.refl _ _ | exact HB.out | (with_reducible refine bt ?_ (by assumption)) | with_reducible refine bd ?_ | with_reducible refine ba ?_ _))) (HROW.out.below (by repeat (first | exact Below.refl _ _ | exact HB.out | (with_reducible refine bt ?_ (by assumption)) | with_reducible refine bd ?_ | with_reducible refine ba ?_ _))) (by omega)).mono ?_); rintro e w4 ⟨rfl, b4⟩))
      have B6 := hide (show Below w.heap.size w w4 from (by repeat (first | exact Below.refl _ _ | exact HB.out | (with_reducible refine bt ?_ (by assumption)) | with_reducible refine bd ?_ | with_reducible refine ba ?_ _)))
      clear ou ra2 b3
      go_wp2
      go_roundw
      case rel => exact ⟨o + 1, by omega, by go_num, B6.out⟩
      case measure => simp [intOf]; omega
    · obtain rfl : o = N := by omega
      clear hlt ho CL
      go_wp2
      go_ret
      exact ⟨rfl, HB.out⟩
/-- A stage that the program made, beside one of the document's. -/
theorem same12_any (S : Stg) (x y : Value) (nx ny : Nat) (hx : S.lx.length = nx) (hy : S.ly.length = ny) (gx cx gy cy : Nat) (w : World) (tx : Tab w x S.fx S.lx) (ty : Tab w y S.fy S.ly) (rx : LinesAt w gx S.lx) (ry : LinesAt w gy S.ly) :
    Calls Tryz.prog 17 #[.agg #[x, y, .int .i64 S.sb], .agg #[.slice (some ⟨gx, 0, none⟩) nx cx, .slice (some ⟨gy, 0, none⟩) ny cy, .int .i64 S.fx, .int .i64 S.fy, .int .i64 S.sb]] w fun e w' => e = .returned (.bool true) ∧ Below w.heap.size w w' := by
  obtain ⟨ax, rfl⟩ := tx.ptr
  obtain ⟨ay, rfl⟩ := ty.ptr
  have CX := fun w' (b : Below w.heap.size w w') => lines12_any _ S.fx S.lx nx hx gx cx w' (tx.below b) (rx.below b)
  have CY := fun w' (b : Below w.heap.size w w') => lines12_any _ S.fy S.ly ny hy gy cy w' (ty.below b) (ry.below b)
  clear tx ty rx ry hx hy
  obtain ⟨lx, ly, fx, fy, sb⟩ := S
  simp only at CX CY ⊢
  have qs : (sb == sb) = true := beq_self_eq_true sb
  go_enter Tryz.func17, Tryz.ntmps17
  go_wp2_with (first
    | (go_at_call 37; (with_reducible refine (CX _ (ba (below1 _ _) _)).mono ?_); rintro e w1 ⟨rfl, b1⟩; have p0 := cb b1 (b := w.heap.size) (o := 1) (v := .pointer (some ay)) (by simp; omega) (by simp); have p1 := cb b1 (b := w.heap.size + 1) (o := 1) (v := .slice (some ⟨gy, 0, none⟩) ny cy) (by simp) (by simp); have p2 := cb b1 (b := w.heap.size + 1) (o := 3) (v := .int .i64 fy) (by simp) (by simp))
    | (go_at_call 37; (with_reducible refine (CY _ (bt (ba (below1 _ _) _) b1)).mono ?_); rintro e w2 ⟨rfl, b2⟩))
  go_ret
  exact ⟨rfl, bt (bt (ba (below1 _ _) _) b1) b2⟩
end Go.Proofs.YtclgghhpiljgfaaGreatDoor

/- Operations: what the program's calls are to answer; the example; the law on one operation. -/
namespace Go.Proofs.YtclgghhpiljgfaaGreatDoor
open Go.RowKit


/-- What Make answers. -/
def MakeAns (e : Ending) (w' : World) (k : Int) (S : Stg) : Prop :=
  (k ≠ 0 ∧ e = .returned (.tuple #[.agg #[.pointer none, .pointer none, .int .i64 0], .int .i64 k])) ∨ (k = 0 ∧ ∃ x y, e = .returned (.tuple #[.agg #[x, y, .int .i64 S.sb], .int .i64 0]) ∧ Tab w' x S.fx S.lx ∧ Tab w' y S.fy S.ly)
def OMakeC (K : World → Prop) : Prop := ∀ (o : Opr) (ax : Option Addr) (cx : Nat) (ay : Option Addr) (cy : Nat) (a b : Int) (w : World), K w → OpAt w o ax cx ay cy → OpFits o → In64 a → In64 b →
  Calls Tryz.prog 9 #[opV o ax cx ay cy, .int .i64 a, .int .i64 b] w fun e w' => MakeAns e w' (opCode o a b) (stgOf o a b) ∧ Below w.heap.size w w'
def OSizeC (K : World → Prop) : Prop := ∀ (o : Opr) (ax : Option Addr) (cx : Nat) (ay : Option Addr) (cy : Nat) (a b : Int) (w : World), K w →
  Calls Tryz.prog 15 #[opV o ax cx ay cy, .int .i64 a, .int .i64 b] w fun e w' => e = .returned (.tuple #[.int .i64 (toW o a), .int .i64 (toH o b)]) ∧ Below w.heap.size w w'
def exO : Opr := ⟨3, 0, 0, 0, [], [], 0, 2, 1⟩
theorem exO_code : opCode exO 4 3 = 0 ∧ (stgOf exO 4 3).lx.length = 2 ∧ (stgOf exO 4 3).ly.length = 1 := by decide +kernel
theorem exO_fits : OpFits exO := by
  refine ⟨?_, ?_, ?_, ?_, ?_, ?_, ?_, (fun n hn => by cases hn), (fun n hn => by cases hn), Nat.zero_le _, Nat.zero_le _⟩ <;> (unfold In64 exO; simp)
set_option maxRecDepth 100000 in
theorem olives {K : World → Prop} (hKB : ∀ w w', K w → Below w.heap.size w w' → K w') (hKK : ∀ w, K w → Kinds w) (CM : OMakeC K) (w : World) (hk : K w) :
    Calls Tryz.prog 8 #[] w fun e w' => e = .returned (.bool true) ∧ Below w.heap.size w w' := by
  have C8 : ∀ w : World, Kinds w → Calls Tryz.prog 24 #[] w fun e w' => e = .returned (.bool true) ∧ Below w.heap.size w w' := fun w hk => lives8 w hk
  obtain ⟨e1, e2, e3⟩ := exO_code
  have C1 : ∀ w : World, K w → Calls Tryz.prog 9 #[.agg #[.int .i64 3, .int .i64 0, .int .i64 0, .int .i64 0, .slice none 0 0, .slice none 0 0, .int .i64 0, .int .i64 2, .int .i64 1], .int .i64 4, .int .i64 3] w fun e w' => (∃ x y, e = .returned (.tuple #[.agg #[.pointer (some x), .pointer (some y), .int .i64 0], .int .i64 0]) ∧ Tab w' (.pointer (some x)) 4 (stgOf exO 4 3).lx ∧ Tab w' (.pointer (some y)) 3 (stgOf exO 4 3).ly) ∧ Below w.heap.size w w' := fun w hk =>
    (CM exO none 0 none 0 4 3 w hk ⟨.inl rfl, .inl rfl, fun _ => rfl, fun _ => rfl⟩ exO_fits (by unfold In64; omega) (by unfold In64; omega)).mono fun e w' ⟨hA, hB⟩ => by
      rw [e1] at hA
      rcases hA with ⟨h0, _⟩ | ⟨_, x, y, he, tx, ty⟩
      · exact absurd rfl h0
      · obtain ⟨ax, rfl⟩ := tx.ptr
        obtain ⟨ay, rfl⟩ := ty.ptr
        exact ⟨⟨ax, ay, he, tx, ty⟩, hB⟩
  have TF := fun {w : World} {v : Value} {n : Int} {L : List (Int × List Int)} (h : Tab w v n L) => tab_from h
  have TX := fun {w : World} {v : Value} {n : Int} (h : Tab w v n (stgOf exO 4 3).lx) => tab_to h
  have TY := fun {w : World} {v : Value} {n : Int} (h : Tab w v n (stgOf exO 4 3).ly) => tab_to h
  rw [e2] at TX
  rw [e3] at TY
  clear e1 e2 e3 CM
  generalize (stgOf exO 4 3).lx = LX at *
  generalize (stgOf exO 4 3).ly = LY at *
  have q1 : ∀ (a : Addr) (w : World), (binOp .neq 30 (.pointer (some a)) (.pointer none)).run Tryz.prog w = .ok (.bool true) w := fun a w => by kernel_rfl
  go_enter Tryz.func8, Tryz.ntmps8
  go_wp2_with (first
    | (go_at_call 9; (with_reducible refine (C1 _ hk).mono ?_); rintro e w1 ⟨⟨x, y, rfl, tx, ty⟩, b1⟩; have HX := hide tx; have HY := hide ty; clear tx ty)
    | (go_at_call 24; (with_reducible refine (C8 _ (hKK _ (hKB _ _ hk (ba b1 _)))).mono ?_); rintro e w2 ⟨rfl, b2⟩; have p0 := cb b2 (b := w1.heap.size) (o := 0) (v := .pointer (some x)) (by simp) (by simp); have p1 := cb b2 (b := w1.heap.size) (o := 1) (v := .pointer (some y)) (by simp) (by simp); have l2 : w1.heap.size < w2.heap.size := (by have := b2.size; simp at this; omega))
    | (go_at_call 21; (with_reducible refine (TF ((HX.out.below (below1 _ _)).below b2)).mono ?_); rintro e w3 ⟨rfl, b3⟩; have p2 := cb b3 l2 p0; have p3 := cb b3 l2 p1; have l3 := Nat.lt_of_lt_of_le l2 b3.size)
    | (go_at_call 22; (with_reducible refine (TX (((HX.out.below (below1 _ _)).below b2).below b3)).mono ?_); rintro e w4 ⟨rfl, b4⟩; have p5 := cb b4 l3 p3; have l4 := Nat.lt_of_lt_of_le l3 b4.size)
    | (go_at_call 21; (with_reducible refine (TF ((((HY.out.below (below1 _ _)).below b2).below b3).below b4)).mono ?_); rintro e w5 ⟨rfl, b5⟩; have p6 := cb b5 l4 p5)
    | (go_at_call 22; (with_reducible refine (TY (((((HY.out.below (below1 _ _)).below b2).below b3).below b4).below b5)).mono ?_); rintro e w6 ⟨rfl, b6⟩))
  go_ret
  exact ⟨rfl, bt (bt (bt (bt (bt (ba b1 _) b2) b3) b4) b5) b6⟩
end Go.Proofs.YtclgghhpiljgfaaGreatDoor
