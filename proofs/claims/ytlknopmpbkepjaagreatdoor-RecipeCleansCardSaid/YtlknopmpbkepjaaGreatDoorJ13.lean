/- Parts, joined. -/
import Derived.Test.YtlknopmpbkepjaaGreatDoorJ02
import Derived.Test.YtlknopmpbkepjaaGreatDoorJ12
import Derived.Test.YtlknopmpbkepjaaGreatDoorJ08
import Derived.Test.YtlknopmpbkepjaaGreatDoorJ01
import Derived.Test.YtlknopmpbkepjaaGreatDoorRows
import Derived.Deep.RegionLaw
import Derived.Laws.CopyOwn
import Derived.Maps.AppendAt
import Derived.Maps.Range
import Derived.Deep.AppendLies
import Derived.Deep.RegionHeld3
import Derived.BigQuiet
import Derived.Deep.DeepCutAuto
import Derived.OpenShut
import Derived.ProofKit
import Derived.LaidMore
import Derived.ChangeMaps5
import Derived.Laws.Strings
/- Slices of numbers that are made whole and filled, number by number. No number of the program stands in it. -/
namespace Go.Proofs.YtlknopmpbkepjaaGreatDoor
open Go.RowKit


/-- 'make' of so many, as one step of a region that draws its order. -/
theorem step_make_full {P : Program} {ops : Array Oper} {o : Oper} {a : Act} {w : World} {K : Act → World → Prop} {Q : Exit → Act → World → Prop} {E : Prop}
    (hg : o.guard = none) (l c : Operand) (t : TypeId) (hop : o.op = Op.makeSlice t l c)
    (base : Nat) (e : TypeId) (i : TypeInfo) (z : Value) (size : Nat) (h1 : P.underlying t = some (.slice e)) (h2 : P.info? e = some i) (h3 : i.zero = some z) (h4 : i.size = size)
    (kl kc : IntKind) (L C : Int) (n : Nat) (hl : a.eval l = .int kl L) (hc : a.eval c = .int kc C) (hL : L = (n : Int)) (hC : C = (n : Int)) (b2 : i.bytes * n ≤ 281474976710656) (b3 : n ≤ maxLen) (b4 : base ≤ w.heap.size)
    (hK : ∀ w', w'.ownsRow base e size (.slice (some ⟨w.heap.size, 0, none⟩) n n) n (madeCells z.cells (n * size)).toList → w.grownBy w' none → K (a.put o.dst (.slice (some ⟨w.heap.size, 0, none⟩) n n)) w') :
    if Region.wanted o (yielded ops a.tmps) = true then Oper.wp P o a w K Q else E := by
  have hw : Region.wanted o (yielded ops a.tmps) = true := by simp [Region.wanted, hg]
  rw [if_pos hw]
  obtain ⟨w', hrun, r1, r2⟩ := run_make_full (P := P) w base t e i z size h1 h2 h3 h4 kl kc n b2 b3 b4
  subst hL
  subst hC
  unfold Oper.wp
  simp [execOp, hop, hl, hc, hrun, Result.andThen]
  exact hK w' r1 r2
/-- What is made owns noughts. -/
theorem OwnI.made {k : IntKind} {T : TypeId} {w : World} {base : Nat} {v : Value} {n : Nat} (h : w.ownsRow base T 1 v n (madeCells (Value.int k 0).cells (n * 1)).toList) : OwnI k T w base v (List.replicate n 0) := by
  unfold OwnI
  rw [List.length_replicate, List.map_replicate, ← toList_madeCells_one]
  rw [Nat.mul_one] at h
  exact h
/-- So many numbers, the rest nought. -/
def padZ (L : List Int) (n : Nat) : List Int := L ++ List.replicate (n - L.length) 0
theorem padZ_nil (n : Nat) : padZ [] n = List.replicate n 0 := by unfold padZ; simp
theorem padZ_len {L : List Int} {n : Nat} (h : L.length ≤ n) : (padZ L n).length = n := by unfold padZ; rw [List.length_append, List.length_replicate]; omega
theorem padZ_full {L : List Int} {n : Nat} (h : L.length = n) : padZ L n = L := by unfold padZ; rw [h, Nat.sub_self]; simp
theorem padZ_set {L : List Int} {n j : Nat} (hj : L.length = j) (h : j < n) (x : Int) : (padZ L n).set j x = padZ (L ++ [x]) n := by
  subst hj
  unfold padZ
  rw [List.set_append_right _ _ (Nat.le_refl _), Nat.sub_self, List.length_append, List.length_singleton]
  obtain ⟨d, hd⟩ : ∃ d, n - L.length = d + 1 := ⟨n - L.length - 1, by omega⟩
  rw [hd, show n - (L.length + 1) = d by omega, List.replicate_succ, List.set_cons_zero, List.append_assoc]
  rfl
/-- Filled so far. -/
def fillZ (F : Int → Int) (xs : List Int) (n j : Nat) : List Int := padZ ((xs.take j).map F) n
theorem fillZ_zero (F : Int → Int) (xs : List Int) (n : Nat) : fillZ F xs n 0 = List.replicate n 0 := by unfold fillZ; rw [List.take_zero, List.map_nil, padZ_nil]
theorem fillZ_len {F : Int → Int} {xs : List Int} {n j : Nat} (hx : xs.length = n) : (fillZ F xs n j).length = n := padZ_len (by rw [List.length_map, List.length_take]; omega)
theorem fillZ_all {F : Int → Int} {xs : List Int} {n : Nat} (hx : xs.length = n) : fillZ F xs n n = xs.map F := by
  unfold fillZ
  rw [List.take_of_length_le (by omega), padZ_full (by rw [List.length_map]; exact hx)]
theorem fillZ_set {F : Int → Int} {xs : List Int} {n j : Nat} (hx : xs.length = n) (h : j < n) : (fillZ F xs n j).set j (F (xs.getD j 0)) = fillZ F xs n (j + 1) := by
  unfold fillZ
  rw [padZ_set (by rw [List.length_map, List.length_take]; omega) h, take_step xs (by omega), List.map_append]
  rfl
theorem OwnI.of_block {k : IntKind} {T : TypeId} {w : World} {base g n : Nat} {xs : List Int} (hg : w.heap[g]? = some (.cells (xs.map (Value.int k)).toArray T (0, 0))) (hn : xs.length = n) (hb : base ≤ g) (hm : n ≤ maxLen) : OwnI k T w base (.slice (some ⟨g, 0, none⟩) n n) xs := by
  subst hn
  exact ⟨by simp, Or.inr ⟨g, xs.length, _, rfl, hb, hg, Nat.le_refl _, hm, by simp, by rw [List.toList_toArray, Nat.mul_one]; exact List.take_of_length_le (by rw [List.length_map]; exact Nat.le_refl _)⟩⟩
/-- 'copy' into a block that is known whole: what the call answers, and what the block holds then. -/
theorem copy_run {P : Program} (w : World) (dT sT ty elem : TypeId) (hu : P.underlying dT = some (.slice elem)) (hs : (P.info? elem).map (·.size) = some 1) (g o dLen dCap : Nat) (a : Addr) (sLen sCap : Nat) (cur : List Value) (t : TypeId) (cs : List Value) (c : Nat)
    (hg : w.heap[g]? = some (.cells cur.toArray t (0, 0))) (hc : cs.length = c) (hn : c = Nat.min sLen dLen)
    (hsrc : ∀ j v, cs[j]? = some v → w.cell? (a.add j) = some v) (hfit : o + c ≤ cur.length) (h1 : ∀ v ∈ cs, v.oneCell' = true) (B : Nat) (hB : B ≤ g) :
    ∃ w', (Builtin.copy_ #[dT, sT] ty #[.slice (some ⟨g, o, none⟩) dLen dCap, .slice (some a) sLen sCap]).run P w = .ok (.int .i64 (c : Int)) w' ∧ w'.heap[g]? = some (.cells (splice cur o cs).toArray t (0, 0)) ∧ Below B w w' := by
  subst hc
  refine ⟨_, run_copy_row (P := P) w dT sT ty elem g o dLen dCap a sLen sCap cur.toArray t cs hu hs hg hn hsrc (by simpa using hfit) h1, ?_, below_setRow (Below.refl _ _) hB _⟩
  simpa [splice] using setRow_heap w g _ _ t _ hg
theorem below_made {w w1 w2 : World} (h : Below w.heap.size w w1) (hg : w1.grownBy w2 none) : Below w.heap.size w w2 := h.grown hg h.size (fun j hj => by cases hj)
end Go.Proofs.YtlknopmpbkepjaaGreatDoor

/- What a store in one block leaves alone; pieces of rows. No number of the program stands in it. -/
namespace Go.Proofs.YtlknopmpbkepjaaGreatDoor
open Go.RowKit


/-- Nothing that there was is turned, but the block b. -/
theorem grown_set (w : World) (b o : Nat) (u : Value) : w.grownBy (w.setCell ⟨b, o, none⟩ u) (some b) :=
  ⟨rfl, rfl, rfl, by simp [World.setCell], fun k hk hne => Below.heap_setCell _ _ _ _ (fun e => hne (by rw [e]))⟩
theorem grown_drewN (w : World) (n : Nat) (row : Option Nat) : w.grownBy (w.drewN n) row := ⟨rfl, rfl, rfl, Nat.le_refl _, fun _ _ _ => rfl⟩
theorem grown_drew (w : World) (row : Option Nat) : w.grownBy w.drew row := ⟨rfl, rfl, rfl, Nat.le_refl _, fun _ _ _ => rfl⟩
theorem grown_below {w w' : World} (h : Below w.heap.size w w') (row : Option Nat) : w.grownBy w' row := ⟨h.os, h.tape, h.output, h.size, fun k hk _ => h.block k hk⟩
theorem below_grown {w w' : World} (h : w.grownBy w' none) : Below w.heap.size w w' := ⟨h.os, h.tape, h.output, h.size, fun k hk => h.block k hk (by simp)⟩
/-- A cell of another block. -/
theorem cg {w w' : World} {row : Option Nat} {b o : Nat} {v : Value} (hg : w.grownBy w' row) (hne : some b ≠ row) (hc : w.cell? ⟨b, o, none⟩ = some v) : w'.cell? ⟨b, o, none⟩ = some v := hg.cell hc hne
theorem fg {w w' : World} {row : Option Nat} {b o : Nat} {v : Value} (hg : w.grownBy w' row) (hne : some b ≠ row) (hc : w.cell? ⟨b, o, none⟩ = some v) (hf : w.frozen? ⟨b, o, none⟩ = false) : w'.frozen? ⟨b, o, none⟩ = false :=
  (hg.frozen_far ⟨b, o, none⟩ (cell_ltL hc) hne).trans hf
theorem RowAt.grown {k : IntKind} {w w' : World} {b off : Nat} {xs : List Int} {row : Option Nat} (h : RowAt k w (some ⟨b, off, none⟩) xs) (hg : w.grownBy w' row) (hne : some b ≠ row) : RowAt k w' (some ⟨b, off, none⟩) xs := by
  by_cases e : xs = []
  · exact Or.inl e
  · exact Or.inr ⟨b, off, rfl, fun j hj => cg hg hne (h.at hj)⟩
/-- A piece of a row. -/
theorem RowAt.part {k : IntKind} {w : World} {b off : Nat} {xs : List Int} (h : RowAt k w (some ⟨b, off, none⟩) xs) (i n : Nat) (hn : i + n ≤ xs.length) : RowAt k w (some ⟨b, off + i, none⟩) ((xs.drop i).take n) := by
  refine Or.inr ⟨b, off + i, rfl, fun j hj => ?_⟩
  have hj' : j < n := by rw [List.length_take] at hj; omega
  have := h.at (j := i + j) (by omega)
  rw [← Nat.add_assoc] at this
  rw [this, List.getD_eq_getElem?_getD, List.getD_eq_getElem?_getD, List.getElem?_take, if_pos hj', List.getElem?_drop]
/-- One number of it is written over. -/
theorem RowAt.put {k : IntKind} {w : World} {b off : Nat} {xs : List Int} (h : RowAt k w (some ⟨b, off, none⟩) xs) (j : Nat) (hj : j < xs.length) (x : Int) : RowAt k (w.setCell ⟨b, off + j, none⟩ (.int k x)) (some ⟨b, off, none⟩) (xs.set j x) := by
  refine Or.inr ⟨b, off, rfl, fun i hi => ?_⟩
  rw [List.length_set] at hi
  by_cases e : i = j
  · subst e
    rw [World.cell?_setCell_same' _ _ _ (by rw [h.at hi]; rfl), List.getD_eq_getElem?_getD, List.getElem?_set_self hi]
    rfl
  · rw [World.cell?_setCell_other _ _ _ _ (by intro e'; simp only [Addr.mk.injEq, and_true] at e'; omega), h.at hi, List.getD_eq_getElem?_getD, List.getD_eq_getElem?_getD, List.getElem?_set_ne (fun g => e g.symm)]
theorem own_row {k : IntKind} {T : TypeId} {w : World} {base n : Nat} {v : Value} {xs : List Int} (h : OwnI k T w base v xs) (hn : xs.length = n) (h0 : 1 ≤ n) :
    ∃ b cap, v = .slice (some ⟨b, 0, none⟩) n cap ∧ base ≤ b ∧ b < w.heap.size ∧ RowAt k w (some ⟨b, 0, none⟩) xs ∧ n ≤ cap ∧ ∀ j, w.frozen? ⟨b, j, none⟩ = false := by
  have h' := h
  subst hn
  obtain ⟨ad, cap, rfl, hr, hz, hs, hc⟩ := h.form
  rcases ad with _ | a
  · have := (hz rfl).1
    rw [this] at h0
    exact absurd h0 (by decide)
  · obtain ⟨g, rfl, hb, hl⟩ := hs a rfl
    exact ⟨g, cap, rfl, hb, hl, hr, hc, fun j => OwnI.frozenAt h' rfl j⟩
/-- The world but for how much of the tape is drawn. -/
def Drew (w w' : World) : Prop := ∃ m, w' = w.drewN m
theorem Drew.refl (w : World) : Drew w w := ⟨0, rfl⟩
theorem Drew.more {w w' : World} (h : Drew w w') (n : Nat) : Drew w (w'.drewN n) := by
  obtain ⟨m, rfl⟩ := h
  exact ⟨m + n, World.drewN_drewN _ _ _⟩
theorem Drew.below {w w' : World} (h : Drew w w') : Below w.heap.size w w' := by
  obtain ⟨m, rfl⟩ := h
  exact bdN (Below.refl _ _) m
theorem Drew.grown {w w' : World} (h : Drew w w') (row : Option Nat) : w.grownBy w' row := grown_below h.below row
/-- A callee that only draws, in a region that draws and only reads. -/
theorem calmD {P : Program} {f : FuncId} {args : Array Value} {u : Value} {w : World} {n : Nat} (h : Calls P f args (w.drewN n) fun e w' => e = .returned u ∧ Drew (w.drewN n) w') :
    Calls P f args (w.drewN n) fun e w'' => e = .returned u ∧ ∃ m, w'' = w.drewN m := Calls.quiet_of h
end Go.Proofs.YtlknopmpbkepjaaGreatDoor

/- Operations as texts: the document's signs, names, digits, rows of numbers. -/
namespace Go.Proofs.YtlknopmpbkepjaaGreatDoor
open Go.RowKit


theorem txt_app {a b : List Int} (ha : Byts a) (hb : Byts b) : txt a ++ txt b = txt (a ++ b) := txt_of (by rw [byt_add, byt_txt ha, byt_txt hb])
theorem txt_nil : txt [] = ⟨#[]⟩ := rfl
theorem kind_of (k : Int) : k = 0 ∨ k = 1 ∨ k = 2 ∨ k = 3 ∨ (k ≠ 0 ∧ k ≠ 1 ∧ k ≠ 2 ∧ k ≠ 3) := by omega
theorem take_row {xs : List Int} {k : Nat} (hk : k < xs.length) : xs.take (k + 1) = xs.take k ++ [xs.getD k 0] := by
  rw [List.take_add_one, List.getD_eq_getElem?_getD, List.getElem?_eq_getElem hk]
  rfl
end Go.Proofs.YtlknopmpbkepjaaGreatDoor

/- Sums and bounds, held: the program's; and the law on them. -/
namespace Go.Proofs.YtlknopmpbkepjaaGreatDoor
open Go.RowKit


theorem fixadd_any (a b : Int) (h0 : -9223372036854775808 ≤ a) (h1 : a ≤ 9223372036854775807) (k0 : -9223372036854775808 ≤ b) (k1 : b ≤ 9223372036854775807) (w : World) :
    Calls Tryz.prog 50 #[.int .i64 a, .int .i64 b] w fun e w' => e = .returned (.int .i64 (holdI (a + b))) ∧ w = w' := by
  by_cases hp : 0 < b
  · by_cases hc : 9223372036854775807 - b < a
    · rw [holdI_hi (by omega)]
      go_enter Tryz.func50, Tryz.ntmps50
      go_wp2
      go_ret
      exact ⟨rfl, rfl⟩
    · rw [holdI_in (by omega) (by omega)]
      go_enter Tryz.func50, Tryz.ntmps50
      go_wp2
      go_ret
      exact ⟨rfl, rfl⟩
  by_cases hn : b < 0
  · by_cases hc : a < -9223372036854775808 - b
    · rw [holdI_lo (by omega)]
      go_enter Tryz.func50, Tryz.ntmps50
      go_wp2
      go_ret
      exact ⟨rfl, rfl⟩
    · rw [holdI_in (by omega) (by omega)]
      go_enter Tryz.func50, Tryz.ntmps50
      go_wp2
      go_ret
      exact ⟨rfl, rfl⟩
  · obtain rfl : b = 0 := by omega
    rw [holdI_in (by omega) (by omega)]
    go_enter Tryz.func50, Tryz.ntmps50
    go_wp2
    go_ret
    exact ⟨by first | rfl | simp, rfl⟩
end Go.Proofs.YtlknopmpbkepjaaGreatDoor

/- What stands beyond the edge: the program's answer, and the document's. -/
namespace Go.Proofs.YtlknopmpbkepjaaGreatDoor
open Go.RowKit

theorem knownE_yes (p : Int) (p0 : 0 ≤ p) (p1 : p ≤ 2) (w : World) :
    Calls Tryz.prog 24 #[.int .i64 p] w fun e w' => e = .returned (.bool true) ∧ w = w' := by
  go_enter Tryz.func24, Tryz.ntmps24
  go_wp2
  go_ret
  first | exact ⟨rfl, rfl⟩ | exact ⟨ret_bool (decide_eq_true (by omega)), rfl⟩
theorem knownE_no (p : Int) (h : p < 0 ∨ 2 < p) (w : World) :
    Calls Tryz.prog 24 #[.int .i64 p] w fun e w' => e = .returned (.bool false) ∧ w = w' := by
  rcases h with h | h
  all_goals
    go_enter Tryz.func24, Tryz.ntmps24
    go_wp2
    go_ret
    first | exact ⟨rfl, rfl⟩ | exact ⟨ret_bool (decide_eq_false (by omega)), rfl⟩
end Go.Proofs.YtlknopmpbkepjaaGreatDoor

/- What 'make' makes of numbers of 64 bits. -/
namespace Go.Proofs.YtlknopmpbkepjaaGreatDoor
open Go.RowKit


theorem infoI64Q : (Tryz.prog.info? 2).map (fun i => (i.zero, i.size, i.bytes)) = some (some (.int .i64 0), 1, 8) := by kernel_rfl
theorem make64 (n : Nat) (h : n ≤ 1048576) : ∃ zs : Array Value, (∀ w : World, (Instr.makeSlice 24 (.int .i64 (n : Int)) (.int .i64 (n : Int))).run Tryz.prog w = .ok (.slice (some ⟨w.heap.size, 0, none⟩) n n) (w.alloc (.cells zs 2))) ∧ (∀ (w : World) (B : Nat), B ≤ w.heap.size → OwnI .i64 2 (w.alloc (.cells zs 2)) B (.slice (some ⟨w.heap.size, 0, none⟩) n n) (List.replicate n 0)) ∧ zs.toList = List.replicate n (.int .i64 0) := by
  obtain ⟨i0, hi, hz0, hz1, hz2⟩ := info_parts infoI64Q
  have hm : (n : Int) ≤ 9223372036854775807 := by omega
  refine ⟨madeCells (Value.int .i64 0).cells (n * i0.size), fun w => ?_, fun w B hB => ?_, ?_⟩
  · have hr := run_make (P := Tryz.prog) w 24 2 i0 (.int .i64 0) Tryz.underlying24 hi hz0 .i64 .i64 n n (by omega) (Int.le_refl _) (by rw [hz2]; omega) hm
    simpa only [Int.toNat_natCast] using hr
  · refine OwnI.made ?_
    rw [hz1]
    exact World.ownsRow_lit w _ n hB (by unfold maxLen; omega) (by rw [size_madeCells])
  · rw [hz1, Nat.mul_one]; exact toList_madeCells_one _ _
end Go.Proofs.YtlknopmpbkepjaaGreatDoor

/- The policies' names: the table out of what the row lists, the program's answers, and the law. -/
namespace Go.Proofs.YtlknopmpbkepjaaGreatDoor
open Go.ChangeShapes Go.WideShapes Go.ChangeAt Go.WideMaps Go.WideElems Go.RowKit

theorem gNamesE : Tryz.prog.globalNamed "smalto/border.names" = some 0 := by kernel_rfl
theorem tNamesE : (Tryz.prog.globals[0]?).map (·.type) = some 59 := by kernel_rfl
theorem cellsNamesE : Tryz.prog.cellsOf 59 = 3 := by kernel_rfl
theorem cellsStrE : Tryz.prog.cellsOf 9 = 1 := by kernel_rfl
/-- The names' bytes. -/
abbrev nClamp : ByteArray := ⟨#[99, 108, 97, 109, 112]⟩
abbrev nMirror : ByteArray := ⟨#[109, 105, 114, 114, 111, 114]⟩
abbrev nWrap : ByteArray := ⟨#[119, 114, 97, 112]⟩
theorem bytes_of {s : ByteArray} {l : List UInt8} (h : s.data.toList = l) : s = ⟨l.toArray⟩ := by
  subst h; rfl
theorem str_cell {H : Type} {enc : TypeId × Value → H} {w : World} {base : Nat} {sp : Nat → Bool} {held : Bool} {fuel : Nat} {a : Value} {l : List UInt8} {y : DataW H × List MemPlace}
    (h : DataW.trod enc Tryz.prog w base sp held fuel 9 [a] = some y) (hy : y.1 = .lit (.string l)) : a = .string ⟨l.toArray⟩ := by
  obtain ⟨s, e0, rfl, _⟩ := DataW.trod_string Tryz.underlying9 h
  simp at e0 hy
  rw [e0, bytes_of hy]
set_option maxRecDepth 100000 in
theorem names_cells {H : Type} {enc : TypeId × Value → H} {w : World} {base : Nat} {sp : Nat → Bool} {held : Bool} {fuel : Nat} {cs : Array Value} {p : List MemPlace}
    (h : DataW.trod enc Tryz.prog w base sp held fuel 59 cs.toList = some (Rows.laid_smalto_border_names, p)) :
    cs = #[.string nClamp, .string nMirror, .string nWrap] := by
  obtain ⟨l⟩ := cs
  obtain ⟨xs, m, rfl, hx, hl, hn, he⟩ := DataW.trod_array Tryz.underlying59 h
  rw [cellsNamesE] at hl
  rw [cellsStrE] at he
  obtain ⟨c0, c1, c2, rfl⟩ : ∃ c0 c1 c2, l = [c0, c1, c2] := by
    match l, hl with
    | [a, b, c], _ => exact ⟨a, b, c, rfl⟩
  obtain ⟨y0, y1, y2, rfl⟩ : ∃ y0 y1 y2, xs = [y0, y1, y2] := by
    match xs, hn with
    | [a, b, c], _ => exact ⟨a, b, c, rfl⟩
  have h0 := he 0 (by omega)
  have h1 := he 1 (by omega)
  have h2 := he 2 (by omega)
  simp at h0 h1 h2
  simp [Rows.laid_smalto_border_names] at hx
  obtain ⟨⟨g0, g1, g2⟩, _⟩ := hx
  obtain rfl := str_cell h0 g0.symm
  obtain rfl := str_cell h1 g1.symm
  obtain rfl := str_cell h2 g2.symm
  rfl
/-- What the program's table of names holds. -/
def NamesE (w : World) : Prop :=
  w.cell? ⟨0, 0, none⟩ = some (.string nClamp) ∧ w.cell? ⟨0, 1, none⟩ = some (.string nMirror) ∧ w.cell? ⟨0, 2, none⟩ = some (.string nWrap)
theorem cell_ltE {w : World} {b o : Nat} {v : Value} (h : w.cell? ⟨b, o, none⟩ = some v) : b < w.heap.size := by
  by_cases g : b < w.heap.size
  · exact g
  · have e : w.heap[b]? = none := Array.getElem?_eq_none (by omega)
    simp [World.cell?, e] at h
theorem namesE_below {w w1 : World} (h : NamesE w) (b : Below w.heap.size w w1) : NamesE w1 := by
  obtain ⟨c0, c1, c2⟩ := h
  have lc := cell_ltE c0
  exact ⟨cb b lc c0, cb b lc c1, cb b lc c2⟩
/-! ### The program's answers -/
def nameE (p : Int) : Value := if p = 0 then .string nClamp else if p = 1 then .string nMirror else if p = 2 then .string nWrap else .string ⟨#[]⟩
theorem nameE_any (p : Int) (w : World) (hk : NamesE w) :
    Calls Tryz.prog 16 #[.int .i64 p] w fun e w' => e = .returned (nameE p) ∧ w = w' := by
  obtain ⟨k0, k1, k2⟩ := hk
  by_cases h0 : p = 0
  · subst h0
    have C := fun w => knownE_yes 0 (by omega) (by omega) w
    go_enter Tryz.func16, Tryz.ntmps16
    go_wp2_with (go_at_call 24; (with_reducible refine (C _).mono ?_); rintro e w1 ⟨rfl, rfl⟩)
    go_ret
    exact ⟨rfl, rfl⟩
  by_cases h1 : p = 1
  · subst h1
    have C := fun w => knownE_yes 1 (by omega) (by omega) w
    go_enter Tryz.func16, Tryz.ntmps16
    go_wp2_with (go_at_call 24; (with_reducible refine (C _).mono ?_); rintro e w1 ⟨rfl, rfl⟩)
    go_ret
    exact ⟨rfl, rfl⟩
  by_cases h2 : p = 2
  · subst h2
    have C := fun w => knownE_yes 2 (by omega) (by omega) w
    go_enter Tryz.func16, Tryz.ntmps16
    go_wp2_with (go_at_call 24; (with_reducible refine (C _).mono ?_); rintro e w1 ⟨rfl, rfl⟩)
    go_ret
    exact ⟨rfl, rfl⟩
  · have C := fun w => knownE_no p (by omega) w
    rw [show nameE p = .string ⟨#[]⟩ by unfold nameE; rw [if_neg h0, if_neg h1, if_neg h2]]
    clear h0 h1 h2 k0 k1 k2
    go_enter Tryz.func16, Tryz.ntmps16
    go_wp2_with (go_at_call 24; (with_reducible refine (C _).mono ?_); rintro e w1 ⟨rfl, rfl⟩)
    go_ret
    exact ⟨rfl, rfl⟩
theorem str_ne {s : ByteArray} {l : List UInt8} (h : s ≠ ⟨l.toArray⟩) : (l == s.toList) = false := by
  refine beq_eq_false_iff_ne.2 fun e => h ?_
  rw [ByteArray.toList_eq] at e
  exact bytes_of e.symm
end Go.Proofs.YtlknopmpbkepjaaGreatDoor
