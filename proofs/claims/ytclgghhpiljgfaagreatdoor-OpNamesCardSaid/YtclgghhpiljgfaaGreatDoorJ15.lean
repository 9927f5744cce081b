/- Parts, joined. -/
import Derived.Test.YtclgghhpiljgfaaGreatDoorJ14
import Derived.Test.YtclgghhpiljgfaaGreatDoorRows
import Derived.Test.YtclgghhpiljgfaaGreatDoorJ01
import Derived.Test.YtclgghhpiljgfaaGreatDoorJ04
import Derived.ProofKit
import Derived.LaidMore
import Derived.OpenShut
import Derived.WalkKit
import Derived.OwnWalk
import Derived.Laws.OwnMore
import Derived.ArgAppend
import Derived.Laws.AppendOwnNone
import Derived.Deep.QuietTactic
/- The table of filters, out of what the row lists. -/
namespace Go.Proofs.YtclgghhpiljgfaaGreatDoor
open Go.ChangeShapes Go.WideShapes Go.ChangeAt Go.WideMaps Go.WideElems Go.RowKit

theorem gKinds : Tryz.prog.globalNamed "smalto/raw.kinds" = some 2 := by kernel_rfl
theorem tKinds : (Tryz.prog.globals[2]?).map (·.type) = some 108 := by kernel_rfl
theorem cellsKinds : Tryz.prog.cellsOf 108 = 6 := by kernel_rfl
theorem cellsKind : Tryz.prog.cellsOf 107 = 2 := by kernel_rfl
theorem cellsStrK : Tryz.prog.cellsOf 9 = 1 := by kernel_rfl
theorem cellsI64K : Tryz.prog.cellsOf 2 = 1 := by kernel_rfl
theorem string_of_bytes {s : ByteArray} {l : List UInt8} (h : s.data.toList = l) : s = ⟨l.toArray⟩ := by
  subst h; rfl
theorem kind_cells {H : Type} {enc : TypeId × Value → H} {w : World} {base : Nat} {sp : Nat → Bool} {held : Bool} {fuel : Nat} {a b : Value} {l : List UInt8} {n : Int} {y : DataW H × List MemPlace}
    (h : DataW.trod enc Tryz.prog w base sp held fuel 107 [a, b] = some y) (hy : y.1 = .agg [.lit (.string l), .lit (.int .i64 n)]) : a = .string ⟨l.toArray⟩ ∧ b = .int .i64 n := by
  obtain ⟨y0, y1, m, rfl, _, h0, h1⟩ := trod_struct2 Tryz.underlying107 h
  simp [cellsStrK, cellsI64K] at h0 h1 hy
  obtain ⟨s, e0, rfl, _⟩ := DataW.trod_string Tryz.underlying9 h0
  obtain ⟨k, e1, rfl, _⟩ := DataW.trod_int Tryz.underlying2 h1
  simp at e0 e1 hy
  obtain ⟨g0, rfl⟩ := hy
  exact ⟨by rw [e0, string_of_bytes g0], e1⟩
set_option maxRecDepth 100000 in
theorem kinds_cells {H : Type} {enc : TypeId × Value → H} {w : World} {base : Nat} {sp : Nat → Bool} {held : Bool} {fuel : Nat} {cs : Array Value} {p : List MemPlace}
    (h : DataW.trod enc Tryz.prog w base sp held fuel 108 cs.toList = some (Rows.laid_smalto_raw_kinds, p)) :
    cs = #[.string ⟨#[98, 111, 120]⟩, .int .i64 0, .string ⟨#[99, 117, 98, 105, 99]⟩, .int .i64 2, .string ⟨#[108, 97, 110, 99, 122, 111, 115]⟩, .int .i64 3] := by
  obtain ⟨l⟩ := cs
  obtain ⟨xs, m, rfl, hx, hl, hn, he⟩ := DataW.trod_array Tryz.underlying108 h
  rw [cellsKinds] at hl
  rw [cellsKind] at he
  obtain ⟨c0, c1, c2, c3, c4, c5, rfl⟩ : ∃ c0 c1 c2 c3 c4 c5, l = [c0, c1, c2, c3, c4, c5] := by
    match l, hl with
    | [a, b, c, d, e, f], _ => exact ⟨a, b, c, d, e, f, rfl⟩
  obtain ⟨y0, y1, y2, rfl⟩ : ∃ y0 y1 y2, xs = [y0, y1, y2] := by
    match xs, hn with
    | [a, b, c], _ => exact ⟨a, b, c, rfl⟩
  have h0 := he 0 (by omega)
  have h1 := he 1 (by omega)
  have h2 := he 2 (by omega)
  simp at h0 h1 h2
  simp [Rows.laid_smalto_raw_kinds] at hx
  obtain ⟨⟨g0, g1, g2⟩, _⟩ := hx
  obtain ⟨rfl, rfl⟩ := kind_cells h0 g0.symm
  obtain ⟨rfl, rfl⟩ := kind_cells h1 g1.symm
  obtain ⟨rfl, rfl⟩ := kind_cells h2 g2.symm
  rfl
end Go.Proofs.YtclgghhpiljgfaaGreatDoor

/- Weights that come to one: plain arithmetic. -/
namespace Go.Proofs.YtclgghhpiljgfaaGreatDoor


/-- Sums that are held at each step. -/
def plusH (a b : Int) : Int := holdI (a + b)
def absH (x : Int) : Int := holdI (absI x)
def sumH (l : List Int) : Int := l.foldl plusH 0
def sizeH (l : List Int) : Int := l.foldl (fun s x => plusH s (absH x)) 0
theorem plusH_in (a b : Int) : -9223372036854775808 ≤ plusH a b ∧ plusH a b ≤ 9223372036854775807 := ⟨holdI0 _, holdI1 _⟩
theorem sumH_snoc (l : List Int) (x : Int) : sumH (l ++ [x]) = plusH (sumH l) x := by unfold sumH; rw [List.foldl_append]; rfl
theorem sizeH_snoc (l : List Int) (x : Int) : sizeH (l ++ [x]) = plusH (sizeH l) (absH x) := by unfold sizeH; rw [List.foldl_append]; rfl
theorem snoc_ind {P : List Int → Prop} (h0 : P []) (hs : ∀ l x, P l → P (l ++ [x])) (l : List Int) : P l := by
  have : ∀ n (l : List Int), l.length = n → P l := by
    intro n
    induction n with
    | zero => intro l hl; rw [List.eq_nil_of_length_eq_zero hl]; exact h0
    | succ n ih =>
      intro l hl
      have hne : l ≠ [] := by intro e; subst e; simp at hl
      rw [← List.dropLast_concat_getLast hne]
      exact hs _ _ (ih _ (by rw [List.length_dropLast, hl]; rfl))
  exact this l.length l rfl
theorem sumH_in (l : List Int) : -9223372036854775808 ≤ sumH l ∧ sumH l ≤ 9223372036854775807 := by
  refine snoc_ind (P := fun l => -9223372036854775808 ≤ sumH l ∧ sumH l ≤ 9223372036854775807) (by decide) ?_ l
  intro l x _; rw [sumH_snoc]; exact plusH_in _ _
theorem sizeH_in (l : List Int) : 0 ≤ sizeH l ∧ sizeH l ≤ 9223372036854775807 := by
  refine snoc_ind (P := fun l => 0 ≤ sizeH l ∧ sizeH l ≤ 9223372036854775807) (by decide) ?_ l
  intro l x ih; rw [sizeH_snoc]
  have : 0 ≤ absH x := by unfold absH holdI; have := absI0 x; split <;> (try split) <;> omega
  refine ⟨?_, (plusH_in _ _).2⟩
  unfold plusH holdI; split <;> (try split) <;> omega
/-- What may be apportioned. -/
def smallW (x : Int) : Prop := -1099511627776 ≤ x ∧ x ≤ 1099511627776
theorem sumH_small (l : List Int) (h : ∀ x ∈ l, smallW x) (hl : l.length ≤ 1048576) : sumH l = l.sum ∧ -((l.length : Int) * 1099511627776) ≤ l.sum ∧ l.sum ≤ (l.length : Int) * 1099511627776 := by
  revert h hl
  refine snoc_ind (P := fun l => (∀ x ∈ l, smallW x) → l.length ≤ 1048576 → sumH l = l.sum ∧ -((l.length : Int) * 1099511627776) ≤ l.sum ∧ l.sum ≤ (l.length : Int) * 1099511627776) ?_ ?_ l
  · intro _ _; exact ⟨rfl, by simp, by simp⟩
  · intro l x ih h hl
    rw [List.length_append] at hl
    simp at hl
    obtain ⟨e, a, b⟩ := ih (fun y hy => h y (by simp [hy])) (by omega)
    have hx := h x (by simp)
    unfold smallW at hx
    have e1 : ((l ++ [x]).length : Int) = (l.length : Int) + 1 := by simp
    have e2 : (l ++ [x]).sum = l.sum + x := by simp
    rw [sumH_snoc, e, e1, e2]
    unfold plusH
    rw [holdI_in (by omega) (by omega)]
    omega
/-- First each has so much, and a rest. -/
def quotW (s x : Int) : Int := floorF (x * 16384) s
def restW (s x : Int) : Int := x * 16384 - quotW s x * s
theorem quotW_at {s x : Int} (s0 : 0 < s) (h : smallW x) : quotW s x = x * 16384 / s ∧ restW s x = x * 16384 % s ∧ 0 ≤ restW s x ∧ restW s x < s ∧ -18014398509481984 ≤ quotW s x ∧ quotW s x ≤ 18014398509481984 := by
  unfold smallW at h
  have e := Int.mul_ediv_add_emod (x * 16384) s
  have r0 := Int.emod_nonneg (x * 16384) (show s ≠ 0 by omega)
  have r1 := Int.emod_lt_of_pos (x * 16384) s0
  have up : x * 16384 / s ≤ 18014398509481984 := by
    have : x * 16384 / s < 18014398509481985 := Int.ediv_lt_of_lt_mul s0 (by omega)
    omega
  have dn : -18014398509481984 ≤ x * 16384 / s := by
    apply Int.le_ediv_of_mul_le s0
    omega
  have q : quotW s x = x * 16384 / s := by
    unfold quotW
    rw [floorF_of (by omega)]
    unfold floorQ
    rw [if_neg (by omega), holdI_in (by omega) (by omega)]
  have r : restW s x = x * 16384 % s := by
    unfold restW
    rw [q, Int.mul_comm (x * 16384 / s) s]; omega
  exact ⟨q, r, by omega, by omega, by omega, by omega⟩
def quotsW (s : Int) (l : List Int) : List Int := l.map (quotW s)
def restsW (s : Int) (l : List Int) : List Int := l.map (restW s)
/-- The place of the greatest rest among the first ones, the one ahead of equal ones. -/
def bestTo (r : List Int) : Nat → Nat
  | 0 => 0
  | k + 1 => if r.getD (bestTo r k) 0 < r.getD k 0 then k else bestTo r k
theorem bestTo_lt (r : List Int) (k : Nat) : bestTo r k < max k 1 := by
  induction k with
  | zero => simp [bestTo]
  | succ k ih => unfold bestTo; split <;> omega
theorem bestTo_max (r : List Int) (k : Nat) (j : Nat) (h : j < k) : r.getD j 0 ≤ r.getD (bestTo r k) 0 := by
  induction k with
  | zero => omega
  | succ k ih =>
    unfold bestTo
    by_cases g : r.getD (bestTo r k) 0 < r.getD k 0
    · rw [if_pos g]
      by_cases e : j = k
      · subst e; exact Int.le_refl _
      · have := ih (by omega); omega
    · rw [if_neg g]
      by_cases e : j = k
      · subst e; omega
      · exact ih (by omega)
theorem bestTo_first (r : List Int) (k : Nat) (j : Nat) (h : j < bestTo r k) : r.getD j 0 < r.getD (bestTo r k) 0 := by
  induction k with
  | zero => simp [bestTo] at h
  | succ k ih =>
    unfold bestTo at h ⊢
    by_cases g : r.getD (bestTo r k) 0 < r.getD k 0
    · rw [if_pos g] at h ⊢
      have := bestTo_max r k j h
      omega
    · rw [if_neg g] at h ⊢
      exact ih h
/-- What lacks is given, one each. -/
def giveN (o r : List Int) : Nat → List Int × List Int
  | 0 => (o, r)
  | m + 1 => ((giveN o r m).1.set (bestTo (giveN o r m).2 (giveN o r m).2.length) ((giveN o r m).1.getD (bestTo (giveN o r m).2 (giveN o r m).2.length) 0 + 1), (giveN o r m).2.set (bestTo (giveN o r m).2 (giveN o r m).2.length) (-1))
theorem giveN_len (o r : List Int) (m : Nat) : (giveN o r m).1.length = o.length ∧ (giveN o r m).2.length = r.length := by
  induction m with
  | zero => exact ⟨rfl, rfl⟩
  | succ m ih => unfold giveN; simp only [List.length_set]; exact ih
def leftW (s : Int) (l : List Int) : Int := 16384 - (quotsW s l).sum
def appR (l : List Int) : List Int := (giveN (quotsW (sumH l) l) (restsW (sumH l) l) (leftW (sumH l) l).toNat).1
theorem getD_set (l : List Int) (i j : Nat) (x : Int) (hi : i < l.length) : (l.set i x).getD j 0 = if i = j then x else l.getD j 0 := by
  rw [List.getD_eq_getElem?_getD, List.getElem?_set]
  by_cases h : i = j
  · subst h; simp [hi]
  · simp [h, List.getD_eq_getElem?_getD]
theorem sum_set (l : List Int) (i : Nat) (x : Int) (hi : i < l.length) : (l.set i x).sum = l.sum - l.getD i 0 + x := by
  induction l generalizing i with
  | nil => simp at hi
  | cons a l ih =>
    cases i with
    | zero => simp; omega
    | succ i =>
      have := ih i (by simpa using hi)
      simp only [List.set_cons_succ, List.sum_cons, List.getD_cons_succ]
      omega
end Go.Proofs.YtclgghhpiljgfaaGreatDoor

/- Slices of numbers in memory: what a slice reads as, and slices that the call itself made. No number of the program stands in it. -/
namespace Go.Proofs.YtclgghhpiljgfaaGreatDoor
open Go.RowKit


theorem cell_ltL {w : World} {b o : Nat} {v : Value} (h : w.cell? ⟨b, o, none⟩ = some v) : b < w.heap.size := by
  by_cases g : b < w.heap.size
  · exact g
  · have e : w.heap[b]? = none := Array.getElem?_eq_none (by omega)
    simp [World.cell?, e] at h
/-- The slice at an address reads as these numbers of a kind. -/
def RowAt (k : IntKind) (w : World) (ad : Option Addr) (xs : List Int) : Prop :=
  xs = [] ∨ ∃ b off, ad = some ⟨b, off, none⟩ ∧ ∀ j, j < xs.length → w.cell? ⟨b, off + j, none⟩ = some (.int k (xs.getD j 0))
theorem RowAt.get {k : IntKind} {w : World} {ad : Option Addr} {xs : List Int} (h : RowAt k w ad xs) {j : Nat} (hj : j < xs.length) :
    ∃ b off, ad = some ⟨b, off, none⟩ ∧ w.cell? ⟨b, off + j, none⟩ = some (.int k (xs.getD j 0)) := by
  rcases h with rfl | ⟨b, off, h1, h2⟩
  · exact absurd hj (Nat.not_lt_zero _)
  · exact ⟨b, off, h1, h2 j hj⟩
theorem RowAt.at {k : IntKind} {w : World} {b off : Nat} {xs : List Int} (h : RowAt k w (some ⟨b, off, none⟩) xs) {j : Nat} (hj : j < xs.length) : w.cell? ⟨b, off + j, none⟩ = some (.int k (xs.getD j 0)) := by
  obtain ⟨b', off', e, c⟩ := h.get hj
  simp only [Option.some.injEq, Addr.mk.injEq, and_true] at e
  obtain ⟨rfl, rfl⟩ := e
  exact c
theorem RowAt.nil (k : IntKind) (w : World) (ad : Option Addr) : RowAt k w ad [] := Or.inl rfl
theorem RowAt.below {k : IntKind} {w w' : World} {ad : Option Addr} {xs : List Int} (h : RowAt k w ad xs) (hb : Below w.heap.size w w') : RowAt k w' ad xs := by
  rcases h with h | ⟨b, off, h1, h2⟩
  · exact Or.inl h
  · exact Or.inr ⟨b, off, h1, fun j hj => cb hb (cell_ltL (h2 j hj)) (h2 j hj)⟩
/-- A slice that the call itself made: it owns these numbers. -/
def OwnI (k : IntKind) (T : TypeId) (w : World) (base : Nat) (v : Value) (xs : List Int) : Prop := w.ownsRow base T 1 v xs.length (xs.map (Value.int k))
theorem OwnI.nil (k : IntKind) (T : TypeId) (w : World) (base : Nat) : OwnI k T w base (.slice none 0 0) [] := World.ownsRow_nil _ _ _ _
theorem OwnI.below {k : IntKind} {T : TypeId} {w w' : World} {base : Nat} {v : Value} {xs : List Int} (h : OwnI k T w base v xs) (hb : Below w.heap.size w w') : OwnI k T w' base v xs := by
  refine ⟨h.1, ?_⟩
  rcases h.2 with h2 | ⟨g, cap, cur, hv, hB, hg, r⟩
  · exact .inl h2
  · refine .inr ⟨g, cap, cur, hv, hB, ?_, r⟩
    have hlt : g < w.heap.size := by
      rcases Nat.lt_or_ge g w.heap.size with hlt | hge
      · exact hlt
      · rw [Array.getElem?_eq_none hge] at hg; cases hg
    rw [hb.block g hlt]; exact hg
/-- Its form: nothing, or the head of a block. -/
theorem OwnI.form {k : IntKind} {T : TypeId} {w : World} {base : Nat} {v : Value} {xs : List Int} (h : OwnI k T w base v xs) :
    ∃ ad cap, v = .slice ad xs.length cap ∧ RowAt k w ad xs ∧ (ad = none → xs = [] ∧ cap = 0) ∧ (∀ a, ad = some a → ∃ g, a = ⟨g, 0, none⟩ ∧ base ≤ g ∧ g < w.heap.size) ∧ xs.length ≤ cap := by
  rcases h.2 with ⟨hv, h0⟩ | ⟨g, cap, cur, hv, hB, hg, hn, _, _, ht⟩
  · have e : xs = [] := List.eq_nil_of_length_eq_zero h0
    subst e
    exact ⟨none, 0, hv, Or.inl rfl, fun _ => ⟨rfl, rfl⟩, fun a ha => (by cases ha), Nat.le_refl _⟩
  · have hlt : g < w.heap.size := by
      rcases Nat.lt_or_ge g w.heap.size with hlt | hge
      · exact hlt
      · rw [Array.getElem?_eq_none hge] at hg; cases hg
    refine ⟨some ⟨g, 0, none⟩, cap, hv, Or.inr ⟨g, 0, rfl, fun j hj => ?_⟩, fun ha => (by cases ha), fun a ha => ⟨g, (Option.some.inj ha).symm, hB, hlt⟩, hn⟩
    subst hv
    have c := World.ownsRow.cellAt h j (by omega)
    rw [Nat.zero_add, c, List.getElem?_map, List.getD_eq_getElem?_getD, List.getElem?_eq_getElem hj]
    rfl
theorem OwnI.append {k : IntKind} {T : TypeId} {w : World} {base : Nat} {v : Value} {xs : List Int} {x : Int} (h : w.ownsRow base T 1 v (xs.length + 1) (xs.map (Value.int k) ++ [Value.int k x])) : OwnI k T w base v (xs ++ [x]) := by
  unfold OwnI
  rw [List.length_append, List.map_append]
  exact h
/-- One number written over. -/
theorem OwnI.stored {k : IntKind} {T : TypeId} {w : World} {base g n cap : Nat} {xs : List Int} (h : OwnI k T w base (.slice (some ⟨g, 0, none⟩) n cap) xs) (hn : xs.length = n) (j : Nat) (x : Int) :
    OwnI k T (w.setCell ⟨g, j, none⟩ (.int k x)) base (.slice (some ⟨g, 0, none⟩) n cap) (xs.set j x) := by
  subst hn
  have := (World.ownsRow.stored h j (.int k x)).1
  unfold OwnI
  rw [List.length_set, List.map_set]
  exact this
theorem OwnI.frozenAt {k : IntKind} {T : TypeId} {w : World} {base g n cap : Nat} {xs : List Int} (h : OwnI k T w base (.slice (some ⟨g, 0, none⟩) n cap) xs) (hn : xs.length = n) (j : Nat) : w.frozen? ⟨g, j, none⟩ = false := by
  subst hn; exact World.ownsRow.frozenAt h j
theorem OwnI.cellAt {k : IntKind} {T : TypeId} {w : World} {base g n cap : Nat} {xs : List Int} (h : OwnI k T w base (.slice (some ⟨g, 0, none⟩) n cap) xs) (hn : xs.length = n) {j : Nat} (hj : j < n) : w.cell? ⟨g, j, none⟩ = some (.int k (xs.getD j 0)) := by
  subst hn
  rw [World.ownsRow.cellAt h j (by omega), List.getElem?_map, List.getD_eq_getElem?_getD, List.getElem?_eq_getElem hj]
  rfl
/-- Memory that a write to another block doesn't touch. -/
theorem OwnI.other {k : IntKind} {T : TypeId} {w : World} {base g : Nat} {n cap : Nat} {xs : List Int} {u : Value} (h : OwnI k T w base (.slice (some ⟨g, 0, none⟩) n cap) xs) (b o : Nat) (hne : b ≠ g) : OwnI k T (w.setCell ⟨b, o, none⟩ u) base (.slice (some ⟨g, 0, none⟩) n cap) xs := by
  refine ⟨h.1, ?_⟩
  rcases h.2 with h2 | ⟨g', cap', cur, hv, hB, hg, r⟩
  · exact .inl h2
  · refine .inr ⟨g', cap', cur, hv, hB, ?_, r⟩
    simp only [Value.slice.injEq, Option.some.injEq, Addr.mk.injEq, and_true] at hv
    obtain ⟨⟨rfl, _⟩, _⟩ := hv
    rw [heap_setCell_other w ⟨b, o, none⟩ g u (fun e => hne e.symm)]
    exact hg
theorem OwnI.mono {k : IntKind} {T : TypeId} {w : World} {base base' : Nat} {v : Value} {xs : List Int} (h : OwnI k T w base v xs) (hb : base' ≤ base) : OwnI k T w base' v xs := by
  refine ⟨h.1, ?_⟩
  rcases h.2 with h2 | ⟨g, cap, cur, hv, hB, r⟩
  · exact .inl h2
  · exact .inr ⟨g, cap, cur, hv, by omega, r⟩
theorem take_step (xs : List Int) {j : Nat} (h : j < xs.length) : xs.take (j + 1) = xs.take j ++ [xs.getD j 0] := by
  rw [List.take_succ_eq_append_getElem h, List.getD_eq_getElem?_getD, List.getElem?_eq_getElem h]; rfl
/-- One number is appended. -/
theorem own_more {w0 wc w2 : World} {k : IntKind} {T : TypeId} {v v' : Value} {xs : List Int} {x : Int} {o : Obj} (hb : Below w0.heap.size w0 wc) (hown : OwnI k T wc w0.heap.size v xs)
    (hown' : w2.ownsRow w0.heap.size T 1 v' (xs.length + 1) (xs.map (Value.int k) ++ [Value.int k x])) (hgrow : (wc.alloc o).grownBy w2 v.ownBlock) :
    OwnI k T w2 w0.heap.size v' (xs ++ [x]) ∧ Below w0.heap.size w0 w2 := by
  have hs := hb.size
  exact ⟨OwnI.append hown', (hb.alloc (by omega) o).grown hgrow (by simp; omega) (fun j hj => (World.ownsRow.lt hown j hj).1)⟩
theorem bdN {a w : World} (h : Below a.heap.size a w) (n : Nat) : Below a.heap.size a (w.drewN n) := h.trans ⟨rfl, rfl, rfl, Nat.le_refl _, fun _ _ => rfl⟩
theorem own_fresh {w : World} {B : Nat} {e : TypeId} {size : Nat} {v : Value} {n : Nat} {xs : List Value} (h : w.ownsRow B e size v n xs) : ∀ g, v.ownBlock = some g → B ≤ g := fun g hg => (h.lt g hg).1
theorem own_mono {w : World} {B B' : Nat} {e : TypeId} {size : Nat} {v : Value} {n : Nat} {xs : List Value} (h : w.ownsRow B e size v n xs) (hb : B' ≤ B) : w.ownsRow B' e size v n xs := by
  refine ⟨h.1, ?_⟩
  rcases h.2 with h2 | ⟨g, cap, cur, hv, hB, r⟩
  · exact .inl h2
  · exact .inr ⟨g, cap, cur, hv, by omega, r⟩
theorem grown_none {w w' : World} {row : Option Nat} (h : w.grownBy w' none) : w.grownBy w' row := ⟨h.os, h.tape, h.output, h.size, fun k hk _ => h.block k hk (by simp)⟩
/-- 'append', where it is told that the row stays in its block or goes to a new one. -/
theorem wpList_append_apart {P : Program} (w : World) {ops : Array Oper} {rest : List Oper} {o : Oper} {a : Act} {Q : Exit → Act → World → Prop}
    (hg : o.guard = none) (s x : Operand) (t : TypeId) (hop : o.op = Op.call { callee := Callee.builtin Builtin.append, args := #[s, x], argTypes := #[t, t] })
    (base : Nat) (e : TypeId) (i : TypeInfo) (z : Value) (size bytes : Nat) (h1 : P.underlying t = some (.slice e)) (h2 : P.info? e = some i) (h3 : i.zero = some z) (h4 : i.size = size) (h5 : i.bytes = bytes) (h6 : z.cells.size = size) (h7 : 0 < size)
    (v : Value) (n : Nat) (xs : List Value) (hs : a.eval s = v) (hown : w.ownsRow base e size v n xs)
    (ad : Addr) (m c : Nat) (news : List Value) (hx : a.eval x = .slice (some ad) m c) (hn : news.length = m * size) (hc : ∀ j u, news[j]? = some u → w.cell? (ad.add j) = some u) (h1c : ∀ u ∈ news, u.oneCell' = true)
    (b1 : n + m ≤ maxLen) (b2 : (n + m) * bytes ≤ 140737488355328) (b3 : base ≤ w.heap.size)
    (hK : ∀ v' w', w'.ownsRow base e size v' (n + m) (xs ++ news) → w.grownBy w' v.ownBlock → (v'.ownBlock = v.ownBlock ∨ ∀ g, v'.ownBlock = some g → w.heap.size ≤ g) → wpList P ops Q rest (a.put o.dst v') w') :
    wpList P ops Q (o :: rest) a w := by
  have hown2 := hown
  rcases hown.2 with ⟨rfl, h0⟩ | ⟨g, cap, cur, rfl, hB, hg2, hnc, hcm, hcs, htake⟩
  · refine wpList_append_own w hg s x t hop w.heap.size e i z size bytes h1 h2 h3 h4 h5 h6 h7 (.slice none 0 0) n xs hs ⟨hown.1, .inl ⟨rfl, h0⟩⟩ ad m c news hx hn hc h1c b1 b2 (Nat.le_refl _) ?_
    intro v' w' r1 r2 _
    exact hK v' w' (own_mono r1 b3) r2 (Or.inr (own_fresh r1))
  · by_cases hr : n + m ≤ cap
    · refine wpList_append_fits w hg s x t hop base e i size h1 h2 h4 g n cap xs hs hown ad m c news hx hn hc h1c hr ?_
      intro w' r1 r2
      exact hK _ w' r1 r2 (Or.inl rfl)
    · refine wpList_append_grows w hg s x t hop e i z size bytes h1 h2 h3 h4 h5 h6 h7 (some ⟨g, 0, none⟩) n cap xs hs (fun h => by cases h) hown.1 ?_ ad m c news hx hn hc h1c (by omega) b1 b2 ?_
      · intro b hb j u hj
        obtain rfl := Option.some.inj hb
        exact hown2.cells (g := g) rfl j u hj
      · intro v' w' r1 r2
        exact hK v' w' (own_mono r1 b3) (grown_none r2) (Or.inr (own_fresh r1))
/-- Two slices in blocks of their own. -/
def Apart (v u : Value) : Prop := ∀ g, v.ownBlock = some g → u.ownBlock ≠ some g
theorem Apart.symm {v u : Value} (h : Apart v u) : Apart u v := fun g hg hv => h g hv hg
theorem Apart.nil (u : Value) : Apart (.slice none 0 0) u := fun g hg => by cases hg
theorem Apart.grown {v u v' : Value} {n : Nat} (h : Apart v u) (hu : ∀ g, u.ownBlock = some g → g < n) (hv : v'.ownBlock = v.ownBlock ∨ ∀ g, v'.ownBlock = some g → n ≤ g) : Apart v' u := by
  intro g hg he
  rcases hv with hv | hv
  · exact h g (hv ▸ hg) he
  · have := hv g hg
    have := hu g he
    omega
theorem OwnI.lt {k : IntKind} {T : TypeId} {w : World} {base : Nat} {v : Value} {xs : List Int} (h : OwnI k T w base v xs) : ∀ g, v.ownBlock = some g → g < w.heap.size := fun g hg => (World.ownsRow.lt h g hg).2
theorem OwnI.kept {k : IntKind} {T : TypeId} {w w' : World} {base : Nat} {v u : Value} {xs : List Int} (h : OwnI k T w base v xs) (hg : w.grownBy w' u.ownBlock) (ha : Apart v u) : OwnI k T w' base v xs := by
  refine World.ownsRow.kept h hg ?_
  rcases hv : v.ownBlock with _ | g
  · exact Or.inl rfl
  · exact Or.inr (fun e => ha g hv e.symm)
theorem OwnI.alloc {k : IntKind} {T : TypeId} {w : World} {base : Nat} {v : Value} {xs : List Int} (h : OwnI k T w base v xs) (o : Obj) : OwnI k T (w.alloc o) base v xs := World.ownsRow.alloc h o
theorem new_one (w : World) (u : Value) (t : TypeId) : ∀ j x, [u][j]? = some x → (w.alloc (.cells #[u] t)).cell? ((⟨w.heap.size, 0, none⟩ : Addr).add j) = some x := by
  intro j x h
  match j, h with
  | 0, h => simp at h; subst h; simp [Addr.add]
theorem one_int (k : IntKind) (x : Int) : ∀ u ∈ [Value.int k x], u.oneCell' = true := by
  intro u hu; simp at hu; subst hu; rfl
theorem addr_add (b off j : Nat) : ((⟨b, off, none⟩ : Addr).add j) = ⟨b, off + j, none⟩ := by
  unfold Addr.add
  by_cases hj : j = 0
  · subst hj; rfl
  · simp [hj]
theorem grown_refl (w : World) (row : Option Nat) : w.grownBy w row := ⟨rfl, rfl, rfl, Nat.le_refl _, fun _ _ _ => rfl⟩
/-- 'append(v, l...)', l whatever slice of numbers. -/
theorem wpList_append_row {P : Program} (k : IntKind) (w : World) {ops : Array Oper} {rest : List Oper} {o : Oper} {a : Act} {Q : Exit → Act → World → Prop}
    (hg : o.guard = none) (s x : Operand) (t : TypeId) (hop : o.op = Op.call { callee := Callee.builtin Builtin.append, args := #[s, x], argTypes := #[t, t] })
    (base : Nat) (e : TypeId) (i : TypeInfo) (z : Value) (bytes : Nat) (h1 : P.underlying t = some (.slice e)) (h2 : P.info? e = some i) (h3 : i.zero = some z) (h4 : i.size = 1) (h5 : i.bytes = bytes) (h6 : z.cells.size = 1)
    (v : Value) (ys : List Int) (hs : a.eval s = v) (hown : OwnI k e w base v ys)
    (ad : Option Addr) (n cap : Nat) (xs : List Int) (hx : a.eval x = .slice ad n cap) (hn : xs.length = n) (hr : RowAt k w ad xs) (hz : ad = none → cap = 0)
    (b1 : ys.length + n ≤ maxLen) (b2 : (ys.length + n) * bytes ≤ 140737488355328) (b3 : base ≤ w.heap.size)
    (hK : ∀ v' w', OwnI k e w' base v' (ys ++ xs) → w.grownBy w' v.ownBlock → (v'.ownBlock = v.ownBlock ∨ ∀ g, v'.ownBlock = some g → w.heap.size ≤ g) → wpList P ops Q rest (a.put o.dst v') w') :
    wpList P ops Q (o :: rest) a w := by
  subst hn
  rcases ad with _ | ad
  · have e0 : xs = [] := by
      rcases hr with h | ⟨b, off, h, _⟩
      · exact h
      · cases h
    subst e0
    have hz' := hz rfl
    subst hz'
    refine wpList_append_own_none hg s x t hop base e i 1 h1 h2 v ys.length (ys.map (Value.int k)) hs hown hx ?_
    exact hK v w (by rw [List.append_nil]; exact hown) (grown_refl _ _) (Or.inl rfl)
  · have hc : ∀ j u, (xs.map (Value.int k))[j]? = some u → w.cell? (ad.add j) = some u := by
      intro j u hj
      rw [List.getElem?_map] at hj
      have hlt : j < xs.length := by
        by_cases g : j < xs.length
        · exact g
        · rw [List.getElem?_eq_none (by omega)] at hj; cases hj
      obtain ⟨b, off, e, c⟩ := hr.get hlt
      obtain rfl := Option.some.inj e
      rw [addr_add, c, ← hj, List.getD_eq_getElem?_getD, List.getElem?_eq_getElem hlt]
      rfl
    refine wpList_append_apart w hg s x t hop base e i z 1 bytes h1 h2 h3 h4 h5 h6 (by decide) v ys.length (ys.map (Value.int k)) hs hown ad xs.length cap (xs.map (Value.int k)) hx (by rw [List.length_map, Nat.mul_one]) hc ?_ b1 b2 b3 ?_
    · intro u hu
      obtain ⟨y, _, rfl⟩ := List.mem_map.1 hu
      rfl
    · intro v' w' r1 r2 r3
      refine hK v' w' ?_ r2 r3
      unfold OwnI
      rw [List.length_append, List.map_append]
      exact r1
/-- An empty literal. -/
theorem own_lit0 (k : IntKind) (T : TypeId) (w : World) (base : Nat) (hb : base ≤ w.heap.size) : OwnI k T (w.alloc (.cells #[] T)) base (.slice (some ⟨w.heap.size, 0, none⟩) 0 0) [] :=
  World.ownsRow_lit w #[] 0 hb (by unfold maxLen; omega) (by simp)
theorem OwnI.formn {k : IntKind} {T : TypeId} {w : World} {base n : Nat} {v : Value} {xs : List Int} (h : OwnI k T w base v xs) (hn : xs.length = n) :
    ∃ ad cap, v = .slice ad n cap ∧ RowAt k w ad xs ∧ (ad = none → cap = 0) := by
  subst hn
  obtain ⟨ad, cap, h1, h2, h3, _⟩ := h.form
  exact ⟨ad, cap, h1, h2, fun e => (h3 e).2⟩
theorem grown_lit {w w1 w2 : World} {T : TypeId} (hb : Below w.heap.size w w1) (hg : (w1.alloc (.cells #[] T)).grownBy w2 (Value.slice (some ⟨w1.heap.size, 0, none⟩) 0 0).ownBlock) : Below w.heap.size w w2 := by
  have hs := hb.size
  refine (ba hb _).grown hg (by simp; omega) (fun g h => ?_)
  have e : w1.heap.size = g := Option.some.inj h
  omega
end Go.Proofs.YtclgghhpiljgfaaGreatDoor

/- Two slices of the same numbers: the statements' own comparison. -/
namespace Go.Proofs.YtclgghhpiljgfaaGreatDoor
open Go.RowKit


/-- The same numbers. -/
theorem same_yes (xs : List Int) (ad bd : Option Addr) (cap cap' : Nat) (w : World) (hr : RowAt .i64 w ad xs) (hq : RowAt .i64 w bd xs) (hl : xs.length ≤ 9223372036854775807) :
    Calls Tryz.prog 44 #[.slice ad xs.length cap, .slice bd xs.length cap'] w fun e w' => e = .returned (.bool true) ∧ Below w.heap.size w w' := by
  have HR := hide hr
  have HQ := hide hq
  clear hr hq
  obtain ⟨n, hn⟩ : ∃ n, xs.length = n := ⟨_, rfl⟩
  have HN := hide hn
  rw [hn] at hl ⊢
  clear hn
  go_enter Tryz.func44, Tryz.ntmps44
  go_wp2
  go_loopw [13] (fun i wr => ∃ k : Nat, k ≤ n ∧ i = .int .i64 (k : Int) ∧ Below w.heap.size w wr) (fun i _ => n - (intOf i).toNat)
  case atStart => exact ⟨0, by omega, rfl, Below.refl _ _⟩
  case round =>
    obtain ⟨k, hk, rfl, hb⟩ := hrel
    have HB := hide hb
    clear hb
    by_cases hlt : k < n
    · obtain ⟨b, off, rfl, hc⟩ := (HR.out.below HB.out).get (show k < xs.length by rw [HN.out]; exact hlt)
      obtain ⟨b', off', rfl, hc'⟩ := (HQ.out.below HB.out).get (show k < xs.length by rw [HN.out]; exact hlt)
      generalize xs.getD k 0 = x at *
      go_wp2_with fail
      go_quiet (fail)
      go_wp2
      go_roundw
      case rel => exact ⟨k + 1, by omega, by go_num, bdN HB.out _⟩
      case measure => simp [intOf]; omega
    · obtain rfl : k = n := by omega
      go_wp2
      go_ret
      exact ⟨rfl, HB.out⟩
theorem same_n (n : Nat) (xs : List Int) (hn : xs.length = n) (ad bd : Option Addr) (cap cap' : Nat) (w : World) (hr : RowAt .i64 w ad xs) (hq : RowAt .i64 w bd xs) (hl : n ≤ 9223372036854775807) :
    Calls Tryz.prog 44 #[.slice ad n cap, .slice bd n cap'] w fun e w' => e = .returned (.bool true) ∧ Below w.heap.size w w' := by
  subst hn
  exact same_yes xs ad bd cap cap' w hr hq hl
end Go.Proofs.YtclgghhpiljgfaaGreatDoor
