/- The deeds of a play with a ring in memory: a slice of records of a small number and three great ones. -/
import Derived.Test.YtkkoemcciemloaaLA
import Derived.Deep.Slices
import Derived.Deep.Fields
import Derived.ChangeSame
import Derived.OpenShut
namespace Go.Proofs.Ytkkoemcciemloaa
open Go.RowKit


/-- A deed: where, and which sample. -/
def actD16 (A : List (Int × Int × Int × Int)) (j : Nat) : Int × Int × Int × Int := A.getD j (0, 0, 0, 0)
/-- The cells of one. -/
def ActIn16 (w : World) (b o : Nat) (x : Int × Int × Int × Int) : Prop :=
  w.cell? ⟨b, o, none⟩ = some (.int .u8 x.1) ∧ w.cell? ⟨b, o + 1, none⟩ = some (.int .i64 x.2.1) ∧ w.cell? ⟨b, o + 2, none⟩ = some (.int .i64 x.2.2.1) ∧ w.cell? ⟨b, o + 3, none⟩ = some (.int .i64 x.2.2.2)
/-- What numbers it may have. -/
def ActFits16 (x : Int × Int × Int × Int) : Prop :=
  (0 ≤ x.1 ∧ x.1 ≤ 255) ∧ (-9223372036854775808 ≤ x.2.1 ∧ x.2.1 ≤ 9223372036854775807) ∧ (-9223372036854775808 ≤ x.2.2.1 ∧ x.2.2.1 ≤ 9223372036854775807) ∧ -9223372036854775808 ≤ x.2.2.2 ∧ x.2.2.2 ≤ 9223372036854775807
/-- The slice at an address reads as these deeds. -/
def ActsAt16 (w : World) (ad : Option Addr) (A : List (Int × Int × Int × Int)) : Prop :=
  A = [] ∨ ∃ b off, ad = some ⟨b, off, none⟩ ∧ ∀ j, j < A.length → ActIn16 w b (off + j * 4) (actD16 A j) ∧ ActFits16 (actD16 A j)
theorem ActIn16.below {w w' : World} {b o : Nat} {x : Int × Int × Int × Int} (h : ActIn16 w b o x) (hb : Below w.heap.size w w') : ActIn16 w' b o x := by
  obtain ⟨h0, h1, h2, h3⟩ := h
  have hl := cell_ltL h0
  exact ⟨cb hb hl h0, cb hb hl h1, cb hb hl h2, cb hb hl h3⟩
theorem ActsAt16.get {w : World} {ad : Option Addr} {A : List (Int × Int × Int × Int)} (h : ActsAt16 w ad A) {j : Nat} (hj : j < A.length) : ∃ b off, ad = some ⟨b, off, none⟩ ∧ ActIn16 w b (off + j * 4) (actD16 A j) ∧ ActFits16 (actD16 A j) := by
  rcases h with rfl | ⟨b, off, h1, h2⟩
  · exact absurd hj (Nat.not_lt_zero _)
  · exact ⟨b, off, h1, h2 j hj⟩
theorem ActsAt16.below {w w' : World} {ad : Option Addr} {A : List (Int × Int × Int × Int)} (h : ActsAt16 w ad A) (hb : Below w.heap.size w w') : ActsAt16 w' ad A := by
  rcases h with h | ⟨b, off, h1, h2⟩
  · exact Or.inl h
  · exact Or.inr ⟨b, off, h1, fun j hj => ⟨(h2 j hj).1.below hb, (h2 j hj).2⟩⟩
theorem list_of16 {α : Type} (d : α) (P : Nat → α → Prop) : ∀ (n : Nat), (∀ i, i < n → ∃ x, P i x) → ∃ L : List α, L.length = n ∧ ∀ i, i < n → P i (L.getD i d)
  | 0, _ => ⟨[], rfl, fun _ h => absurd h (Nat.not_lt_zero _)⟩
  | n + 1, h => by
    obtain ⟨L, hL, hP⟩ := list_of16 d P n (fun i hi => h i (by omega))
    obtain ⟨x, hx⟩ := h n (by omega)
    refine ⟨L ++ [x], by simp [hL], fun i hi => ?_⟩
    by_cases e : i = n
    · subst e
      rw [List.getD_eq_getElem?_getD, List.getElem?_append_right (by omega), hL, Nat.sub_self]
      exact hx
    · rw [List.getD_eq_getElem?_getD, List.getElem?_append_left (by omega), ← List.getD_eq_getElem?_getD]
      exact hP i (by omega)
theorem acts_open16 {H : Type} {enc : TypeId × Value → H} {w : World} {base : Nat} {spare : Nat → Bool} {held : Bool} {fuel : Nat} {ad : Option Addr} {len cap : Nat} {x : DataW H × List MemPlace}
    (h : DataW.trod enc Try.prog w base spare held fuel 35 [.slice ad len cap] = some x) :
    ∃ A : List (Int × Int × Int × Int), A.length = len ∧ ActsAt16 w ad A ∧ A.length ≤ maxLen ∧ (ad = none → cap = 0) := by
  rcases Go.Deep.open_slice Try.underlying35 h with ⟨hcs, _⟩ | ⟨a, len', cap', m, n, D, Pl, hcs, _, hl, hm, hmm, _, hi⟩
  · simp only [List.cons.injEq, Value.slice.injEq, and_true] at hcs
    obtain ⟨rfl, rfl, rfl⟩ := hcs
    exact ⟨[], rfl, Or.inl rfl, Nat.zero_le _, fun _ => rfl⟩
  · simp only [List.cons.injEq, Value.slice.injEq, and_true] at hcs
    obtain ⟨rfl, rfl, rfl⟩ := hcs
    have hlm : len ≤ m := by rw [hmm]; split <;> omega
    have hC : Try.prog.cellsOf 41 = 4 := by kernel_rfl
    have k3 : Try.prog.cellsOf 2 = 1 := by kernel_rfl
    have k4 : Try.prog.cellsOf 5 = 1 := by kernel_rfl
    have one : ∀ i, i < len → ∃ x : Int × Int × Int × Int, (w.cell? (a.add (i * 4)) = some (.int .u8 x.1) ∧ w.cell? (a.add (i * 4 + 1)) = some (.int .i64 x.2.1) ∧ w.cell? (a.add (i * 4 + 2)) = some (.int .i64 x.2.2.1) ∧ w.cell? (a.add (i * 4 + 3)) = some (.int .i64 x.2.2.2)) ∧ ActFits16 x := by
      intro i hil
      obtain ⟨cs', hc, ht⟩ := hi i (by omega)
      rw [hC] at hc
      obtain ⟨ys, n', _, _, hlen, hyl, hf⟩ := DataW.trod_struct Try.underlying41 ht
      obtain ⟨_, hcl, hat⟩ := World.cells?_some hc
      match cs', hcl with
      | [c0, c1, c2, c3], _ =>
        have hy4 : ys.length = 4 := hyl
        have e0 : ys[0]? = some (ys[0]'(by omega)) := List.getElem?_eq_getElem (by omega)
        have e1 : ys[1]? = some (ys[1]'(by omega)) := List.getElem?_eq_getElem (by omega)
        have e2 : ys[2]? = some (ys[2]'(by omega)) := List.getElem?_eq_getElem (by omega)
        have e3 : ys[3]? = some (ys[3]'(by omega)) := List.getElem?_eq_getElem (by omega)
        have f0 : DataW.trod enc Try.prog w base spare held n' 5 (List.take (Try.prog.cellsOf 5) (List.drop 0 [c0, c1, c2, c3])) = ys[0]? := hf 0 _ rfl
        have f1 : DataW.trod enc Try.prog w base spare held n' 2 (List.take (Try.prog.cellsOf 2) (List.drop 1 [c0, c1, c2, c3])) = ys[1]? := hf 1 _ rfl
        have f2 : DataW.trod enc Try.prog w base spare held n' 2 (List.take (Try.prog.cellsOf 2) (List.drop 2 [c0, c1, c2, c3])) = ys[2]? := hf 2 _ rfl
        have f3 : DataW.trod enc Try.prog w base spare held n' 2 (List.take (Try.prog.cellsOf 2) (List.drop 3 [c0, c1, c2, c3])) = ys[3]? := hf 3 _ rfl
        rw [k4, e0] at f0
        rw [k3, e1] at f1
        rw [k3, e2] at f2
        rw [k3, e3] at f3
        obtain ⟨x0, q0, _, w0⟩ := DataW.trod_int Try.underlying5 f0
        obtain ⟨x1, q1, _, w1⟩ := DataW.trod_int Try.underlying2 f1
        obtain ⟨x2, q2, _, w2⟩ := DataW.trod_int Try.underlying2 f2
        obtain ⟨x3, q3, _, w3⟩ := DataW.trod_int Try.underlying2 f3
        simp at q0 q1 q2 q3
        subst q0 q1 q2 q3
        have a0 := hat 0 (by omega)
        have a1 := hat 1 (by omega)
        have a2 := hat 2 (by omega)
        have a3 := hat 3 (by omega)
        rw [Go.Deep.add_add] at a0 a1 a2 a3
        refine ⟨(x0, x1, x2, x3), ⟨a0, a1, a2, a3⟩, ?_, ?_, ?_, ?_⟩
        · simpa [Lit.wf, IntKind.min, IntKind.max, IntKind.signed, IntKind.bits] using w0
        · simpa [Lit.wf, IntKind.min, IntKind.max, IntKind.signed, IntKind.bits] using w1
        · simpa [Lit.wf, IntKind.min, IntKind.max, IntKind.signed, IntKind.bits] using w2
        · simpa [Lit.wf, IntKind.min, IntKind.max, IntKind.signed, IntKind.bits] using w3
    obtain ⟨A, hA, hP⟩ := list_of16 (0, 0, 0, 0) _ len one
    refine ⟨A, hA, ?_, by omega, fun e => by cases e⟩
    by_cases h0 : len = 0
    · exact Or.inl (List.eq_nil_of_length_eq_zero (by omega))
    · obtain ⟨b, off, spot⟩ := a
      have hspot : spot = none := by
        have := (hP 0 (by omega)).1.1
        simpa [Addr.add] using World.cell?_spot this
      subst hspot
      refine Or.inr ⟨b, off, rfl, fun j hj => ?_⟩
      obtain ⟨⟨g0, g1, g2, g3⟩, hf⟩ := hP j (by omega)
      rw [addr_add] at g0 g1 g2 g3
      exact ⟨⟨g0, g1, g2, g3⟩, hf⟩
end Go.Proofs.Ytkkoemcciemloaa
