/- Slices of booleans that come in; rows of numbers one behind the other. -/
import Derived.Test.YtfecalpfjafecaaLA
import Derived.Deep.Slices
import Derived.ChangeArms
import Derived.OpenShut
namespace Go.Proofs.Ytfecalpfjafecaa
open Go.RowKit


/-- The slice at an address reads as these booleans. -/
def BoolsAt (w : World) (ad : Option Addr) (B : List Bool) : Prop := B = [] ∨ ∃ b off, ad = some ⟨b, off, none⟩ ∧ ∀ j, j < B.length → w.cell? ⟨b, off + j, none⟩ = some (.bool (B.getD j false))
theorem BoolsAt.get {w : World} {ad : Option Addr} {B : List Bool} (h : BoolsAt w ad B) {j : Nat} (hj : j < B.length) : ∃ b off, ad = some ⟨b, off, none⟩ ∧ w.cell? ⟨b, off + j, none⟩ = some (.bool (B.getD j false)) := by
  rcases h with rfl | ⟨b, off, h1, h2⟩
  · exact absurd hj (Nat.not_lt_zero _)
  · exact ⟨b, off, h1, h2 j hj⟩
theorem BoolsAt.below {w w' : World} {ad : Option Addr} {B : List Bool} (h : BoolsAt w ad B) (hb : Below w.heap.size w w') : BoolsAt w' ad B := by
  rcases h with h | ⟨b, off, h1, h2⟩
  · exact Or.inl h
  · exact Or.inr ⟨b, off, h1, fun j hj => cb hb (cell_ltL (h2 j hj)) (h2 j hj)⟩
theorem list_of18 {α : Type} (d : α) (P : Nat → α → Prop) : ∀ (n : Nat), (∀ i, i < n → ∃ x, P i x) → ∃ L : List α, L.length = n ∧ ∀ i, i < n → P i (L.getD i d)
  | 0, _ => ⟨[], rfl, fun _ h => absurd h (Nat.not_lt_zero _)⟩
  | n + 1, h => by
    obtain ⟨L, hL, hP⟩ := list_of18 d P n (fun i hi => h i (by omega))
    obtain ⟨x, hx⟩ := h n (by omega)
    refine ⟨L ++ [x], by simp [hL], fun i hi => ?_⟩
    by_cases e : i = n
    · subst e
      rw [List.getD_eq_getElem?_getD, List.getElem?_append_right (by omega), hL, Nat.sub_self]
      exact hx
    · rw [List.getD_eq_getElem?_getD, List.getElem?_append_left (by omega), ← List.getD_eq_getElem?_getD]
      exact hP i (by omega)
theorem bools_open {H : Type} {enc : TypeId × Value → H} {w : World} {base : Nat} {spare : Nat → Bool} {held : Bool} {fuel : Nat} {ad : Option Addr} {len cap : Nat} {x : DataW H × List MemPlace}
    (h : DataW.trod enc Try.prog w base spare held fuel 43 [.slice ad len cap] = some x) :
    ∃ A : List Bool, A.length = len ∧ BoolsAt w ad A ∧ A.length ≤ maxLen ∧ (ad = none → cap = 0) := by
  rcases Go.Deep.open_slice1 Try.underlying43 (by kernel_rfl) h with ⟨hcs, _⟩ | ⟨a, len', cap', m, n, V, D, Pl, hcs, _, hl, hm, hmm, _, hi⟩
  · simp only [List.cons.injEq, Value.slice.injEq, and_true] at hcs
    obtain ⟨rfl, rfl, rfl⟩ := hcs
    exact ⟨[], rfl, Or.inl rfl, Nat.zero_le _, fun _ => rfl⟩
  · simp only [List.cons.injEq, Value.slice.injEq, and_true] at hcs
    obtain ⟨rfl, rfl, rfl⟩ := hcs
    have hlm : len ≤ m := by rw [hmm]; split <;> omega
    have one : ∀ i, i < len → ∃ b : Bool, w.cell? (a.add i) = some (.bool b) := by
      intro i hil
      obtain ⟨h1, h2⟩ := hi i (by omega)
      obtain ⟨b, h3, _⟩ := DataW.trod_bool Try.underlying4 h2
      refine ⟨b, ?_⟩
      rw [h1]
      simpa using h3
    obtain ⟨A, hA, hP⟩ := list_of18 false _ len one
    refine ⟨A, hA, ?_, by omega, fun e => by cases e⟩
    by_cases h0 : len = 0
    · exact Or.inl (List.eq_nil_of_length_eq_zero (by omega))
    · obtain ⟨b, off, spot⟩ := a
      have hspot : spot = none := by
        have := hP 0 (by omega)
        simpa [Addr.add] using World.cell?_spot this
      subst hspot
      refine Or.inr ⟨b, off, rfl, fun j hj => ?_⟩
      have := hP j (by omega)
      rw [addr_add] at this
      exact this
/-- So many numbers, one behind the other. -/
def rngQ (a : Int) : Nat → List Int
  | 0 => []
  | n + 1 => a :: rngQ (a + 1) n
theorem rngQ_len (a : Int) (n : Nat) : (rngQ a n).length = n := by
  induction n generalizing a with
  | zero => rfl
  | succ n ih => simp [rngQ, ih]
theorem rngQ_snoc (a : Int) (n : Nat) : rngQ a n ++ [a + (n : Int)] = rngQ a (n + 1) := by
  induction n generalizing a with
  | zero => simp [rngQ]
  | succ n ih =>
    show a :: (rngQ (a + 1) n ++ [a + ((n + 1 : Nat) : Int)]) = a :: rngQ (a + 1) (n + 1)
    rw [← ih (a + 1), show a + ((n + 1 : Nat) : Int) = a + 1 + (n : Int) by omega]
end Go.Proofs.Ytfecalpfjafecaa
