/- What each source sample weighs: the laws on rows, out of what the program's own calls answer. -/
import Derived.Test.YtjmdknbbgmajoaaDoorS05E
import Derived.Deep.RegionHeld3
namespace Go.Proofs.YtjmdknbbgmajoaaDoor
open Go.RowKit


def MayP (f n m i : Int) : Prop := 0 ≤ f ∧ f ≤ 2 ∧ 1 ≤ n ∧ n ≤ 65536 ∧ 1 ≤ m ∧ m ≤ 65536 ∧ 0 ≤ i ∧ i < m
/-- What the program's table of filters holds. -/
def Kinds (w : World) : Prop :=
  w.cell? ⟨1, 0, none⟩ = some (.string ⟨#[98, 111, 120]⟩) ∧ w.cell? ⟨1, 1, none⟩ = some (.int .i64 0) ∧ w.cell? ⟨1, 2, none⟩ = some (.string ⟨#[99, 117, 98, 105, 99]⟩) ∧ w.cell? ⟨1, 3, none⟩ = some (.int .i64 2) ∧ w.cell? ⟨1, 4, none⟩ = some (.string ⟨#[108, 97, 110, 99, 122, 111, 115]⟩) ∧ w.cell? ⟨1, 5, none⟩ = some (.int .i64 3)
theorem cell_ltK {w : World} {b o : Nat} {v : Value} (h : w.cell? ⟨b, o, none⟩ = some v) : b < w.heap.size := by
  by_cases g : b < w.heap.size
  · exact g
  · have e : w.heap[b]? = none := Array.getElem?_eq_none (by omega)
    simp [World.cell?, e] at h
theorem kinds_below {w w1 : World} (h : Kinds w) (b : Below w.heap.size w w1) : Kinds w1 := by
  obtain ⟨c0, c1, c2, c3, c4, c5⟩ := h
  have lc := cell_ltK c0
  exact ⟨cb b lc c0, cb b lc c1, cb b lc c2, cb b lc c3, cb b lc c4, cb b lc c5⟩
/-- What the program's own calls are to answer. -/
def RowC : Prop := ∀ (f n m i : Int), MayP f n m i → ∀ w : World, Kinds w → Calls Tryd.prog 11 #[.int .i64 f, .int .i64 n, .int .i64 m, .int .i64 i] w fun e w' => ∃ (j0 : Int) (c : Nat) (v : Value), IsWin f n m i j0 c ∧ e = .returned (.tuple #[.int .i64 j0, v]) ∧ w'.ownsRow w.heap.size 2 1 v c (rowR f n m i j0 c) ∧ Below w.heap.size w w'
def KeysC : Prop := ∀ a b : Int, -9223372036854775808 ≤ a → a ≤ 9223372036854775807 → ∀ w : World, Calls Tryd.prog 16 #[.int .i64 a, .int .i64 b] w fun e w' => e = .returned (.int .i64 (keysF a b)) ∧ Below w.heap.size w w'
theorem rowR_get (f n m i j0 : Int) {c k : Nat} (h : k < c) : (rowR f n m i j0 c)[k]? = some (.int .i64 (weightR f n m i (j0 + (k : Nat)))) := by
  unfold rowR
  rw [List.getElem?_map, List.getElem?_range h]; rfl
theorem owns_form {w : World} {base : Nat} {e : TypeId} {size : Nat} {v : Value} {n : Nat} {xs : List Value} (h : w.ownsRow base e size v n xs) (hn : 0 < n) : ∃ g cap, v = .slice (some ⟨g, 0, none⟩) n cap ∧ g < w.heap.size := by
  rcases h.2 with ⟨_, h0⟩ | ⟨g, cap, cur, hv, hb, hg, _⟩
  · omega
  · refine ⟨g, cap, hv, ?_⟩
    rcases Nat.lt_or_ge g w.heap.size with hlt | hge
    · exact hlt
    · rw [Array.getElem?_eq_none hge] at hg; cases hg
theorem owns_cell {w : World} {base : Nat} {e : TypeId} {f n m i j0 : Int} {g c cap k : Nat} (h : w.ownsRow base e 1 (.slice (some ⟨g, 0, none⟩) c cap) c (rowR f n m i j0 c)) (hk : k < c) : w.cell? ⟨g, k, none⟩ = some (.int .i64 (weightR f n m i (j0 + (k : Nat)))) := by
  have := h.cells (g := g) rfl k _ (rowR_get f n m i j0 hk)
  have e : ((⟨g, 0, none⟩ : Addr).add k) = ⟨g, k, none⟩ := by
    unfold Addr.add
    by_cases hk0 : k = 0
    · subst hk0; rfl
    · simp [hk0]
  rw [e] at this
  exact this
theorem rlives (CR : RowC) (CK : KeysC) (w : World) (hk : Kinds w) : Calls Tryd.prog 8 #[] w fun e w' => e = .returned (.bool true) ∧ Below w.heap.size w w' := by
  have C1 := CR 0 4 2 1 (by unfold MayP; omega)
  have k1 : keysF 0 1 = 1073741824 := by decide +kernel
  have k2 : keysF 1 2 = 603979776 := by decide +kernel
  have C2 := CK 0 1 (by omega) (by omega)
  have C3 := CK 1 2 (by omega) (by omega)
  rw [k1] at C2
  rw [k2] at C3
  have W : IsWin 0 4 2 1 2 2 := by
    refine ⟨by omega, by decide, ?_, by decide⟩
    intro k hk
    match k, hk with
    | 0, _ => decide
    | 1, _ => decide
  have u0 : weightR 0 4 2 1 (2 + ((0 : Nat) : Int)) = 536870912 := by decide +kernel
  have u1 : weightR 0 4 2 1 (2 + ((1 : Nat) : Int)) = 536870912 := by decide +kernel
  have WH := hide W
  clear W k1 k2
  go_enter Tryd.func8, Tryd.ntmps8
  go_upto_region 2 with (go_at_call 11; (with_reducible refine (C1 _ hk).mono ?_); rintro e w1 ⟨j0, c, v, hwin, rfl, hown, b1⟩)
  obtain ⟨rfl, rfl⟩ := win_one (by omega) hwin WH.out
  obtain ⟨g, cap, rfl, hlt⟩ := owns_form hown (by omega)
  have q0 : w1.cell? ⟨g, 0, none⟩ = some (.int .i64 536870912) := by rw [← u0]; exact owns_cell hown (by omega)
  have q1 : w1.cell? ⟨g, 1, none⟩ = some (.int .i64 536870912) := by rw [← u1]; exact owns_cell hown (by omega)
  clear hown hwin u0 u1
  go_wp2_with (first
    | (go_at_call 16; (with_reducible refine (C2 _).mono ?_); rintro e w2 ⟨rfl, b2⟩)
    | (go_at_call 16; (with_reducible refine (C3 _).mono ?_); rintro e w3 ⟨rfl, b3⟩))
  go_ret
  exact ⟨rfl, bt (bt b1 b2) b3⟩
end Go.Proofs.YtjmdknbbgmajoaaDoor
