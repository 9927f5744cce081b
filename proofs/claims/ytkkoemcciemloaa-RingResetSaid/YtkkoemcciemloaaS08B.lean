/- Lines of a table in memory. No number of the program but that of int64 stands in it. -/
import Derived.Test.YtkkoemcciemloaaS08A
import Derived.Test.YtkkoemcciemloaaS06F
namespace Go.Proofs.Ytkkoemcciemloaa
open Go.RowKit


/-- The block holds these lines. -/
def LinesAt (w : World) (g : Nat) (L : List (Int × List Int)) : Prop :=
  ∀ j, j < L.length → w.cell? ⟨g, j * 2, none⟩ = some (.int .i64 (lnAt L j).1) ∧ ∃ u, w.cell? ⟨g, j * 2 + 1, none⟩ = some u ∧ Ret .i64 (lnAt L j).2 w u
theorem LinesAt.below {w w' : World} {g : Nat} {L : List (Int × List Int)} (h : LinesAt w g L) (hb : Below w.heap.size w w') : LinesAt w' g L := by
  intro j hj
  obtain ⟨h1, u, h2, h3⟩ := h j hj
  exact ⟨cb hb (cell_ltL h1) h1, u, cb hb (cell_ltL h2) h2, h3.below hb⟩
/-- The cells of lines. -/
def lcells : List (Int × List Int) → List Value → List Value
  | x :: L, u :: us => .int .i64 x.1 :: u :: lcells L us
  | _, _ => []
theorem lcells_snoc {L : List (Int × List Int)} {us : List Value} (h : us.length = L.length) (x : Int × List Int) (u : Value) : lcells (L ++ [x]) (us ++ [u]) = lcells L us ++ [.int .i64 x.1, u] := by
  induction L generalizing us with
  | nil => rw [List.eq_nil_of_length_eq_zero h]; rfl
  | cons y L ih =>
    cases us with
    | nil => simp at h
    | cons v us =>
      show _ :: _ :: lcells (L ++ [x]) (us ++ [u]) = _
      rw [ih (by simpa using h)]; rfl
theorem lcells_get {L : List (Int × List Int)} {us : List Value} (h : us.length = L.length) {j : Nat} (hj : j < L.length) : (lcells L us)[2 * j]? = some (.int .i64 (lnAt L j).1) ∧ (lcells L us)[2 * j + 1]? = some (us.getD j undef) := by
  induction L generalizing us j with
  | nil => simp at hj
  | cons y L ih =>
    cases us with
    | nil => simp at h
    | cons v us =>
      cases j with
      | zero => exact ⟨rfl, rfl⟩
      | succ j =>
        have := ih (us := us) (by simpa using h) (j := j) (by simpa using hj)
        show (Value.int .i64 y.1 :: v :: lcells L us)[2 * (j + 1)]? = _ ∧ (Value.int .i64 y.1 :: v :: lcells L us)[2 * (j + 1) + 1]? = _
        rw [show 2 * (j + 1) = 2 * j + 1 + 1 by omega]
        exact this
theorem getD_old {us : List Value} {u : Value} {j : Nat} (h : j < us.length) : (us ++ [u]).getD j undef = us.getD j undef := by
  rw [List.getD_eq_getElem?_getD, List.getD_eq_getElem?_getD, List.getElem?_append_left h]
theorem getD_new (us : List Value) (u : Value) : (us ++ [u]).getD us.length undef = u := by
  rw [List.getD_eq_getElem?_getD, List.getElem?_append_right (Nat.le_refl _), Nat.sub_self]; rfl
/-- Lines that the call itself made, with taps that it made. -/
def OwnLs (T : TypeId) (w : World) (base : Nat) (v : Value) (L : List (Int × List Int)) : Prop :=
  ∃ us : List Value, us.length = L.length ∧ w.ownsRow base T 2 v L.length (lcells L us) ∧ ∀ j, j < L.length → OwnI .i64 2 w base (us.getD j undef) (lnAt L j).2
theorem OwnLs.nil (T : TypeId) (w : World) (base : Nat) : OwnLs T w base (.slice none 0 0) [] := ⟨[], rfl, World.ownsRow_nil _ _ _ _, fun _ h => absurd h (Nat.not_lt_zero _)⟩
theorem row_kept {T : TypeId} {w w' : World} {base k : Nat} {v : Value} {n : Nat} {xs : List Value} (h : w.ownsRow base T k v n xs) (hb : Below w.heap.size w w') : w'.ownsRow base T k v n xs := by
  refine ⟨h.1, ?_⟩
  rcases h.2 with h2 | ⟨g, cap, cur, hv, hB, hg, r⟩
  · exact .inl h2
  · refine .inr ⟨g, cap, cur, hv, hB, ?_, r⟩
    have hlt : g < w.heap.size := by
      rcases Nat.lt_or_ge g w.heap.size with hlt | hge
      · exact hlt
      · rw [Array.getElem?_eq_none hge] at hg; cases hg
    rw [hb.block g hlt]; exact hg
theorem OwnLs.below {T : TypeId} {w w' : World} {base : Nat} {v : Value} {L : List (Int × List Int)} (h : OwnLs T w base v L) (hb : Below w.heap.size w w') : OwnLs T w' base v L := by
  obtain ⟨us, h1, h2, h3⟩ := h
  exact ⟨us, h1, row_kept h2 hb, fun j hj => (h3 j hj).below hb⟩
theorem own_apart {T T' : TypeId} (hne : T ≠ T') {w : World} {base base' k k' : Nat} {v v' : Value} {n n' : Nat} {xs xs' : List Value} (h : w.ownsRow base T k v n xs) (h' : w.ownsRow base' T' k' v' n' xs') : Apart v v' := by
  intro g hg hg'
  rcases h.2 with ⟨hv, _⟩ | ⟨b, cap, cur, hv, _, hb, _⟩
  · subst hv; cases hg
  · rcases h'.2 with ⟨hv', _⟩ | ⟨b', cap', cur', hv', _, hb', _⟩
    · subst hv'; cases hg'
    · subst hv; subst hv'
      obtain rfl := Option.some.inj hg
      obtain rfl := Option.some.inj hg'
      rw [hb] at hb'
      injection hb' with hb'
      injection hb' with _ ht
      exact hne ht
/-- One line is appended. -/
theorem OwnLs.more {T : TypeId} (hT : 2 ≠ T) {w0 wc w2 : World} {v v' u : Value} {L : List (Int × List Int)} {x : Int × List Int} {o : Obj} (hb : Below w0.heap.size w0 wc) {us : List Value} (hu : us.length = L.length)
    (hown : wc.ownsRow w0.heap.size T 2 v L.length (lcells L us)) (hin : ∀ j, j < L.length → OwnI .i64 2 wc w0.heap.size (us.getD j undef) (lnAt L j).2) (hx : OwnI .i64 2 wc w0.heap.size u x.2)
    (hown' : w2.ownsRow w0.heap.size T 2 v' (L.length + 1) (lcells L us ++ [.int .i64 x.1, u])) (hgrow : (wc.alloc o).grownBy w2 v.ownBlock) :
    OwnLs T w2 w0.heap.size v' (L ++ [x]) ∧ Below w0.heap.size w0 w2 := by
  have hs := hb.size
  refine ⟨⟨us ++ [u], by rw [List.length_append, List.length_append, hu]; rfl, ?_, ?_⟩, (hb.alloc (by omega) o).grown hgrow (by simp; omega) (fun j hj => (World.ownsRow.lt hown j hj).1)⟩
  · rw [lcells_snoc hu, List.length_append]; exact hown'
  · intro j hj
    have K : ∀ {y : Value} {xs : List Int}, OwnI .i64 2 wc w0.heap.size y xs → OwnI .i64 2 w2 w0.heap.size y xs := fun {y xs} hy => OwnI.kept (hy.alloc o) hgrow (own_apart hT (hy.alloc o) (World.ownsRow.alloc hown o))
    rw [List.length_append, List.length_singleton] at hj
    by_cases e : j = L.length
    · subst e
      rw [lnAt_new, show (us ++ [u]).getD L.length undef = u by rw [← hu]; exact getD_new us u]
      exact K hx
    · rw [lnAt_old x (by omega), getD_old (by omega)]
      exact K (hin j (by omega))
/-- As lines that can be read. -/
theorem OwnLs.read {T : TypeId} {w : World} {base : Nat} {v : Value} {L : List (Int × List Int)} (h : OwnLs T w base v L) (h0 : L ≠ []) : ∃ g cap, v = .slice (some ⟨g, 0, none⟩) L.length cap ∧ g < w.heap.size ∧ LinesAt w g L := by
  obtain ⟨us, h1, h2, h3⟩ := h
  have hl : 0 < L.length := List.length_pos_iff.2 h0
  obtain ⟨g, cap, hv, hlt⟩ : ∃ g cap, v = .slice (some ⟨g, 0, none⟩) L.length cap ∧ g < w.heap.size := by
    rcases h2.2 with ⟨_, h0⟩ | ⟨g, cap, cur, hv, _, hg, _⟩
    · omega
    · refine ⟨g, cap, hv, ?_⟩
      rcases Nat.lt_or_ge g w.heap.size with hlt | hge
      · exact hlt
      · rw [Array.getElem?_eq_none hge] at hg; cases hg
  subst hv
  refine ⟨g, cap, rfl, hlt, fun j hj => ?_⟩
  obtain ⟨c1, c2⟩ := lcells_get h1 hj
  have e1 := World.ownsRow.cells h2 (g := g) rfl _ _ c1
  have e2 := World.ownsRow.cells h2 (g := g) rfl _ _ c2
  rw [addr_add, Nat.zero_add] at e1 e2
  rw [Nat.mul_comm 2 j] at e1 e2
  exact ⟨e1, _, e2, (h3 j hj).ret⟩
end Go.Proofs.Ytkkoemcciemloaa
