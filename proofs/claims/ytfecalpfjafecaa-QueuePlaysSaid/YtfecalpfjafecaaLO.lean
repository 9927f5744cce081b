/- Slices of the call's own that begin within a block: 'l = l[1:]', and numbers appended to that. No number of the program stands in it. -/
import Derived.Test.YtfecalpfjafecaaLG
import Derived.ArgAppend
namespace Go.Proofs.Ytfecalpfjafecaa
open Go.RowKit


/-- A slice that the call made, or cut: these numbers, with so much room behind them. -/
def OwnO (k : IntKind) (w : World) (base : Nat) (v : Value) (xs : List Int) : Prop :=
  (v = .slice none 0 0 ∧ xs = []) ∨ ∃ g off cap, v = .slice (some ⟨g, off, none⟩) xs.length cap ∧ base ≤ g ∧ g < w.heap.size ∧ xs.length ≤ cap ∧ (∀ j, j < xs.length → w.cell? ⟨g, off + j, none⟩ = some (.int k (xs.getD j 0))) ∧ (∀ j, j < cap → (w.cell? ⟨g, off + j, none⟩).isSome = true) ∧ ∀ j, w.frozen? ⟨g, j, none⟩ = false
theorem OwnO.nil (k : IntKind) (w : World) (base : Nat) : OwnO k w base (.slice none 0 0) [] := Or.inl ⟨rfl, rfl⟩
theorem OwnO.of_own {k : IntKind} {T : TypeId} {w : World} {base : Nat} {v : Value} {xs : List Int} (h : OwnI k T w base v xs) : OwnO k w base v xs := by
  have h' := h
  rcases h.2 with ⟨hv, h0⟩ | ⟨g, cap, cur, rfl, hB, hg, hn, hm, hs, ht⟩
  · exact Or.inl ⟨hv, List.eq_nil_of_length_eq_zero h0⟩
  · have hlt : g < w.heap.size := by
      rcases Nat.lt_or_ge g w.heap.size with hlt | hge
      · exact hlt
      · rw [Array.getElem?_eq_none hge] at hg; cases hg
    refine Or.inr ⟨g, 0, cap, rfl, hB, hlt, hn, fun j hj => ?_, fun j hj => ?_, fun j => OwnI.frozenAt h' rfl j⟩
    · rw [Nat.zero_add]
      exact OwnI.cellAt h' rfl hj
    · rw [Nat.zero_add]
      have hc : w.cell? ⟨g, j, none⟩ = cur[j]? := by simp [World.cell?, hg]
      rw [hc, Array.getElem?_eq_getElem (by omega)]
      rfl
theorem OwnO.form {k : IntKind} {w : World} {base : Nat} {v : Value} {xs : List Int} (h : OwnO k w base v xs) : ∃ ad cap, v = .slice ad xs.length cap ∧ RowAt k w ad xs ∧ (ad = none → xs = [] ∧ cap = 0) := by
  rcases h with ⟨rfl, rfl⟩ | ⟨g, off, cap, rfl, _, _, _, hc, _⟩
  · exact ⟨none, 0, rfl, Or.inl rfl, fun _ => ⟨rfl, rfl⟩⟩
  · exact ⟨_, cap, rfl, Or.inr ⟨g, off, rfl, hc⟩, fun e => by cases e⟩
theorem OwnO.fresh {k : IntKind} {w : World} {base : Nat} {v : Value} {xs : List Int} (h : OwnO k w base v xs) : ∀ g, v.ownBlock = some g → base ≤ g ∧ g < w.heap.size := by
  rcases h with ⟨rfl, rfl⟩ | ⟨g, off, cap, rfl, h1, h2, _⟩
  · intro g hg; cases hg
  · intro g' hg
    obtain rfl : g = g' := Option.some.inj hg
    exact ⟨h1, h2⟩
theorem OwnO.grown {k : IntKind} {w w' : World} {base : Nat} {v : Value} {xs : List Int} {row : Option Nat} (h : OwnO k w base v xs) (hg : w.grownBy w' row) (hn : ∀ g, v.ownBlock = some g → some g ≠ row) : OwnO k w' base v xs := by
  rcases h with ⟨rfl, rfl⟩ | ⟨g, off, cap, rfl, h1, h2, h3, h4, h5, h6⟩
  · exact Or.inl ⟨rfl, rfl⟩
  · have ne := hn g rfl
    refine Or.inr ⟨g, off, cap, rfl, h1, Nat.lt_of_lt_of_le h2 hg.size, h3, fun j hj => cg hg ne (h4 j hj), fun j hj => ?_, fun j => ?_⟩
    · rw [hg.cell_far ⟨g, off + j, none⟩ h2 ne]
      exact h5 j hj
    · rw [hg.frozen_far ⟨g, j, none⟩ h2 ne]
      exact h6 j
theorem OwnO.below {k : IntKind} {w w' : World} {base : Nat} {v : Value} {xs : List Int} (h : OwnO k w base v xs) (hb : Below w.heap.size w w') : OwnO k w' base v xs := h.grown (grown_below hb none) (fun _ _ e => by cases e)
theorem OwnO.alloc {k : IntKind} {w : World} {base : Nat} {v : Value} {xs : List Int} (h : OwnO k w base v xs) (o : Obj) : OwnO k (w.alloc o) base v xs := h.grown (World.grownBy_alloc w o none) (fun _ _ e => by cases e)
/-- Without its first number. -/
theorem OwnO.tail {k : IntKind} {w : World} {base g off n cap : Nat} {xs : List Int} (h : OwnO k w base (.slice (some ⟨g, off, none⟩) n cap) xs) (hn : xs.length = n) (h0 : 1 ≤ n) : OwnO k w base (.slice (some ⟨g, if cap = 1 then off else off + 1, none⟩) (n - 1) (cap - 1)) xs.tail := by
  rcases h with ⟨hv, _⟩ | ⟨g', off', cap', hv, h1, h2, h3, h4, h5, h6⟩
  · cases hv
  · simp only [Value.slice.injEq, Option.some.injEq, Addr.mk.injEq, and_true] at hv
    obtain ⟨⟨rfl, rfl⟩, _, rfl⟩ := hv
    refine Or.inr ⟨g, _, _, by rw [List.length_tail, hn], h1, h2, by rw [List.length_tail]; omega, fun j hj => ?_, fun j hj => ?_, h6⟩
    · rw [List.length_tail] at hj
      rw [if_neg (by omega), show off + 1 + j = off + (j + 1) by omega, h4 (j + 1) (by omega), List.getD_eq_getElem?_getD, List.getD_eq_getElem?_getD, List.getElem?_tail]
    · rw [if_neg (by omega), show off + 1 + j = off + (j + 1) by omega]
      exact h5 (j + 1) (by omega)
/-- 'l[1:]', as a run. -/
theorem run_tail {P : Program} {t e : TypeId} {i : TypeInfo} (h1 : P.underlying t = some (.slice e)) (h2 : P.info? e = some i) (h3 : i.size = 1) (g off n cap : Nat) (h0 : 1 ≤ n) (hc : n ≤ cap) (w : World) :
    (Instr.slice t (.slice (some ⟨g, off, none⟩) n cap) (some (.int .i64 1)) none none).run P w = .ok (.slice (some ⟨g, if cap = 1 then off else off + 1, none⟩) (n - 1) (cap - 1)) w := by
  have hs : (sizeOf e).run P w = .ok 1 w := by simp [sizeOf, typeInfo, h2, h3]
  by_cases e1 : cap = 1
  · subst e1
    obtain rfl : n = 1 := by omega
    simp [Instr.slice, Instr.sliceBounds, Instr.sliceBound, run_underlying h1, asIntOf, hs, Result.andThen]
  · rw [if_neg e1]
    have hb : ¬ (cap = 1) := e1
    have hi : (1 : Int) ≤ (n : Int) := by omega
    simp [Instr.slice, Instr.sliceBounds, Instr.sliceBound, run_underlying h1, asIntOf, hs, Result.andThen, hi, hb, Addr.add]
/-- One number is appended. -/
theorem wpList_append_o {P : Program} (k : IntKind) (w : World) {ops : Array Oper} {rest : List Oper} {o : Oper} {a : Act} {Q : Exit → Act → World → Prop}
    (hg : o.guard = none) (s x : Operand) (t : TypeId) (hop : o.op = Op.call { callee := Callee.builtin Builtin.append, args := #[s, x], argTypes := #[t, t] })
    (e : TypeId) (i : TypeInfo) (z : Value) (bytes : Nat) (h1 : P.underlying t = some (.slice e)) (h2 : P.info? e = some i) (h3 : i.zero = some z) (h4 : i.size = 1) (h5 : i.bytes = bytes) (h6 : z.cells.size = 1)
    (base : Nat) (v : Value) (ys : List Int) (hs : a.eval s = v) (hown : OwnO k w base v ys) (hbase : base ≤ w.heap.size)
    (ad : Addr) (c : Nat) (y : Int) (hx : a.eval x = .slice (some ad) 1 c) (hc : ∀ j u, [Value.int k y][j]? = some u → w.cell? (ad.add j) = some u) (b1 : ys.length + 1 ≤ maxLen) (b2 : (ys.length + 1) * bytes ≤ 140737488355328)
    (hK : ∀ v' w', OwnO k w' base v' (ys ++ [y]) → w.grownBy w' v.ownBlock → (v'.ownBlock = v.ownBlock ∨ ∀ g, v'.ownBlock = some g → w.heap.size ≤ g) → wpList P ops Q rest (a.put o.dst v') w') :
    wpList P ops Q (o :: rest) a w := by
  have hform : ∃ ao cap, v = .slice ao ys.length cap ∧ (ao = none → ys.length = 0 ∧ cap = 0) ∧ ∀ b, ao = some b → ∀ j u, (ys.map (Value.int k))[j]? = some u → w.cell? (b.add j) = some u := by
    rcases hown with ⟨rfl, rfl⟩ | ⟨g, off, cap, rfl, _, _, _, hcl, _⟩
    · exact ⟨none, 0, rfl, (fun _ => ⟨rfl, rfl⟩), (fun b e => by cases e)⟩
    · refine ⟨_, cap, rfl, (fun e => by cases e), fun b hb j u hj => ?_⟩
      obtain rfl := Option.some.inj hb
      rw [List.getElem?_map] at hj
      have hlt : j < ys.length := by
        by_cases q : j < ys.length
        · exact q
        · rw [List.getElem?_eq_none (by omega)] at hj; cases hj
      rw [addr_add, hcl j hlt, ← hj, List.getD_eq_getElem?_getD, List.getElem?_eq_getElem hlt]
      rfl
  obtain ⟨ao, cap, rfl, hnone, hcells⟩ := hform
  by_cases hroom : ys.length + 1 ≤ cap
  · rcases hown with ⟨hv, h0⟩ | ⟨g, off, cap', hv, g1, g2, g3, g4, g5, g6⟩
    · simp only [Value.slice.injEq] at hv
      omega
    · simp only [Value.slice.injEq, true_and] at hv
      obtain ⟨rfl, rfl⟩ := hv
      have hrun := run_append_room_cells (P := P) w t o.type e i h1 h2 g off ys.length cap ad 1 c [.int k y] (by rw [h4]; rfl) hc (by intro u hu; simp at hu; subst hu; rfl) hroom
        (fun j hj => by
          obtain rfl : j = 0 := by simpa using hj
          rw [h4, Nat.mul_one, Nat.add_zero]
          exact g5 _ (by omega)) (fun j _ => g6 _)
      rw [h4, Nat.mul_one] at hrun
      have hset : w.setCells g (off + ys.length) [.int k y] = w.setCell ⟨g, off + ys.length, none⟩ (.int k y) := by
        simp [World.setCells]
      rw [hset] at hrun
      refine wpList_plain hg fun K hK' => ?_
      unfold Oper.wp
      simp [execOp, hop, resolve, invoke, builtin, hs, hx, hrun, Result.andThen]
      refine hK' _ _ (hK _ _ (Or.inr ⟨g, off, cap, by rw [List.length_append]; rfl, g1, by simpa [World.setCell] using g2, by rw [List.length_append]; exact hroom, fun j hj => ?_, fun j hj => ?_, fun j => ?_⟩) (grown_set _ _ _ _) (Or.inl rfl))
      · rw [List.length_append, List.length_singleton] at hj
        by_cases q : j = ys.length
        · subst q
          rw [World.cell?_setCell_same' _ _ _ (g5 _ (by omega)), List.getD_eq_getElem?_getD, List.getElem?_append_right (Nat.le_refl _), Nat.sub_self]
          rfl
        · rw [World.cell?_setCell_other _ _ _ _ (by intro e'; simp only [Addr.mk.injEq, and_true] at e'; omega), g4 j (by omega), List.getD_eq_getElem?_getD, List.getD_eq_getElem?_getD, List.getElem?_append_left (by omega)]
      · by_cases q : j = ys.length
        · subst q
          rw [World.cell?_setCell_same' _ _ _ (g5 _ (by omega))]
          rfl
        · rw [World.cell?_setCell_other _ _ _ _ (by intro e'; simp only [Addr.mk.injEq, and_true] at e'; omega)]
          exact g5 j hj
      · rw [World.frozen?_setCell]
        exact g6 j
  · refine wpList_append_grows w hg s x t hop e i z 1 bytes h1 h2 h3 h4 h5 h6 (by decide) ao ys.length cap (ys.map (Value.int k)) hs hnone (by rw [List.length_map, Nat.mul_one]) hcells ad 1 c [.int k y] hx rfl hc (by intro u hu; simp at hu; subst hu; rfl) (by omega) b1 b2 ?_
    intro v' w' r1 r2
    have hO : OwnI k e w' w.heap.size v' (ys ++ [y]) := OwnI.append r1
    exact hK v' w' (OwnO.of_own (hO.mono hbase)) (grown_none r2) (Or.inr (own_fresh r1))
end Go.Proofs.Ytfecalpfjafecaa
