/- 'append([]byte(s), l...)': a text's bytes, and others behind them. -/
import Derived.Test.YtmkkhgnhpcgaaaaDoorS10H
import Derived.Deep.AppendSrc
import Derived.Laws.IdiomCopy
import Derived.OwnWalk
namespace Go.Proofs.YtmkkhgnhpcgaaaaDoor
open Go.RowKit


theorem below_setCells {B : Nat} {a : World} (b : Nat) (hB : B ≤ b) : ∀ (vs : List Value) (o : Nat) (w : World), Below B a w → Below B a (w.setCells b o vs)
  | [], _, _, h => h
  | v :: r, o, _, h => below_setCells b hB r (o + 1) _ (h.setCell (p := ⟨b, o, none⟩) hB v)
theorem bytesRow_size (t : ByteArray) {cap : Nat} (h : t.size ≤ cap) : (bytesRow t cap).size = cap := by
  unfold bytesRow
  rw [Array.size_append, Array.size_map, Array.size_replicate]
  have : t.data.size = t.size := rfl
  omega
theorem row_cells {w : World} {b off : Nat} {xs : List Int} (h : RowAt .u8 w (some ⟨b, off, none⟩) xs) : ∀ j u, (xs.map (Value.int .u8))[j]? = some u → w.cell? ((⟨b, off, none⟩ : Addr).add j) = some u := by
  intro j u hj
  rw [List.getElem?_map] at hj
  have hlt : j < xs.length := by
    by_cases g : j < xs.length
    · exact g
    · rw [List.getElem?_eq_none (by omega)] at hj; cases hj
  rw [addr_add, h.at hlt, ← hj, List.getD_eq_getElem?_getD, List.getElem?_eq_getElem hlt]
  rfl
theorem one_all (xs : List Int) : ∀ u ∈ xs.map (Value.int .u8), u.oneCell' = true := by
  intro u hu
  obtain ⟨x, _, rfl⟩ := List.mem_map.1 hu
  rfl
theorem src_row {w : World} {xs : List Int} {n : Nat} {ad : Option Addr} {cap : Nat} (hn : xs.length = n) (hr : RowAt .u8 w ad xs) (hz : ad = none → cap = 0) : Src Tryd.prog 1 24 (.slice ad n cap) n (xs.map (Value.int .u8)) w := by
  rcases ad with _ | a
  · have e : xs = [] := by
      rcases hr with h | ⟨b, off, h, _⟩
      · exact h
      · cases h
    subst e
    subst hn
    exact Src.ofNil w Tryd.underlying24 cap
  · refine Src.ofSlice w Tryd.underlying24 a n cap _ (by rw [List.length_map, hn, Nat.mul_one]) ?_ (one_all xs)
    by_cases h0 : xs = []
    · subst h0
      intro j u hj
      simp at hj
    · rcases hr with h | ⟨b, off, h, c⟩
      · exact absurd h h0
      · obtain rfl := Option.some.inj h
        exact row_cells (Or.inr ⟨b, off, rfl, c⟩)
theorem str_app (t : ByteArray) {xs : List Int} {n : Nat} {ad : Option Addr} {cap : Nat} (hn : xs.length = n) (w : World) (hr : RowAt .u8 w ad xs) (hz : ad = none → cap = 0) (hm : t.size + n ≤ 1048576) :
    ∃ (cp : Nat) (W : World) (v : Value) (W' : World), (convert 9 24 (.string t)).run Tryd.prog w = .ok (.slice (some ⟨w.heap.size, 0, none⟩) t.size cp) W ∧
      (Builtin.append_ #[24, 24] 24 #[.slice (some ⟨w.heap.size, 0, none⟩) t.size cp, .slice ad n cap]).run Tryd.prog W = .ok v W' ∧
      (∃ (g : Nat) (c' : Nat), v = .slice (some ⟨g, 0, none⟩) (t.size + n) c' ∧ RowAt .u8 W' (some ⟨g, 0, none⟩) (byt t ++ xs)) ∧ Below w.heap.size w W' := by
  obtain ⟨i0, hi0, hz0, hz1, hz2⟩ := info_parts infoU8
  have hcap : t.size ≤ grownCap w t.size 0 5 := grownCap_ge _ _ _ _
  have hrun := run_bytes_of_string (P := Tryd.prog) w 9 24 5 t Tryd.underlying9 Tryd.underlying24 Tryd.underlying5
  have hbs := bytesRow_size t hcap
  have hB0 : Below w.heap.size w (w.drew.alloc (.cells (bytesRow t (grownCap w t.size 0 5)) 5 ((bytesRow t (grownCap w t.size 0 5)).size, (bytesRow t (grownCap w t.size 0 5)).size + 1))) := ba (bd (Below.refl _ w)) _
  have hcell : ∀ j, (w.drew.alloc (.cells (bytesRow t (grownCap w t.size 0 5)) 5 ((bytesRow t (grownCap w t.size 0 5)).size, (bytesRow t (grownCap w t.size 0 5)).size + 1))).cell? ⟨w.heap.size, j, none⟩ = (bytesRow t (grownCap w t.size 0 5))[j]? := fun j => cell_mark w.drew _ _ _ j
  have hfro : ∀ j, j < grownCap w t.size 0 5 → (w.drew.alloc (.cells (bytesRow t (grownCap w t.size 0 5)) 5 ((bytesRow t (grownCap w t.size 0 5)).size, (bytesRow t (grownCap w t.size 0 5)).size + 1))).frozen? ⟨w.heap.size, j, none⟩ = false := by
    intro j hj
    have : (w.drew.alloc (.cells (bytesRow t (grownCap w t.size 0 5)) 5 ((bytesRow t (grownCap w t.size 0 5)).size, (bytesRow t (grownCap w t.size 0 5)).size + 1))).heap[w.heap.size]? = some (.cells (bytesRow t (grownCap w t.size 0 5)) 5 ((bytesRow t (grownCap w t.size 0 5)).size, (bytesRow t (grownCap w t.size 0 5)).size + 1)) := by
      show (w.heap.push _)[w.heap.size]? = _
      simp
    unfold World.frozen?
    simp only [this]
    rw [hbs]
    simp
    omega
  have hrow : RowAt .u8 (w.drew.alloc (.cells (bytesRow t (grownCap w t.size 0 5)) 5 ((bytesRow t (grownCap w t.size 0 5)).size, (bytesRow t (grownCap w t.size 0 5)).size + 1))) (some ⟨w.heap.size, 0, none⟩) (byt t) := by
    refine Or.inr ⟨w.heap.size, 0, rfl, fun j hj => ?_⟩
    rw [Nat.zero_add, hcell]
    rw [byt_len] at hj
    unfold bytesRow
    rw [Array.getElem?_append_left (by rw [Array.size_map]; exact hj), Array.getElem?_map]
    have h' : j < t.data.size := hj
    rw [Array.getElem?_eq_getElem h', ← byt_at hj]
    rfl
  have hisS : ∀ j, j < grownCap w t.size 0 5 → ((w.drew.alloc (.cells (bytesRow t (grownCap w t.size 0 5)) 5 ((bytesRow t (grownCap w t.size 0 5)).size, (bytesRow t (grownCap w t.size 0 5)).size + 1))).cell? ⟨w.heap.size, j, none⟩).isSome = true := by
    intro j hj
    rw [hcell, Array.getElem?_eq_getElem (by rw [hbs]; exact hj)]
    rfl
  have hx' := hr.below hB0
  generalize hcp : grownCap w t.size 0 5 = cp at *
  generalize w.drew.alloc (.cells (bytesRow t cp) 5 ((bytesRow t cp).size, (bytesRow t cp).size + 1)) = W at *
  have hsrc := src_row hn hx' hz
  have hsz : W.heap.size = W.heap.size := rfl
  have sB := hB0.size
  by_cases hroom : t.size + n ≤ cp
  · have hA := run_append_room_src (P := Tryd.prog) W 24 24 24 5 i0 Tryd.underlying24 hi0 w.heap.size 0 t.size cp (.slice ad n cap) n (xs.map (Value.int .u8)) (by rw [hz1]; exact hsrc) hroom
      (by intro j hj; rw [hz1, Nat.mul_one, Nat.zero_add]; rw [List.length_map] at hj; exact hisS _ (by omega))
      (by intro j hj; rw [hz1, Nat.mul_one, Nat.zero_add]; rw [List.length_map] at hj; exact hfro _ (by omega))
    rw [hz1, Nat.mul_one, Nat.zero_add] at hA
    refine ⟨cp, W, _, _, hrun, hA, ⟨w.heap.size, cp, rfl, ?_⟩, below_setCells _ (Nat.le_refl _) _ _ _ hB0⟩
    refine Or.inr ⟨w.heap.size, 0, rfl, fun j hj => ?_⟩
    rw [Nat.zero_add]
    rw [List.length_append, byt_len] at hj
    by_cases hjt : j < t.size
    · rw [World.cell?_setCells_out _ _ _ _ _ (fun _ _ => Or.inl hjt)]
      have := hrow.at (show j < (byt t).length by rw [byt_len]; exact hjt)
      rw [Nat.zero_add] at this
      rw [this, List.getD_eq_getElem?_getD, List.getD_eq_getElem?_getD, List.getElem?_append_left (by rw [byt_len]; exact hjt)]
    · obtain ⟨i, rfl⟩ : ∃ i, j = t.size + i := ⟨j - t.size, by omega⟩
      have hi : i < (xs.map (Value.int .u8)).length := by rw [List.length_map]; omega
      rw [World.cell?_setCells_in _ _ _ _ (by intro q hq; rw [List.length_map] at hq; exact hisS _ (by omega)) i hi]
      rw [List.getElem_map, List.getD_eq_getElem?_getD, List.getElem?_append_right (by rw [byt_len]; omega), byt_len, show t.size + i - t.size = i by omega, List.getElem?_eq_getElem (by omega)]
      rfl
  · have hA := run_append_grow_src (P := Tryd.prog) W 24 24 24 5 i0 (.int .u8 0) Tryd.underlying24 hi0 hz0 (some ⟨w.heap.size, 0, none⟩) t.size cp ((byt t).map (Value.int .u8))
      (by rw [hz1]; exact run_firstCells_some (P := Tryd.prog) W.drew 1 t.size ⟨w.heap.size, 0, none⟩ t.size cp _ (by rw [List.length_map, byt_len, Nat.mul_one]) (row_cells (hrow.below (bd (Below.refl _ _)))))
      (.slice ad n cap) n (xs.map (Value.int .u8)) (by rw [hz1]; exact hsrc) (by omega) (by omega) (by rw [hz2]; have := nextslicecap_le (need := t.size + n) (old := cp) (by omega); omega)
    refine ⟨cp, W, _, _, hrun, hA, ⟨W.heap.size, _, rfl, ?_⟩, (hB0.drew).alloc sB _⟩
    refine Or.inr ⟨W.heap.size, 0, rfl, fun j hj => ?_⟩
    rw [Nat.zero_add]
    have hc := cell_mark W.drew (((byt t).map (Value.int .u8) ++ xs.map (Value.int .u8)).toArray ++ Builtin.zeroCells (Value.int .u8 0).cells (grownCap W (t.size + n) cp 5 - (t.size + n))) 5 (0, 0) j
    refine Eq.trans hc ?_
    have hj2 : j < ((byt t ++ xs).map (Value.int .u8)).length := by rw [List.length_map]; exact hj
    rw [← List.map_append, Array.getElem?_append_left (by simpa using hj), List.getElem?_toArray, List.getElem?_map, List.getD_eq_getElem?_getD, List.getElem?_eq_getElem hj]
    rfl
/-- An append whose run is known. -/
theorem wpList_append_run {P : Program} (w : World) {ops : Array Oper} {rest : List Oper} {o : Oper} {a : Act} {Q : Exit → Act → World → Prop}
    (hg : o.guard = none) (s x : Operand) (t : TypeId) (hop : o.op = Op.call { callee := Callee.builtin Builtin.append, args := #[s, x], argTypes := #[t, t] })
    (v1 v2 : Value) (hs : a.eval s = v1) (hx : a.eval x = v2) (v' : Value) (w' : World) (hrun : (Builtin.append_ #[t, t] o.type #[v1, v2]).run P w = .ok v' w') (hK : wpList P ops Q rest (a.put o.dst v') w') :
    wpList P ops Q (o :: rest) a w := by
  refine wpList_plain hg fun K hK' => ?_
  unfold Oper.wp
  simp [execOp, hop, resolve, invoke, builtin, hs, hx, hrun, Result.andThen]
  exact hK' _ _ hK
end Go.Proofs.YtmkkhgnhpcgaaaaDoor
