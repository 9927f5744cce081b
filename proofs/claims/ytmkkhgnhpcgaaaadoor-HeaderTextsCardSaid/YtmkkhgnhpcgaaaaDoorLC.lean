/- Slices of numbers that are made whole and filled, number by number. No number of the program stands in it. -/
import Derived.Test.YtmkkhgnhpcgaaaaDoorLA
import Derived.Deep.RegionLaw
import Derived.Laws.CopyOwn
namespace Go.Proofs.YtmkkhgnhpcgaaaaDoor
open Go.RowKit


/-- 'make' of so many, as one step of a region that draws its order. -/
theorem step_make_full {P : Program} {ops : Array Oper} {o : Oper} {a : Act} {w : World} {K : Act → World → Prop} {Q : Exit → Act → World → Prop} {E : Prop}
    (hg : o.guard = none) (l c : Operand) (t : TypeId) (hop : o.op = Op.makeSlice t l c)
    (base : Nat) (e : TypeId) (i : TypeInfo) (z : Value) (size : Nat) (h1 : P.underlying t = some (.slice e)) (h2 : P.info? e = some i) (h3 : i.zero = some z) (h4 : i.size = size)
    (kl kc : IntKind) (L C : Int) (n : Nat) (hl : a.eval l = .int kl L) (hc : a.eval c = .int kc C) (hL : L = (n : Int)) (hC : C = (n : Int)) (b2 : i.bytes * n ≤ 281474976710656) (b3 : n ≤ maxLen) (b4 : base ≤ w.heap.size)
    (hK : ∀ w', w'.ownsRow base e size (.slice (some ⟨w.heap.size, 0, none⟩) n n) n (madeCells z.cells (n * size)).toList → w.grownBy w' none → K (a.put o.dst (.slice (some ⟨w.heap.size, 0, none⟩) n n)) w') :
    if Region.wanted o (yielded ops a.tmps) = true then Oper.wp P o a w K Q else E := by
  have hw : Region.wanted o (yielded ops a.tmps) = true := by simp [Region.wanted, hg]
  rw [if_pos hw]
  obtain ⟨w', hrun, r1, r2⟩ := run_make_full (P := P) w base t e i z size h1 h2 h3 h4 kl kc n b2 b3 b4
  subst hL
  subst hC
  unfold Oper.wp
  simp [execOp, hop, hl, hc, hrun, Result.andThen]
  exact hK w' r1 r2
/-- What is made owns noughts. -/
theorem OwnI.made {k : IntKind} {T : TypeId} {w : World} {base : Nat} {v : Value} {n : Nat} (h : w.ownsRow base T 1 v n (madeCells (Value.int k 0).cells (n * 1)).toList) : OwnI k T w base v (List.replicate n 0) := by
  unfold OwnI
  rw [List.length_replicate, List.map_replicate, ← toList_madeCells_one]
  rw [Nat.mul_one] at h
  exact h
/-- So many numbers, the rest nought. -/
def padZ (L : List Int) (n : Nat) : List Int := L ++ List.replicate (n - L.length) 0
theorem padZ_nil (n : Nat) : padZ [] n = List.replicate n 0 := by unfold padZ; simp
theorem padZ_len {L : List Int} {n : Nat} (h : L.length ≤ n) : (padZ L n).length = n := by unfold padZ; rw [List.length_append, List.length_replicate]; omega
theorem padZ_full {L : List Int} {n : Nat} (h : L.length = n) : padZ L n = L := by unfold padZ; rw [h, Nat.sub_self]; simp
theorem padZ_set {L : List Int} {n j : Nat} (hj : L.length = j) (h : j < n) (x : Int) : (padZ L n).set j x = padZ (L ++ [x]) n := by
  subst hj
  unfold padZ
  rw [List.set_append_right _ _ (Nat.le_refl _), Nat.sub_self, List.length_append, List.length_singleton]
  obtain ⟨d, hd⟩ : ∃ d, n - L.length = d + 1 := ⟨n - L.length - 1, by omega⟩
  rw [hd, show n - (L.length + 1) = d by omega, List.replicate_succ, List.set_cons_zero, List.append_assoc]
  rfl
/-- Filled so far. -/
def fillZ (F : Int → Int) (xs : List Int) (n j : Nat) : List Int := padZ ((xs.take j).map F) n
theorem fillZ_zero (F : Int → Int) (xs : List Int) (n : Nat) : fillZ F xs n 0 = List.replicate n 0 := by unfold fillZ; rw [List.take_zero, List.map_nil, padZ_nil]
theorem fillZ_len {F : Int → Int} {xs : List Int} {n j : Nat} (hx : xs.length = n) : (fillZ F xs n j).length = n := padZ_len (by rw [List.length_map, List.length_take]; omega)
theorem fillZ_all {F : Int → Int} {xs : List Int} {n : Nat} (hx : xs.length = n) : fillZ F xs n n = xs.map F := by
  unfold fillZ
  rw [List.take_of_length_le (by omega), padZ_full (by rw [List.length_map]; exact hx)]
theorem fillZ_set {F : Int → Int} {xs : List Int} {n j : Nat} (hx : xs.length = n) (h : j < n) : (fillZ F xs n j).set j (F (xs.getD j 0)) = fillZ F xs n (j + 1) := by
  unfold fillZ
  rw [padZ_set (by rw [List.length_map, List.length_take]; omega) h, take_step xs (by omega), List.map_append]
  rfl
theorem OwnI.of_block {k : IntKind} {T : TypeId} {w : World} {base g n : Nat} {xs : List Int} (hg : w.heap[g]? = some (.cells (xs.map (Value.int k)).toArray T (0, 0))) (hn : xs.length = n) (hb : base ≤ g) (hm : n ≤ maxLen) : OwnI k T w base (.slice (some ⟨g, 0, none⟩) n n) xs := by
  subst hn
  exact ⟨by simp, Or.inr ⟨g, xs.length, _, rfl, hb, hg, Nat.le_refl _, hm, by simp, by rw [List.toList_toArray, Nat.mul_one]; exact List.take_of_length_le (by rw [List.length_map]; exact Nat.le_refl _)⟩⟩
/-- 'copy' into a block that is known whole: what the call answers, and what the block holds then. -/
theorem copy_run {P : Program} (w : World) (dT sT ty elem : TypeId) (hu : P.underlying dT = some (.slice elem)) (hs : (P.info? elem).map (·.size) = some 1) (g o dLen dCap : Nat) (a : Addr) (sLen sCap : Nat) (cur : List Value) (t : TypeId) (cs : List Value) (c : Nat)
    (hg : w.heap[g]? = some (.cells cur.toArray t (0, 0))) (hc : cs.length = c) (hn : c = Nat.min sLen dLen)
    (hsrc : ∀ j v, cs[j]? = some v → w.cell? (a.add j) = some v) (hfit : o + c ≤ cur.length) (h1 : ∀ v ∈ cs, v.oneCell' = true) (B : Nat) (hB : B ≤ g) :
    ∃ w', (Builtin.copy_ #[dT, sT] ty #[.slice (some ⟨g, o, none⟩) dLen dCap, .slice (some a) sLen sCap]).run P w = .ok (.int .i64 (c : Int)) w' ∧ w'.heap[g]? = some (.cells (splice cur o cs).toArray t (0, 0)) ∧ Below B w w' := by
  subst hc
  refine ⟨_, run_copy_row (P := P) w dT sT ty elem g o dLen dCap a sLen sCap cur.toArray t cs hu hs hg hn hsrc (by simpa using hfit) h1, ?_, below_setRow (Below.refl _ _) hB _⟩
  simpa [splice] using setRow_heap w g _ _ t _ hg
theorem below_made {w w1 w2 : World} (h : Below w.heap.size w w1) (hg : w1.grownBy w2 none) : Below w.heap.size w w2 := h.grown hg h.size (fun j hj => by cases hj)
end Go.Proofs.YtmkkhgnhpcgaaaaDoor
