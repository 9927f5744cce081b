/- Parts, joined. -/
import Derived.Test.YtjmjgokgjeankaaGreatDoorJ25
import Derived.Test.YtjmjgokgjeankaaGreatDoorJ27
import Derived.Test.YtjmjgokgjeankaaGreatDoorJ05
import Derived.Deep.RegionLaw
import Derived.Laws.CopyOwn
import Derived.OpenShut
/- Tables of the program: what its lines are like. Plain lists. -/
namespace Go.Proofs.YtjmjgokgjeankaaGreatDoor
open Go.RowKit


theorem appR_64 {l : List Int} (h : Fits l) : All64 (appR l) := by
  intro j hj
  have hm : (appR l).getD j 0 ∈ appR l := by
    rw [List.getD_eq_getElem?_getD, List.getElem?_eq_getElem hj]
    exact List.getElem_mem hj
  have := app_within h _ hm
  omega
theorem lines_ok {f n : Int} {m : Nat} (h : resCode f n m = 0) (hB : resB f n m = true) : LinesOk (linesTo f n m m) := by
  intro j hj
  rw [linesTo_len] at hj
  rw [show lnAt (linesTo f n m m) j = lineR f n m j from lnAt_map _ hj]
  have hF := code_line h hB hj
  obtain ⟨f0, f1, ⟨n0, n1⟩, m0, m1⟩ := (resB_iff f n m).1 hB
  have hM : MayP f n m j := ⟨f0, f1, n0, n1, by omega, by omega, by omega, by omega⟩
  obtain ⟨a, b, c, d⟩ := row_ends hM
  refine ⟨?_, ?_, ?_, ?_, appR_64 hF⟩
  · show _ ≤ startR f n m j; omega
  · show startR f n m j ≤ _; omega
  · show 1 ≤ (appR (rowI f n m j)).length; rw [appR_length, rowI_len]; exact c
  · show (appR (rowI f n m j)).length ≤ _; rw [appR_length, rowI_len]; omega
theorem fil_at {xs : List Int} {k j : Nat} (h : j < k) : lnAt (filTo xs k) j = filLine xs j := lnAt_map _ h
theorem fil_ok {xs : List Int} (h : Fits xs) {k : Nat} (hk : k ≤ 65536) : LinesOk (filTo xs k) := by
  intro j hj
  rw [filTo_len] at hj
  rw [fil_at hj]
  have h2 := appR_64 h
  obtain ⟨h0, h1, _⟩ := h
  refine ⟨?_, ?_, ?_, ?_, h2⟩
  · show _ ≤ (j : Int) - ((xs.length / 2 : Nat) : Int); omega
  · show (j : Int) - ((xs.length / 2 : Nat) : Int) ≤ _; omega
  · show 1 ≤ (appR xs).length; rw [appR_length]; exact h0
  · show (appR xs).length ≤ _; rw [appR_length]; exact h1
theorem same_ok {k : Nat} (hk : k ≤ 65536) : LinesOk (sameTo k) := by
  intro j hj
  rw [sameTo_len] at hj
  rw [sameTo_at hj]
  refine ⟨by show _ ≤ (j : Int); omega, by show (j : Int) ≤ _; omega, by show 1 ≤ 1; omega, by show 1 ≤ _; omega, ?_⟩
  intro t ht
  match t, ht with
  | 0, _ => exact ⟨by show _ ≤ (16384 : Int); omega, by show (16384 : Int) ≤ _; omega⟩
theorem fil_moves (xs : List Int) (k : Nat) : Moves (filTo xs k) := by
  intro j hj
  rw [filTo_len] at hj
  rw [fil_at (show j < k by omega), fil_at hj]
  refine ⟨?_, ?_⟩
  · show (j : Int) - ((xs.length / 2 : Nat) : Int) ≤ ((j + 1 : Nat) : Int) - ((xs.length / 2 : Nat) : Int); omega
  · show (j : Int) - ((xs.length / 2 : Nat) : Int) + ((appR xs).length : Int) ≤ ((j + 1 : Nat) : Int) - ((xs.length / 2 : Nat) : Int) + ((appR xs).length : Int); omega
theorem same_moves (k : Nat) : Moves (sameTo k) := by
  intro j hj
  rw [sameTo_len] at hj
  rw [sameTo_at (show j < k by omega), sameTo_at hj]
  refine ⟨?_, ?_⟩
  · show (j : Int) ≤ ((j + 1 : Nat) : Int); omega
  · show (j : Int) + ((1 : Nat) : Int) ≤ ((j + 1 : Nat) : Int) + ((1 : Nat) : Int); omega
/-- Lines whose taps are all the same. -/
theorem most_all {L : List (Int × List Int)} {ts : List Int} (h : ∀ j, j < L.length → (lnAt L j).2 = ts) (h0 : 1 ≤ L.length) : mostF L = (ts.length : Int) ∧ sizeF L = sizeH ts := by
  have e : ∀ o, o ≤ L.length → mostTo L o = (if o = 0 then 0 else (ts.length : Int)) ∧ sizeTo L o = (if o = 0 then 0 else sizeH ts) := by
    intro o ho
    induction o with
    | zero => exact ⟨rfl, rfl⟩
    | succ o ih =>
      obtain ⟨a, b⟩ := ih (by omega)
      have s : mostTo L (o + 1) = max (mostTo L o) ((lnAt L o).2.length : Int) := rfl
      have t : sizeTo L (o + 1) = max (sizeTo L o) (sizeH (lnAt L o).2) := rfl
      have z := (sizeH_in ts).1
      rw [s, t, a, b, h o (by omega), if_neg (show o + 1 ≠ 0 by omega), if_neg (show o + 1 ≠ 0 by omega)]
      constructor
      · split <;> omega
      · split <;> omega
  obtain ⟨a, b⟩ := e L.length (Nat.le_refl _)
  rw [if_neg (show L.length ≠ 0 by omega)] at a b
  exact ⟨a, b⟩
theorem fil_most (xs : List Int) {k : Nat} (h : 1 ≤ k) : mostF (filTo xs k) = (xs.length : Int) ∧ sizeF (filTo xs k) = sizeH (appR xs) := by
  have := most_all (L := filTo xs k) (ts := appR xs) (fun j hj => by rw [filTo_len] at hj; rw [fil_at hj]; rfl) (by rw [filTo_len]; exact h)
  rw [appR_length] at this
  exact this
theorem same_most {k : Nat} (h : 1 ≤ k) : mostF (sameTo k) = 1 ∧ sizeF (sameTo k) = 16384 :=
  most_all (L := sameTo k) (ts := [16384]) (fun j hj => by rw [sameTo_len] at hj; rw [sameTo_at hj]) (by rw [sameTo_len]; exact h)
/-! ### What some outputs take, of lines that move on -/
theorem reach_none {L : List (Int × List Int)} {i k : Int} (h : min k (L.length : Int) ≤ max i 0) : reachF L i k = (0, 0, false) := by
  have e : ∀ o, o ≤ L.length → reachTo L i k o = (0, 0, false) := by
    intro o ho
    induction o with
    | zero => rfl
    | succ o ih =>
      unfold reachTo
      rw [if_pos (by omega)]
      exact ih (by omega)
  exact e _ (Nat.le_refl _)
theorem reach_part {L : List (Int × List Int)} (hM : Moves L) {i k : Int} {p q : Nat} (hp : (p : Int) = max i 0) (hq : (q : Int) + 1 = min k (L.length : Int)) (h : p ≤ q) :
    reachF L i k = ((lnAt L p).1, (lnAt L q).1 + ((lnAt L q).2.length : Int), true) := by
  have e0 : reachTo L i k p = (0, 0, false) := by
    by_cases g : i ≤ 0
    · obtain rfl : p = 0 := by omega
      rfl
    · exact reach_below p (by omega)
  have e : ∀ d, p + d ≤ q → reachTo L i k (p + d + 1) = ((lnAt L p).1, (lnAt L (p + d)).1 + ((lnAt L (p + d)).2.length : Int), true) ∧ (lnAt L p).1 ≤ (lnAt L (p + d)).1 := by
    intro d hd
    induction d with
    | zero =>
      refine ⟨?_, Int.le_refl _⟩
      show (if (p : Int) < i ∨ k ≤ (p : Int) then _ else _) = _
      rw [if_neg (by omega), show p + 0 = p from rfl, e0]
      rfl
    | succ d ih =>
      obtain ⟨a, b⟩ := ih (by omega)
      obtain ⟨m0, m1⟩ := hM (p + d) (by omega)
      have s : reachTo L i k (p + (d + 1) + 1) = if ((p + d + 1 : Nat) : Int) < i ∨ k ≤ ((p + d + 1 : Nat) : Int) then reachTo L i k (p + d + 1) else reachStep (reachTo L i k (p + d + 1)) (lnAt L (p + d + 1)).1 (lnAt L (p + d + 1)).2.length := rfl
      rw [s, if_neg (by omega), a]
      refine ⟨?_, by show _ ≤ (lnAt L (p + d + 1)).1; omega⟩
      show (min (lnAt L p).1 (lnAt L (p + d + 1)).1, max ((lnAt L (p + d)).1 + ((lnAt L (p + d)).2.length : Int)) ((lnAt L (p + d + 1)).1 + ((lnAt L (p + d + 1)).2.length : Int)), true) = _
      rw [Int.min_eq_left (by omega), Int.max_eq_right m1]
      rfl
  obtain ⟨a, _⟩ := e (q - p) (by omega)
  rw [show p + (q - p) = q by omega] at a
  unfold reachF
  obtain ⟨d, hd⟩ : ∃ d, L.length = q + 1 + d := ⟨L.length - (q + 1), by omega⟩
  rw [hd]
  by_cases g : k ≤ ((q + 1 : Nat) : Int)
  · rw [reach_above (q + 1) d g]; exact a
  · obtain rfl : d = 0 := by omega
    exact a
end Go.Proofs.YtjmjgokgjeankaaGreatDoor

/- Slices of numbers that are made whole and filled, number by number. No number of the program stands in it. -/
namespace Go.Proofs.YtjmjgokgjeankaaGreatDoor
open Go.RowKit


/-- 'make' of so many, as one step of a region that draws its order. -/
theorem step_make_full {P : Program} {ops : Array Oper} {o : Oper} {a : Act} {w : World} {K : Act → World → Prop} {Q : Exit → Act → World → Prop} {E : Prop}
    (hg : o.guard = none) (l c : Operand) (t : TypeId) (hop : o.op = Op.makeSlice t l c)
    (base : Nat) (e : TypeId) (i : TypeInfo) (z : Value) (size : Nat) (h1 : P.underlying t = some (.slice e)) (h2 : P.info? e = some i) (h3 : i.zero = some z) (h4 : i.size = size)
    (kl kc : IntKind) (L C : Int) (n : Nat) (hl : a.eval l = .int kl L) (hc : a.eval c = .int kc C) (hL : L = (n : Int)) (hC : C = (n : Int)) (b2 : i.bytes * n ≤ 281474976710656) (b3 : n ≤ maxLen) (b4 : base ≤ w.heap.size)
    (hK : ∀ w', w'.ownsRow base e size (.slice (some ⟨w.heap.size, 0, none⟩) n n) n (madeCells z.cells (n * size)).toList → w.grownBy w' none → K (a.put o.dst (.slice (some ⟨w.heap.size, 0, none⟩) n n)) w') :
    if Region.wanted o (yielded ops a.tmps) = true then Oper.wp P o a w K Q else E := by
  have hw : Region.wanted o (yielded ops a.tmps) = true := by simp [Region.wanted, hg]
  rw [if_pos hw]
  obtain ⟨w', hrun, r1, r2⟩ := run_make_full (P := P) w base t e i z size h1 h2 h3 h4 kl kc n b2 b3 b4
  subst hL
  subst hC
  unfold Oper.wp
  simp [execOp, hop, hl, hc, hrun, Result.andThen]
  exact hK w' r1 r2
/-- What is made owns noughts. -/
theorem OwnI.made {k : IntKind} {T : TypeId} {w : World} {base : Nat} {v : Value} {n : Nat} (h : w.ownsRow base T 1 v n (madeCells (Value.int k 0).cells (n * 1)).toList) : OwnI k T w base v (List.replicate n 0) := by
  unfold OwnI
  rw [List.length_replicate, List.map_replicate, ← toList_madeCells_one]
  rw [Nat.mul_one] at h
  exact h
/-- So many numbers, the rest nought. -/
def padZ (L : List Int) (n : Nat) : List Int := L ++ List.replicate (n - L.length) 0
theorem padZ_nil (n : Nat) : padZ [] n = List.replicate n 0 := by unfold padZ; simp
theorem padZ_len {L : List Int} {n : Nat} (h : L.length ≤ n) : (padZ L n).length = n := by unfold padZ; rw [List.length_append, List.length_replicate]; omega
theorem padZ_full {L : List Int} {n : Nat} (h : L.length = n) : padZ L n = L := by unfold padZ; rw [h, Nat.sub_self]; simp
theorem padZ_set {L : List Int} {n j : Nat} (hj : L.length = j) (h : j < n) (x : Int) : (padZ L n).set j x = padZ (L ++ [x]) n := by
  subst hj
  unfold padZ
  rw [List.set_append_right _ _ (Nat.le_refl _), Nat.sub_self, List.length_append, List.length_singleton]
  obtain ⟨d, hd⟩ : ∃ d, n - L.length = d + 1 := ⟨n - L.length - 1, by omega⟩
  rw [hd, show n - (L.length + 1) = d by omega, List.replicate_succ, List.set_cons_zero, List.append_assoc]
  rfl
/-- Filled so far. -/
def fillZ (F : Int → Int) (xs : List Int) (n j : Nat) : List Int := padZ ((xs.take j).map F) n
theorem fillZ_zero (F : Int → Int) (xs : List Int) (n : Nat) : fillZ F xs n 0 = List.replicate n 0 := by unfold fillZ; rw [List.take_zero, List.map_nil, padZ_nil]
theorem fillZ_len {F : Int → Int} {xs : List Int} {n j : Nat} (hx : xs.length = n) : (fillZ F xs n j).length = n := padZ_len (by rw [List.length_map, List.length_take]; omega)
theorem fillZ_all {F : Int → Int} {xs : List Int} {n : Nat} (hx : xs.length = n) : fillZ F xs n n = xs.map F := by
  unfold fillZ
  rw [List.take_of_length_le (by omega), padZ_full (by rw [List.length_map]; exact hx)]
theorem fillZ_set {F : Int → Int} {xs : List Int} {n j : Nat} (hx : xs.length = n) (h : j < n) : (fillZ F xs n j).set j (F (xs.getD j 0)) = fillZ F xs n (j + 1) := by
  unfold fillZ
  rw [padZ_set (by rw [List.length_map, List.length_take]; omega) h, take_step xs (by omega), List.map_append]
  rfl
theorem OwnI.of_block {k : IntKind} {T : TypeId} {w : World} {base g n : Nat} {xs : List Int} (hg : w.heap[g]? = some (.cells (xs.map (Value.int k)).toArray T (0, 0))) (hn : xs.length = n) (hb : base ≤ g) (hm : n ≤ maxLen) : OwnI k T w base (.slice (some ⟨g, 0, none⟩) n n) xs := by
  subst hn
  exact ⟨by simp, Or.inr ⟨g, xs.length, _, rfl, hb, hg, Nat.le_refl _, hm, by simp, by rw [List.toList_toArray, Nat.mul_one]; exact List.take_of_length_le (by rw [List.length_map]; exact Nat.le_refl _)⟩⟩
/-- 'copy' into a block that is known whole: what the call answers, and what the block holds then. -/
theorem copy_run {P : Program} (w : World) (dT sT ty elem : TypeId) (hu : P.underlying dT = some (.slice elem)) (hs : (P.info? elem).map (·.size) = some 1) (g o dLen dCap : Nat) (a : Addr) (sLen sCap : Nat) (cur : List Value) (t : TypeId) (cs : List Value) (c : Nat)
    (hg : w.heap[g]? = some (.cells cur.toArray t (0, 0))) (hc : cs.length = c) (hn : c = Nat.min sLen dLen)
    (hsrc : ∀ j v, cs[j]? = some v → w.cell? (a.add j) = some v) (hfit : o + c ≤ cur.length) (h1 : ∀ v ∈ cs, v.oneCell' = true) (B : Nat) (hB : B ≤ g) :
    ∃ w', (Builtin.copy_ #[dT, sT] ty #[.slice (some ⟨g, o, none⟩) dLen dCap, .slice (some a) sLen sCap]).run P w = .ok (.int .i64 (c : Int)) w' ∧ w'.heap[g]? = some (.cells (splice cur o cs).toArray t (0, 0)) ∧ Below B w w' := by
  subst hc
  refine ⟨_, run_copy_row (P := P) w dT sT ty elem g o dLen dCap a sLen sCap cur.toArray t cs hu hs hg hn hsrc (by simpa using hfit) h1, ?_, below_setRow (Below.refl _ _) hB _⟩
  simpa [splice] using setRow_heap w g _ _ t _ hg
theorem below_made {w w1 w2 : World} (h : Below w.heap.size w w1) (hg : w1.grownBy w2 none) : Below w.heap.size w w2 := h.grown hg h.size (fun j hj => by cases hj)
end Go.Proofs.YtjmjgokgjeankaaGreatDoor

/- What 'make' makes of numbers of 64 bits. -/
namespace Go.Proofs.YtjmjgokgjeankaaGreatDoor
open Go.RowKit


theorem infoI64Q : (Tryz.prog.info? 2).map (fun i => (i.zero, i.size, i.bytes)) = some (some (.int .i64 0), 1, 8) := by kernel_rfl
theorem make64 (n : Nat) (h : n ≤ 1048576) : ∃ zs : Array Value, (∀ w : World, (Instr.makeSlice 33 (.int .i64 (n : Int)) (.int .i64 (n : Int))).run Tryz.prog w = .ok (.slice (some ⟨w.heap.size, 0, none⟩) n n) (w.alloc (.cells zs 2))) ∧ (∀ (w : World) (B : Nat), B ≤ w.heap.size → OwnI .i64 2 (w.alloc (.cells zs 2)) B (.slice (some ⟨w.heap.size, 0, none⟩) n n) (List.replicate n 0)) ∧ zs.toList = List.replicate n (.int .i64 0) := by
  obtain ⟨i0, hi, hz0, hz1, hz2⟩ := info_parts infoI64Q
  have hm : (n : Int) ≤ 9223372036854775807 := by omega
  refine ⟨madeCells (Value.int .i64 0).cells (n * i0.size), fun w => ?_, fun w B hB => ?_, ?_⟩
  · have hr := run_make (P := Tryz.prog) w 33 2 i0 (.int .i64 0) Tryz.underlying33 hi hz0 .i64 .i64 n n (by omega) (Int.le_refl _) (by rw [hz2]; omega) hm
    simpa only [Int.toNat_natCast] using hr
  · refine OwnI.made ?_
    rw [hz1]
    exact World.ownsRow_lit w _ n hB (by unfold maxLen; omega) (by rw [size_madeCells])
  · rw [hz1, Nat.mul_one]; exact toList_madeCells_one _ _
end Go.Proofs.YtjmjgokgjeankaaGreatDoor
