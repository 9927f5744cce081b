/- Parts, joined. -/
import Derived.Test.YtjmjgokgjeankaaGreatDoorJ26
import Derived.Test.YtjmjgokgjeankaaGreatDoorJ17
import Derived.Test.YtjmjgokgjeankaaGreatDoorJ19
import Derived.Deep.LoopGhost
import Derived.Deep.RegionHeld3
import Derived.Deep.QuietTactic
import Derived.BigQuiet
/- Tables: the example, and the laws on resizes and filters, out of what the program's calls answer. -/
namespace Go.Proofs.YtjmjgokgjeankaaGreatDoor
open Go.RowKit


def LiveC (K : World → Prop) (f : FuncId) : Prop := ∀ w : World, K w → Calls Tryz.prog f #[] w fun e w' => e = .returned (.bool true) ∧ Below w.heap.size w w'
theorem res_ex : resCode 0 4 2 = 0 ∧ linesTo 0 4 2 2 = [(0, [8192, 8192]), (2, [8192, 8192])] ∧ reachF [(0, [8192, 8192]), (2, [8192, 8192])] 0 2 = (0, 4, true) := by decide +kernel
theorem lit2 (w : World) (a b : Int) (t : TypeId) : RowAt .i64 (w.alloc (.cells #[.int .i64 a, .int .i64 b] t)) (some ⟨w.heap.size, 0, none⟩) [a, b] := by
  refine Or.inr ⟨w.heap.size, 0, rfl, fun j hj => ?_⟩
  match j, hj with
  | 0, _ => simp
  | 1, _ => simp
theorem field_first (x : Int) (ad : Option Addr) (n c : Nat) : ∀ w : World, (Instr.field 38 (.agg #[.int .i64 x, .slice ad n c]) 0).run Tryz.prog w = .ok (.int .i64 x) w := fun _ => by kernel_rfl
set_option maxRecDepth 100000 in
theorem table_lives {K : World → Prop} {T : World → Value → Int → List (Int × List Int) → Prop} (TC : TabC K T) (CR : ResizeC K T) (C5 : LiveC K 13) (C6 : LiveC K 14) : LiveC K 5 := by
  intro w hk
  have C5 := fun w hk => C5 w hk
  have C6 := fun w hk => C6 w hk
  obtain ⟨e1, e2, e3⟩ := res_ex
  have CR1 := fun w hk => CR 0 4 2 (by omega) (by omega) (by omega) (by omega) (by omega) (by omega) w hk
  rw [e1, show (2 : Int).toNat = 2 from rfl, e2] at CR1
  have CK : ∀ w' : World, Below w.heap.size w w' → K w' := fun w' b => TC.kbelow hk b
  have L1 : ∀ {w : World} {v : Value} {n : Int}, T w v n [(0, [8192, 8192]), (2, [8192, 8192])] → Calls Tryz.prog 12 #[v, .int .i64 1] w fun e w' => ∃ u, e = .returned (.agg #[.int .i64 2, u]) ∧ OwnI .i64 2 w' w.heap.size u [8192, 8192] ∧ Below w.heap.size w w' := fun h => TC.line h 1 (by decide)
  have L0 : ∀ {w : World} {v : Value} {n : Int}, T w v n [(0, [8192, 8192]), (2, [8192, 8192])] → Calls Tryz.prog 12 #[v, .int .i64 0] w fun e w' => ∃ u, e = .returned (.agg #[.int .i64 0, u]) ∧ OwnI .i64 2 w' w.heap.size u [8192, 8192] ∧ Below w.heap.size w w' := fun h => TC.line h 0 (by decide)
  have LR : ∀ {w : World} {v : Value} {n : Int}, T w v n [(0, [8192, 8192]), (2, [8192, 8192])] → Calls Tryz.prog 15 #[v, .int .i64 0, .int .i64 2] w fun e w' => e = .returned (.tuple #[.int .i64 0, .int .i64 4]) ∧ Below w.heap.size w w' := by
    intro w v n h
    have := TC.reach h 0 2 (by omega) (by omega) (by omega) (by omega)
    rw [e3] at this
    exact this
  clear e1 e2 e3 CR hk
  go_enter Tryz.func5, Tryz.ntmps5
  go_wp2_with (first
    | (go_at_call 13; (with_reducible refine (C5 _ (CK _ (by repeat (first | exact Below.refl _ _ | exact HB.out | (with_reducible refine bt ?_ (by assumption)) | with_reducible refine bd ?_ | with_reducible refine ba ?_ _)))).mono ?_); rintro e w1 ⟨rfl, b1⟩)
    | (go_at_call 14; (with_reducible refine (C6 _ (CK _ (by repeat (first | exact Below.refl _ _ | exact HB.out | (with_reducible refine bt ?_ (by assumption)) | with_reducible refine bd ?_ | with_reducible refine ba ?_ _)))).mono ?_); rintro e w2 ⟨rfl, b2⟩)
    | (go_at_call 6; (with_reducible refine (CR1 _ (CK _ (by repeat (first | exact Below.refl _ _ | exact HB.out | (with_reducible refine bt ?_ (by assumption)) | with_reducible refine bd ?_ | with_reducible refine ba ?_ _)))).mono ?_); rintro e w3 ⟨v, rfl, hT, _, b3⟩; have HT := hide (hT (by trivial)); clear hT; obtain ⟨a, rfl⟩ := TC.ptr HT.out)
    | (go_at_call 12; (with_reducible refine (L1 HT.out).mono ?_); rintro e w4 ⟨u, rfl, ou, b4⟩; obtain ⟨ad, cap, rfl, ra, _⟩ := ou.formn (show [(8192 : Int), 8192].length = 2 from rfl))
    | (go_at_call 15; (with_reducible refine (LR (TC.below HT.out (by repeat (first | exact Below.refl _ _ | exact HB.out | (with_reducible refine bt ?_ (by assumption)) | with_reducible refine bd ?_ | with_reducible refine ba ?_ _)))).mono ?_); rintro e w5 ⟨rfl, b5⟩; have q0 := cb b5 (b := w4.heap.size) (o := 0) (v := .int .i64 2) (by simp) (by simp); have q1 := cb b5 (b := w4.heap.size) (o := 1) (v := .slice ad 2 cap) (by simp) (by simp); have z5 : w4.heap.size < w5.heap.size := (by have := b5.size; simp at this; omega))
    | (go_at_call 12; (with_reducible refine (L0 (TC.below HT.out (by repeat (first | exact Below.refl _ _ | exact HB.out | (with_reducible refine bt ?_ (by assumption)) | with_reducible refine bd ?_ | with_reducible refine ba ?_ _)))).mono ?_); rintro e w6 ⟨u6, rfl, ou6, b6⟩; obtain ⟨ad6, cap6, rfl, _, _⟩ := ou6.formn (show [(8192 : Int), 8192].length = 2 from rfl); have F0 := field_first 0 ad6 2 cap6; have y0 := cb b6 z5 q0; have y1 := cb b6 z5 q1)
    | (go_at_call 11; (with_reducible refine (same_n 2 [8192, 8192] rfl _ _ _ _ _ (ra.below (by repeat (first | exact Below.refl _ _ | exact HB.out | (with_reducible refine bt ?_ (by assumption)) | with_reducible refine bd ?_ | with_reducible refine ba ?_ _))) (lit2 _ _ _ _) (by omega)).mono ?_); rintro e w7 ⟨rfl, b7⟩))
  go_ret
  refine ⟨rfl, ?_⟩
  exact (by repeat (first | exact Below.refl _ _ | exact HB.out | (with_reducible refine bt ?_ (by assumption)) | with_reducible refine bd ?_ | with_reducible refine ba ?_ _))
theorem resize_len {f n m : Int} (h : resCode f n m = 0) : 1 ≤ n ∧ n ≤ 65536 ∧ 1 ≤ m ∧ m ≤ 65536 ∧ linesTo f n m m.toNat ≠ [] := by
  unfold resCode at h
  by_cases g : resB f n m = true
  · obtain ⟨_, _, ⟨n0, n1⟩, m0, m1⟩ := (resB_iff f n m).1 g
    refine ⟨n0, n1, m0, m1, fun e => ?_⟩
    have := linesTo_len f n m m.toNat
    rw [e] at this
    simp at this
    omega
  · rw [if_neg g] at h; omega
set_option maxRecDepth 100000 in
theorem resizes_far (f n m i k : Int) (w : World) {K : World → Prop} (hk : K w) (CL : LiveC K 5) (KB : ∀ {w w' : World}, K w → Below w.heap.size w w' → K w') (h : (60 < m ∧ m ≤ 65536) ∨ ((m ≤ 60 ∨ (60 < m ∧ 65536 < m)) ∧ 400 < n ∧ n ≤ 65536)) :
    Calls Tryz.prog 3 #[.int .i64 f, .int .i64 n, .int .i64 m, .int .i64 i, .int .i64 k] w fun e w' => e = .returned (.bool true) ∧ Below w.heap.size w w' := by
  have CL := fun w hk => CL w hk
  have CK : ∀ w' : World, Below w.heap.size w w' → K w' := fun w' b => KB hk b
  clear hk
  rcases h with ⟨h1, h2⟩ | ⟨h1 | ⟨h1, h2⟩, h3, h4⟩
  all_goals
    go_enter Tryz.func3, Tryz.ntmps3
    go_wp2_with (go_at_call 5; (with_reducible refine (CL _ (CK _ (by repeat (first | exact Below.refl _ _ | exact HB.out | (with_reducible refine bt ?_ (by assumption)) | with_reducible refine bd ?_ | with_reducible refine ba ?_ _)))).mono ?_); rintro e w1 ⟨rfl, b1⟩)
    go_ret
    refine ⟨rfl, ?_⟩
    exact (by repeat (first | exact Below.refl _ _ | exact HB.out | (with_reducible refine bt ?_ (by assumption)) | with_reducible refine bd ?_ | with_reducible refine ba ?_ _))
set_option maxRecDepth 100000 in
set_option maxHeartbeats 1000000 in
theorem of_TableResizes {K : World → Prop} {T : World → Value → Int → List (Int × List Int) → Prop} (TC : TabC K T) (CR : ResizeC K T) (CL : LiveC K 5) (f n m i k : Int) (w : World) (hk : K w)
    (f0 : -9223372036854775808 ≤ f) (f1 : f ≤ 9223372036854775807) (n0 : -9223372036854775808 ≤ n) (n1 : n ≤ 9223372036854775807) (m0 : -9223372036854775808 ≤ m) (m1 : m ≤ 9223372036854775807) (i0 : -9223372036854775808 ≤ i) (i1 : i ≤ 9223372036854775807) (k0 : -9223372036854775808 ≤ k) (k1 : k ≤ 9223372036854775807) :
    Calls Tryz.prog 3 #[.int .i64 f, .int .i64 n, .int .i64 m, .int .i64 i, .int .i64 k] w fun e w' => e = .returned (.bool true) ∧ Below w.heap.size w w' := by
  by_cases hfar : (60 < m ∧ m ≤ 65536) ∨ ((m ≤ 60 ∨ (60 < m ∧ 65536 < m)) ∧ 400 < n ∧ n ≤ 65536)
  · exact resizes_far f n m i k w hk CL TC.kbelow hfar
  have hm : m ≤ 60 ∨ (60 < m ∧ 65536 < m) := by omega
  have hn : n ≤ 400 ∨ (400 < n ∧ 65536 < n) := by omega
  clear hfar
  have CL := fun w hk => CL w hk
  have CK : ∀ w' : World, Below w.heap.size w w' → K w' := fun w' b => TC.kbelow hk b
  have C1 := fun w hk => CR f n m f0 f1 n0 n1 m0 m1 w hk
  have C2 := refresize_any f n m
  clear CR hk
  have hl := fun h => resize_len (f := f) (n := n) (m := m) h
  by_cases hz : resCode f n m = 0
  · obtain ⟨x0, x1, x2, x3, hne⟩ := hl hz
    rw [hz] at C1 C2
    have HNE := hide hne
    have g1 : m ≤ 60 := by omega
    have g2 : n ≤ 400 := by omega
    clear hl hz hne hm hn x0 x1 x2 x3
    generalize linesTo f n m m.toNat = L at *
    all_goals
      go_enter Tryz.func3, Tryz.ntmps3
      go_wp2_with (first
        | (go_at_call 5; (with_reducible refine (CL _ (CK _ (by repeat (first | exact Below.refl _ _ | exact HB.out | (with_reducible refine bt ?_ (by assumption)) | with_reducible refine bd ?_ | with_reducible refine ba ?_ _)))).mono ?_); rintro e w1 ⟨rfl, b1⟩)
        | (go_at_call 6; (with_reducible refine (C1 _ (CK _ (by repeat (first | exact Below.refl _ _ | exact HB.out | (with_reducible refine bt ?_ (by assumption)) | with_reducible refine bd ?_ | with_reducible refine ba ?_ _)))).mono ?_); rintro e w3 ⟨v, rfl, hT, _, b3⟩; have HT := hide (hT (by trivial)); clear hT; obtain ⟨a, rfl⟩ := TC.ptr HT.out)
        | (go_at_call 7; (with_reducible refine (C2 _).mono ?_); rintro e w4 ⟨v4, rfl, ho, _, b4⟩; obtain ⟨g, cap, rfl, _, hr⟩ := (ho (by trivial)).read HNE.out; have HR := hide hr; clear ho hr)
        | (go_at_call 8; (with_reducible refine (same_table TC _ n L g cap i k _ (TC.below HT.out (by repeat (first | exact Below.refl _ _ | exact HB.out | (with_reducible refine bt ?_ (by assumption)) | with_reducible refine bd ?_ | with_reducible refine ba ?_ _))) HR.out i0 i1 k0 k1).mono ?_); rintro e w5 ⟨rfl, b5⟩))
      go_ret
      refine ⟨rfl, ?_⟩
      exact (by repeat (first | exact Below.refl _ _ | exact HB.out | (with_reducible refine bt ?_ (by assumption)) | with_reducible refine bd ?_ | with_reducible refine ba ?_ _))
  · have hzb : (resCode f n m != 0) = true := by simpa using hz
    have hzb2 : (resCode f n m == 0) = false := by simpa using hz
    have HZ := hide hz
    clear hl hz
    generalize resCode f n m = cd at *
    rcases hm with hm | ⟨hm, hm'⟩ <;> rcases hn with hn | ⟨hn, hn'⟩
    all_goals
      go_enter Tryz.func3, Tryz.ntmps3
      go_wp2_with (first
        | (go_at_call 5; (with_reducible refine (CL _ (CK _ (by repeat (first | exact Below.refl _ _ | exact HB.out | (with_reducible refine bt ?_ (by assumption)) | with_reducible refine bd ?_ | with_reducible refine ba ?_ _)))).mono ?_); rintro e w1 ⟨rfl, b1⟩)
        | (go_at_call 6; (with_reducible refine (C1 _ (CK _ (by repeat (first | exact Below.refl _ _ | exact HB.out | (with_reducible refine bt ?_ (by assumption)) | with_reducible refine bd ?_ | with_reducible refine ba ?_ _)))).mono ?_); rintro e w3 ⟨v, rfl, _, hv, b3⟩; obtain rfl := hv HZ.out)
        | (go_at_call 7; (with_reducible refine (C2 _).mono ?_); rintro e w4 ⟨v4, rfl, _, hv4, b4⟩; obtain rfl := hv4 HZ.out))
      go_ret
      refine ⟨rfl, ?_⟩
      exact (by repeat (first | exact Below.refl _ _ | exact HB.out | (with_reducible refine bt ?_ (by assumption)) | with_reducible refine bd ?_ | with_reducible refine ba ?_ _))
end Go.Proofs.YtjmjgokgjeankaaGreatDoor

/- Tables: windows move on. Out of what the program's calls answer, and that a resize has no code. -/
namespace Go.Proofs.YtjmjgokgjeankaaGreatDoor
open Go.RowKit


theorem cen_next (n m i : Int) : cenR n m (i + 1) = cenR n m i + 2 * n := by
  unfold cenR
  rw [show 2 * (i + 1) + 1 = (2 * i + 1) + 2 by omega, Int.add_mul]
  omega
theorem low_mono {f n m i : Int} (n0 : 1 ≤ n) (m0 : 1 ≤ m) : lowW f n m i ≤ lowW f n m (i + 1) ∧ topW f n m i ≤ topW f n m (i + 1) := by
  unfold lowW topW
  rw [cen_next]
  exact ⟨Int.ediv_le_ediv (by omega) (by omega), Int.ediv_le_ediv (by omega) (by omega)⟩
/-- Windows move on. -/
def Moves (L : List (Int × List Int)) : Prop := ∀ j, j + 1 < L.length → (lnAt L j).1 ≤ (lnAt L (j + 1)).1 ∧ (lnAt L j).1 + ((lnAt L j).2.length : Int) ≤ (lnAt L (j + 1)).1 + ((lnAt L (j + 1)).2.length : Int)
theorem appR_length (xs : List Int) : (appR xs).length = xs.length := by
  unfold appR
  rw [(giveN_len _ _ _).1, quotsW_len]
theorem moves_lines {f n : Int} {m : Nat} (f0 : 0 ≤ f) (f1 : f ≤ 2) (n0 : 1 ≤ n) (n1 : n ≤ 65536) (m1 : m ≤ 65536) : Moves (linesTo f n m m) := by
  intro j hj
  rw [linesTo_len] at hj
  have e : ∀ i : Nat, i < m → lnAt (linesTo f n m m) i = lineR f n m i := fun i hi => lnAt_map _ hi
  rw [e j (by omega), e (j + 1) (by omega)]
  have en : ∀ i : Nat, i < m → (lineR f n m i).1 + ((lineR f n m i).2.length : Int) = topW f n m i + 1 := by
    intro i hi
    have hM : MayP f n m i := ⟨f0, f1, n0, n1, by omega, by omega, by omega, by omega⟩
    have := win_closed hM
    show startR f n m i + ((appR (rowI f n m i)).length : Int) = _
    rw [appR_length, rowI_len]
    unfold startR countR
    omega
  rw [en j (by omega), en (j + 1) (by omega)]
  obtain ⟨a, b⟩ := low_mono (f := f) (n := n) (m := (m : Int)) (i := (j : Int)) n0 (by omega)
  refine ⟨?_, ?_⟩
  · show lowW f n m j + 1 ≤ lowW f n m ((j + 1 : Nat) : Int) + 1
    rw [show ((j + 1 : Nat) : Int) = (j : Int) + 1 by omega]; omega
  · rw [show ((j + 1 : Nat) : Int) = (j : Int) + 1 by omega]; omega
theorem reach_below {L : List (Int × List Int)} {i k : Int} (o : Nat) (h : (o : Int) ≤ i) : reachTo L i k o = (0, 0, false) := by
  induction o with
  | zero => rfl
  | succ o ih =>
    unfold reachTo
    rw [if_pos (Or.inl (by omega))]
    exact ih (by omega)
theorem reach_above {L : List (Int × List Int)} {i k : Int} (a d : Nat) (h : k ≤ (a : Int)) : reachTo L i k (a + d) = reachTo L i k a := by
  induction d with
  | zero => rfl
  | succ d ih =>
    have s : reachTo L i k (a + (d + 1)) = if ((a + d : Nat) : Int) < i ∨ k ≤ ((a + d : Nat) : Int) then reachTo L i k (a + d) else reachStep (reachTo L i k (a + d)) (lnAt L (a + d)).1 (lnAt L (a + d)).2.length := rfl
    rw [s, if_pos (Or.inr (by omega)), ih]
theorem reach_two {L : List (Int × List Int)} (hM : Moves L) {j : Nat} (hj : j + 1 < L.length) : reachF L (j : Int) ((j : Int) + 2) = ((lnAt L j).1, (lnAt L (j + 1)).1 + ((lnAt L (j + 1)).2.length : Int), true) := by
  obtain ⟨m0, m1⟩ := hM j hj
  obtain ⟨d, hd⟩ : ∃ d, L.length = j + 2 + d := ⟨L.length - (j + 2), by omega⟩
  unfold reachF
  rw [hd, reach_above (j + 2) d (by omega)]
  have s1 : reachTo L (j : Int) ((j : Int) + 2) (j + 1) = reachStep (reachTo L (j : Int) ((j : Int) + 2) j) (lnAt L j).1 (lnAt L j).2.length := by
    show (if (j : Int) < (j : Int) ∨ (j : Int) + 2 ≤ (j : Int) then _ else _) = _
    rw [if_neg (by omega)]
  have s2 : reachTo L (j : Int) ((j : Int) + 2) (j + 2) = reachStep (reachTo L (j : Int) ((j : Int) + 2) (j + 1)) (lnAt L (j + 1)).1 (lnAt L (j + 1)).2.length := by
    show (if ((j + 1 : Nat) : Int) < (j : Int) ∨ (j : Int) + 2 ≤ ((j + 1 : Nat) : Int) then _ else _) = _
    rw [if_neg (by omega)]
  rw [s2, s1, reach_below j (by omega)]
  show (min (lnAt L j).1 (lnAt L (j + 1)).1, max ((lnAt L j).1 + ((lnAt L j).2.length : Int)) ((lnAt L (j + 1)).1 + ((lnAt L (j + 1)).2.length : Int)), true) = _
  rw [Int.min_eq_left m0, Int.max_eq_right m1]
end Go.Proofs.YtjmjgokgjeankaaGreatDoor

/- Tables: all taps of an output come to just 2^14. Out of what the program's calls answer, that a resize has no code, and no great size. -/
namespace Go.Proofs.YtjmjgokgjeankaaGreatDoor
open Go.RowKit


theorem code_line {f n : Int} {m : Nat} (h : resCode f n m = 0) (hB : resB f n m = true) {j : Nat} (hj : j < m) : Fits (rowI f n m j) := by
  unfold resCode at h
  rw [if_pos hB, Int.toNat_natCast] at h
  exact appCode_fits.1 (firstCode_code h hj).1
theorem line_sum {f n : Int} {m : Nat} (h : resCode f n m = 0) (hB : resB f n m = true) {j : Nat} (hj : j < m) :
    (lineR f n m j).2.sum = 16384 ∧ ∀ t, t < (lineR f n m j).2.length → -67108864 ≤ (lineR f n m j).2.getD t 0 ∧ (lineR f n m j).2.getD t 0 ≤ 67108865 := by
  have F := code_line h hB hj
  obtain ⟨e1, e2, e3, _⟩ := app_facts F
  refine ⟨e2, fun t ht => ?_⟩
  have ht' : t < (rowI f n m j).length := by rw [← e1]; exact ht
  have hs : smallW ((rowI f n m j).getD t 0) := by
    rw [List.getD_eq_getElem?_getD, List.getElem?_eq_getElem ht']
    exact F.small _ (List.getElem_mem ht')
  obtain ⟨q0, q1, _⟩ := quotW_small (s := sumH (rowI f n m j)) F.s0 hs
  show -67108864 ≤ (appR (rowI f n m j)).getD t 0 ∧ (appR (rowI f n m j)).getD t 0 ≤ 67108865
  rcases e3 t ht' with e | ⟨e, _⟩ <;> rw [e] <;> omega
theorem take_more (ts : List Int) {t : Nat} (h : t < ts.length) : (ts.take (t + 1)).sum = (ts.take t).sum + ts.getD t 0 := by
  rw [take_step ts h, List.sum_append, List.sum_singleton]
theorem take_in (ts : List Int) (h : ∀ t, t < ts.length → -67108864 ≤ ts.getD t 0 ∧ ts.getD t 0 ≤ 67108865) (t : Nat) (ht : t ≤ ts.length) : -((t : Int) * 67108865) ≤ (ts.take t).sum ∧ (ts.take t).sum ≤ (t : Int) * 67108865 := by
  induction t with
  | zero => simp
  | succ t ih =>
    have a := ih (by omega)
    have b := h t (by omega)
    rw [take_more ts (by omega)]
    omega
end Go.Proofs.YtjmjgokgjeankaaGreatDoor

/- Weights that come to one: the law on sums and shares. -/
namespace Go.Proofs.YtjmjgokgjeankaaGreatDoor
open Go.RowKit

theorem app_within {l : List Int} (h : Fits l) : ∀ x ∈ appR l, -67108865 ≤ x ∧ x ≤ 67108865 := by
  obtain ⟨len, _, each, _⟩ := app_facts h
  refine getD_mem fun j hj => ?_
  rw [len] at hj
  have q := quotW_small h.s0 (mem_getD h.small hj)
  rcases each j hj with e | ⟨e, _⟩ <;> omega
end Go.Proofs.YtjmjgokgjeankaaGreatDoor
