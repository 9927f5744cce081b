/- Parts, joined. -/
import Derived.Test.YtjmjgokgjeankaaDoorJ15
import Derived.Test.YtjmjgokgjeankaaDoorJ09
import Derived.Test.YtjmjgokgjeankaaDoorJ10
import Derived.Deep.LoopGhost
import Derived.Deep.RegionHeld3
import Derived.Deep.QuietTactic
import Derived.BigQuiet
/- Tables: windows move on. Out of what the program's calls answer, and that a resize has no code. -/
namespace Go.Proofs.YtjmjgokgjeankaaDoor
open Go.RowKit


theorem cen_next (n m i : Int) : cenR n m (i + 1) = cenR n m i + 2 * n := by
  unfold cenR
  rw [show 2 * (i + 1) + 1 = (2 * i + 1) + 2 by omega, Int.add_mul]
  omega
theorem low_mono {f n m i : Int} (n0 : 1 ≤ n) (m0 : 1 ≤ m) : lowW f n m i ≤ lowW f n m (i + 1) ∧ topW f n m i ≤ topW f n m (i + 1) := by
  unfold lowW topW
  rw [cen_next]
  exact ⟨Int.ediv_le_ediv (by omega) (by omega), Int.ediv_le_ediv (by omega) (by omega)⟩
/-- Windows move on. -/
def Moves (L : List (Int × List Int)) : Prop := ∀ j, j + 1 < L.length → (lnAt L j).1 ≤ (lnAt L (j + 1)).1 ∧ (lnAt L j).1 + ((lnAt L j).2.length : Int) ≤ (lnAt L (j + 1)).1 + ((lnAt L (j + 1)).2.length : Int)
theorem appR_length (xs : List Int) : (appR xs).length = xs.length := by
  unfold appR
  rw [(giveN_len _ _ _).1, quotsW_len]
theorem moves_lines {f n : Int} {m : Nat} (f0 : 0 ≤ f) (f1 : f ≤ 2) (n0 : 1 ≤ n) (n1 : n ≤ 65536) (m1 : m ≤ 65536) : Moves (linesTo f n m m) := by
  intro j hj
  rw [linesTo_len] at hj
  have e : ∀ i : Nat, i < m → lnAt (linesTo f n m m) i = lineR f n m i := fun i hi => lnAt_map _ hi
  rw [e j (by omega), e (j + 1) (by omega)]
  have en : ∀ i : Nat, i < m → (lineR f n m i).1 + ((lineR f n m i).2.length : Int) = topW f n m i + 1 := by
    intro i hi
    have hM : MayP f n m i := ⟨f0, f1, n0, n1, by omega, by omega, by omega, by omega⟩
    have := win_closed hM
    show startR f n m i + ((appR (rowI f n m i)).length : Int) = _
    rw [appR_length, rowI_len]
    unfold startR countR
    omega
  rw [en j (by omega), en (j + 1) (by omega)]
  obtain ⟨a, b⟩ := low_mono (f := f) (n := n) (m := (m : Int)) (i := (j : Int)) n0 (by omega)
  refine ⟨?_, ?_⟩
  · show lowW f n m j + 1 ≤ lowW f n m ((j + 1 : Nat) : Int) + 1
    rw [show ((j + 1 : Nat) : Int) = (j : Int) + 1 by omega]; omega
  · rw [show ((j + 1 : Nat) : Int) = (j : Int) + 1 by omega]; omega
theorem reach_below {L : List (Int × List Int)} {i k : Int} (o : Nat) (h : (o : Int) ≤ i) : reachTo L i k o = (0, 0, false) := by
  induction o with
  | zero => rfl
  | succ o ih =>
    unfold reachTo
    rw [if_pos (Or.inl (by omega))]
    exact ih (by omega)
theorem reach_above {L : List (Int × List Int)} {i k : Int} (a d : Nat) (h : k ≤ (a : Int)) : reachTo L i k (a + d) = reachTo L i k a := by
  induction d with
  | zero => rfl
  | succ d ih =>
    have s : reachTo L i k (a + (d + 1)) = if ((a + d : Nat) : Int) < i ∨ k ≤ ((a + d : Nat) : Int) then reachTo L i k (a + d) else reachStep (reachTo L i k (a + d)) (lnAt L (a + d)).1 (lnAt L (a + d)).2.length := rfl
    rw [s, if_pos (Or.inr (by omega)), ih]
theorem reach_two {L : List (Int × List Int)} (hM : Moves L) {j : Nat} (hj : j + 1 < L.length) : reachF L (j : Int) ((j : Int) + 2) = ((lnAt L j).1, (lnAt L (j + 1)).1 + ((lnAt L (j + 1)).2.length : Int), true) := by
  obtain ⟨m0, m1⟩ := hM j hj
  obtain ⟨d, hd⟩ : ∃ d, L.length = j + 2 + d := ⟨L.length - (j + 2), by omega⟩
  unfold reachF
  rw [hd, reach_above (j + 2) d (by omega)]
  have s1 : reachTo L (j : Int) ((j : Int) + 2) (j + 1) = reachStep (reachTo L (j : Int) ((j : Int) + 2) j) (lnAt L j).1 (lnAt L j).2.length := by
    show (if (j : Int) < (j : Int) ∨ (j : Int) + 2 ≤ (j : Int) then _ else _) = _
    rw [if_neg (by omega)]
  have s2 : reachTo L (j : Int) ((j : Int) + 2) (j + 2) = reachStep (reachTo L (j : Int) ((j : Int) + 2) (j + 1)) (lnAt L (j + 1)).1 (lnAt L (j + 1)).2.length := by
    show (if ((j + 1 : Nat) : Int) < (j : Int) ∨ (j : Int) + 2 ≤ ((j + 1 : Nat) : Int) then _ else _) = _
    rw [if_neg (by omega)]
  rw [s2, s1, reach_below j (by omega)]
  show (min (lnAt L j).1 (lnAt L (j + 1)).1, max ((lnAt L j).1 + ((lnAt L j).2.length : Int)) ((lnAt L (j + 1)).1 + ((lnAt L (j + 1)).2.length : Int)), true) = _
  rw [Int.min_eq_left m0, Int.max_eq_right m1]
set_option maxRecDepth 100000 in
set_option maxHeartbeats 4000000 in
theorem of_TableMoves {K : World → Prop} {T : World → Value → Int → List (Int × List Int) → Prop} (TC : TabC K T) (CR : ResizeC K T) (CL : LiveC K 6) (hres : ∀ f n m : Int, 0 ≤ f → f ≤ 2 → 1 ≤ n → n ≤ 3000 → 1 ≤ m → m ≤ 60 → resCode f n m = 0) (p a b : Int) (w : World) (hk : K w) (hp : 0 ≤ p ∧ p ≤ 255) (ha : 0 ≤ a ∧ a ≤ 65535) (hb : 0 ≤ b ∧ b ≤ 65535) :
    Calls Tryd.prog 3 #[.int .u8 p, .int .u16 a, .int .u16 b] w fun e w' => e = .returned (.bool true) ∧ Below w.heap.size w w' := by
  have CL := fun w hk => CL w hk
  have CK : ∀ w' : World, Below w.heap.size w w' → K w' := fun w' b => TC.kbelow hk b
  obtain ⟨p0, p1⟩ := hp
  obtain ⟨a0, a1⟩ := ha
  obtain ⟨b0, b1⟩ := hb
  obtain ⟨f, hf⟩ : ∃ f, p % 3 = f := ⟨_, rfl⟩
  obtain ⟨x, hx⟩ : ∃ x, a % 3000 = x := ⟨_, rfl⟩
  obtain ⟨y, hy⟩ : ∃ y, b % 60 = y := ⟨_, rfl⟩
  obtain ⟨n, hn⟩ : ∃ n, 1 + x = n := ⟨_, rfl⟩
  obtain ⟨m, hm⟩ : ∃ m : Nat, 1 + y = (m : Int) := ⟨(1 + y).toNat, by omega⟩
  have f0 : 0 ≤ f := by omega
  have f1 : f ≤ 2 := by omega
  have n0 : 1 ≤ n := by omega
  have n1 : n ≤ 3000 := by omega
  have m0 : 1 ≤ m := by omega
  have m1 : m ≤ 60 := by omega
  have C1 := fun w hk => CR f n m (by omega) (by omega) (by omega) (by omega) (by omega) (by omega) w hk
  rw [hres f n m f0 f1 n0 n1 (by omega) (by omega), Int.toNat_natCast] at C1
  have HMV := hide (moves_lines (m := m) f0 f1 n0 (show n ≤ 65536 by omega) (by omega))
  have HLL := hide (linesTo_len f n m m)
  clear CR hres hk
  generalize linesTo f n m m = L at *
  go_enter Tryd.func3, Tryd.ntmps3
  go_wp2_with (first
    | (go_at_call 6; (with_reducible refine (CL _ (CK _ (by repeat (first | exact Below.refl _ _ | assumption | exact HB.out | (with_reducible refine bt ?_ (by assumption)) | with_reducible refine bd ?_ | with_reducible refine ba ?_ _)))).mono ?_); rintro e w1 ⟨rfl, b1⟩)
    | (go_at_call 7; (with_reducible refine (C1 _ (CK _ (by repeat (first | exact Below.refl _ _ | assumption | exact HB.out | (with_reducible refine bt ?_ (by assumption)) | with_reducible refine bd ?_ | with_reducible refine ba ?_ _)))).mono ?_); rintro e w3 ⟨v, rfl, hT, _, b3⟩; have HT := hide (hT (by trivial)); clear hT; obtain ⟨ad, rfl⟩ := TC.ptr HT.out))
  have BW := hide (show Below w.heap.size w w3 from (by repeat (first | exact Below.refl _ _ | assumption | exact HB.out | (with_reducible refine bt ?_ (by assumption)) | with_reducible refine bd ?_ | with_reducible refine ba ?_ _)))
  have OK := TC.ok HT.out
  have HOK := hide OK.1
  clear b1 b3 C1 CL CK OK
  go_loopw [11] (fun i wr => ∃ q : Nat, q + 1 ≤ m ∧ i = .int .i64 ((q : Int) + 1) ∧ Below w3.heap.size w3 wr) (fun i _ => m - (intOf i).toNat)
  case atStart => exact ⟨0, by omega, rfl, Below.refl _ _⟩
  case round =>
    obtain ⟨q, hq, rfl, hb⟩ := hrel
    have HB := hide hb
    clear hb
    by_cases hlt : q + 1 < m
    · have hlt' : (q : Int) + 1 < (m : Int) := by omega
      have hj : q + 1 < L.length := by rw [HLL.out]; exact hlt
      obtain ⟨v0, v1⟩ := HMV.out q hj
      have R2 := reach_two HMV.out hj
      obtain ⟨g0, g1, g2, g3, _⟩ := HOK.out q (by omega)
      obtain ⟨h0, h1, h2, h3, _⟩ := HOK.out (q + 1) hj
      have X0 := fun {w'} h => TC.line (w := w') (v := .pointer (some ad)) (n := n) (L := L) h q (by omega)
      have X1 := fun {w'} h => TC.line (w := w') (v := .pointer (some ad)) (n := n) (L := L) h (q + 1) hj
      have XR := fun {w'} h => TC.reach (w := w') (v := .pointer (some ad)) (n := n) (L := L) h (q : Int) ((q : Int) + 2) (by omega) (by omega) (by omega) (by omega)
      rw [R2] at XR
      rw [show ((q + 1 : Nat) : Int) = (q : Int) + 1 by omega] at X1
      obtain ⟨s, hs⟩ : ∃ s, (lnAt L q).2.length = s := ⟨_, rfl⟩
      obtain ⟨t, ht⟩ : ∃ t, (lnAt L (q + 1)).2.length = t := ⟨_, rfl⟩
      have HS := hide hs
      have HTT := hide ht
      rw [hs] at v1 g2 g3
      rw [ht] at v1 h2 h3 XR
      clear hj hs ht R2
      obtain ⟨e0, he0⟩ : ∃ e0, (lnAt L q).1 = e0 := ⟨_, rfl⟩
      obtain ⟨e1, he1⟩ : ∃ e1, (lnAt L (q + 1)).1 = e1 := ⟨_, rfl⟩
      rw [he0] at v0 v1 g0 g1 X0 XR
      rw [he1] at v0 v1 h0 h1 X1 XR
      clear he0 he1
      have XR : ∀ {w' : World}, T w' (.pointer (some ad)) n L → Calls Tryd.prog 9 #[.pointer (some ad), .int .i64 (q : Int), .int .i64 ((q : Int) + 1 + 1)] w' fun e w'' => e = .returned (.tuple #[.int .i64 e0, .int .i64 (e1 + (t : Int) - e0)]) ∧ Below w'.heap.size w' w'' := by
        intro w' h
        have := XR h
        rw [show (q : Int) + 2 = (q : Int) + 1 + 1 by omega] at this
        exact this
      go_wp2_with (first
        | (go_at_call 8; (with_reducible refine (X0 (TC.below HT.out (by repeat (first | exact Below.refl _ _ | assumption | exact HB.out | (with_reducible refine bt ?_ (by assumption)) | with_reducible refine bd ?_ | with_reducible refine ba ?_ _)))).mono ?_); rintro e w4 ⟨u4, rfl, o4, b4⟩; obtain ⟨d4, p4, rfl, _, _⟩ := o4.formn HS.out)
        | (go_at_call 8; (with_reducible refine (X1 (TC.below HT.out (by repeat (first | exact Below.refl _ _ | assumption | exact HB.out | (with_reducible refine bt ?_ (by assumption)) | with_reducible refine bd ?_ | with_reducible refine ba ?_ _)))).mono ?_); rintro e w5 ⟨u5, rfl, o5, b5⟩; obtain ⟨d5, p5, rfl, _, _⟩ := o5.formn HTT.out)
        | (go_at_call 9; (with_reducible refine (XR (TC.below HT.out (by repeat (first | exact Below.refl _ _ | assumption | exact HB.out | (with_reducible refine bt ?_ (by assumption)) | with_reducible refine bd ?_ | with_reducible refine ba ?_ _)))).mono ?_); rintro e w6 ⟨rfl, b6⟩; have m0 := cb b6 (b := w5.heap.size) (o := 0) (v := .int .i64 e0) (by simp; omega) (by simp); have m2 := cb b6 (b := w5.heap.size + 1) (o := 0) (v := .int .i64 e1) (by simp) (by simp); have m3 := cb b6 (b := w5.heap.size + 1) (o := 1) (v := .slice d5 t p5) (by simp) (by simp)))
      have B6 := hide (show Below w3.heap.size w3 w6 from (by repeat (first | exact Below.refl _ _ | assumption | exact HB.out | (with_reducible refine bt ?_ (by assumption)) | with_reducible refine bd ?_ | with_reducible refine ba ?_ _)))
      clear b4 b5 b6 o4 o5
      go_wp2
      go_roundw
      case rel => exact ⟨q + 1, by omega, by go_num, B6.out⟩
      case measure => simp [intOf]; omega
    · obtain rfl : m = q + 1 := by omega
      have hge : ¬ (q : Int) + 1 < ((q + 1 : Nat) : Int) := by omega
      go_wp2
      go_ret
      exact ⟨rfl, bt BW.out HB.out⟩
end Go.Proofs.YtjmjgokgjeankaaDoor

/- Tables: all taps of an output come to just 2^14. Out of what the program's calls answer, that a resize has no code, and no great size. -/
namespace Go.Proofs.YtjmjgokgjeankaaDoor
open Go.RowKit


theorem code_line {f n : Int} {m : Nat} (h : resCode f n m = 0) (hB : resB f n m = true) {j : Nat} (hj : j < m) : Fits (rowI f n m j) := by
  unfold resCode at h
  rw [if_pos hB, Int.toNat_natCast] at h
  exact appCode_fits.1 (firstCode_code h hj).1
theorem line_sum {f n : Int} {m : Nat} (h : resCode f n m = 0) (hB : resB f n m = true) {j : Nat} (hj : j < m) :
    (lineR f n m j).2.sum = 16384 ∧ ∀ t, t < (lineR f n m j).2.length → -67108864 ≤ (lineR f n m j).2.getD t 0 ∧ (lineR f n m j).2.getD t 0 ≤ 67108865 := by
  have F := code_line h hB hj
  obtain ⟨e1, e2, e3, _⟩ := app_facts F
  refine ⟨e2, fun t ht => ?_⟩
  have ht' : t < (rowI f n m j).length := by rw [← e1]; exact ht
  have hs : smallW ((rowI f n m j).getD t 0) := by
    rw [List.getD_eq_getElem?_getD, List.getElem?_eq_getElem ht']
    exact F.small _ (List.getElem_mem ht')
  obtain ⟨q0, q1, _⟩ := quotW_small (s := sumH (rowI f n m j)) F.s0 hs
  show -67108864 ≤ (appR (rowI f n m j)).getD t 0 ∧ (appR (rowI f n m j)).getD t 0 ≤ 67108865
  rcases e3 t ht' with e | ⟨e, _⟩ <;> rw [e] <;> omega
theorem take_more (ts : List Int) {t : Nat} (h : t < ts.length) : (ts.take (t + 1)).sum = (ts.take t).sum + ts.getD t 0 := by
  rw [take_step ts h, List.sum_append, List.sum_singleton]
theorem take_in (ts : List Int) (h : ∀ t, t < ts.length → -67108864 ≤ ts.getD t 0 ∧ ts.getD t 0 ≤ 67108865) (t : Nat) (ht : t ≤ ts.length) : -((t : Int) * 67108865) ≤ (ts.take t).sum ∧ (ts.take t).sum ≤ (t : Int) * 67108865 := by
  induction t with
  | zero => simp
  | succ t ih =>
    have a := ih (by omega)
    have b := h t (by omega)
    rw [take_more ts (by omega)]
    omega
set_option maxRecDepth 100000 in
set_option maxHeartbeats 4000000 in
theorem of_TableSums {K : World → Prop} {T : World → Value → Int → List (Int × List Int) → Prop} (TC : TabC K T) (CR : ResizeC K T) (CL : LiveC K 6) (hres : ∀ f n m : Int, 0 ≤ f → f ≤ 2 → 1 ≤ n → n ≤ 3000 → 1 ≤ m → m ≤ 60 → resCode f n m = 0)
    (hsiz : ∀ f n m : Int, 0 ≤ f → f ≤ 2 → 1 ≤ n → n ≤ 3000 → 1 ≤ m → m ≤ 60 → sizeF (linesTo f n m m.toNat) ≤ 131072) (p a b : Int) (w : World) (hk : K w) (hp : 0 ≤ p ∧ p ≤ 255) (ha : 0 ≤ a ∧ a ≤ 65535) (hb : 0 ≤ b ∧ b ≤ 65535) :
    Calls Tryd.prog 4 #[.int .u8 p, .int .u16 a, .int .u16 b] w fun e w' => e = .returned (.bool true) ∧ Below w.heap.size w w' := by
  have CL := fun w hk => CL w hk
  have CK : ∀ w' : World, Below w.heap.size w w' → K w' := fun w' b => TC.kbelow hk b
  obtain ⟨p0, p1⟩ := hp
  obtain ⟨a0, a1⟩ := ha
  obtain ⟨b0, b1⟩ := hb
  obtain ⟨f, hf⟩ : ∃ f, p % 3 = f := ⟨_, rfl⟩
  obtain ⟨x, hx⟩ : ∃ x, a % 3000 = x := ⟨_, rfl⟩
  obtain ⟨y, hy⟩ : ∃ y, b % 60 = y := ⟨_, rfl⟩
  obtain ⟨n, hn⟩ : ∃ n, 1 + x = n := ⟨_, rfl⟩
  obtain ⟨m, hm⟩ : ∃ m : Nat, 1 + y = (m : Int) := ⟨(1 + y).toNat, by omega⟩
  have f0 : 0 ≤ f := by omega
  have f1 : f ≤ 2 := by omega
  have n0 : 1 ≤ n := by omega
  have n1 : n ≤ 3000 := by omega
  have m0 : 1 ≤ m := by omega
  have m1 : m ≤ 60 := by omega
  have C1 := fun w hk => CR f n m (by omega) (by omega) (by omega) (by omega) (by omega) (by omega) w hk
  have hz := hres f n m f0 f1 n0 n1 (by omega) (by omega)
  have hs := hsiz f n m f0 f1 n0 n1 (by omega) (by omega)
  rw [hz, Int.toNat_natCast] at C1
  rw [Int.toNat_natCast] at hs
  have hB : resB f n m = true := (resB_iff f n m).2 ⟨f0, f1, ⟨n0, by omega⟩, by omega, by omega⟩
  have HLS : ∀ j, j < m → (lnAt (linesTo f n m m) j).2.sum = 16384 ∧ ∀ t, t < (lnAt (linesTo f n m m) j).2.length → -67108864 ≤ (lnAt (linesTo f n m m) j).2.getD t 0 ∧ (lnAt (linesTo f n m m) j).2.getD t 0 ≤ 67108865 := by
    intro j hj
    rw [show lnAt (linesTo f n m m) j = lineR f n m j from lnAt_map _ hj]
    exact line_sum hz hB hj
  have HSUM := hide HLS
  have HLL := hide (linesTo_len f n m m)
  clear CR hres hsiz hk hz hB HLS
  generalize linesTo f n m m = L at *
  have CT : ∀ {w' : World} {v : Value}, T w' v n L → Calls Tryd.prog 11 #[v] w' fun e w'' => e = .returned (.int .i64 (m : Int)) ∧ Below w'.heap.size w' w'' := by
    intro w' v h
    have := TC.cto h
    rw [HLL.out] at this
    exact this
  have CF : ∀ {w' : World} {v : Value}, T w' v n L → Calls Tryd.prog 10 #[v] w' fun e w'' => e = .returned (.int .i64 n) ∧ Below w'.heap.size w' w'' := fun h => TC.cfrom h
  go_enter Tryd.func4, Tryd.ntmps4
  go_wp2_with (first
    | (go_at_call 6; (with_reducible refine (CL _ (CK _ (by repeat (first | exact Below.refl _ _ | assumption | exact HB.out | (with_reducible refine bt ?_ (by assumption)) | with_reducible refine bd ?_ | with_reducible refine ba ?_ _)))).mono ?_); rintro e w1 ⟨rfl, b1⟩)
    | (go_at_call 7; (with_reducible refine (C1 _ (CK _ (by repeat (first | exact Below.refl _ _ | assumption | exact HB.out | (with_reducible refine bt ?_ (by assumption)) | with_reducible refine bd ?_ | with_reducible refine ba ?_ _)))).mono ?_); rintro e w3 ⟨v, rfl, hT, _, b3⟩; have HT := hide (hT (by trivial)); clear hT; obtain ⟨ad, rfl⟩ := TC.ptr HT.out)
    | (go_at_call 10; (with_reducible refine (CF HT.out).mono ?_); rintro e w4 ⟨rfl, b4⟩)
    | (go_at_call 11; (with_reducible refine (CT (TC.below HT.out b4)).mono ?_); rintro e w5 ⟨rfl, b5⟩))
  have BW := hide (show Below w.heap.size w w5 from (by repeat (first | exact Below.refl _ _ | assumption | exact HB.out | (with_reducible refine bt ?_ (by assumption)) | with_reducible refine bd ?_ | with_reducible refine ba ?_ _)))
  have HT5 := hide (TC.below HT.out (bt b4 b5))
  have HOK := hide (TC.ok HT.out).1
  clear b1 b3 b4 b5 C1 CL CK CT CF HT
  have CM := fun {w'} (h : T w' (.pointer (some ad)) n L) => TC.most h
  have CS := fun {w'} (h : T w' (.pointer (some ad)) n L) => TC.size h
  have HMG := hide (show ∀ j, j < m → ((lnAt L j).2.length : Int) ≤ mostF L from fun j hj => mostTo_ge L.length (by rw [HLL.out]; exact hj))
  have MI := mostTo_in HOK.out L.length (Nat.le_refl _)
  rw [show mostTo L L.length = mostF L from rfl] at MI
  obtain ⟨mi0, mi1⟩ := MI
  have si0 := (sizeTo_in L L.length).1
  rw [show sizeTo L L.length = sizeF L from rfl] at si0
  generalize mostF L = mo at *
  generalize sizeF L = so at *
  go_loopg [54] m (fun r i wr => ∃ q : Nat, q + r = m ∧ i = .int .i64 (q : Int) ∧ Below w5.heap.size w5 wr)
  case atStart => exact ⟨0, by omega, rfl, Below.refl _ _⟩
  case round =>
    obtain ⟨q, hq, rfl, hb⟩ := hrel
    obtain ⟨G, hG⟩ : ∃ G, G = gk := ⟨_, rfl⟩
    subst hG
    obtain ⟨W, hW⟩ : ∃ W, W = wr := ⟨_, rfl⟩
    subst hW
    have HQ := hide hq
    have HB := hide hb
    clear hb hq
    by_cases hlt : q < m
    · have mg := HMG.out q hlt
      obtain ⟨hsum, htap⟩ := HSUM.out q hlt
      obtain ⟨_, _, g2, g3, _⟩ := HOK.out q (by rw [HLL.out]; exact hlt)
      have X0 := fun {w'} h => TC.line (w := w') (v := .pointer (some ad)) (n := n) (L := L) h q (by rw [HLL.out]; exact hlt)
      obtain ⟨e0, ts, he⟩ : ∃ e0 ts, lnAt L q = (e0, ts) := ⟨_, _, rfl⟩
      rw [he] at mg hsum htap g2 g3 X0
      replace mg : (ts.length : Int) ≤ mo := mg
      replace hsum : ts.sum = 16384 := hsum
      replace htap : ∀ t, t < ts.length → -67108864 ≤ ts.getD t 0 ∧ ts.getD t 0 ≤ 67108865 := htap
      replace g2 : 1 ≤ ts.length := g2
      replace g3 : ts.length ≤ 1048576 := g3
      obtain ⟨s, hs2⟩ : ∃ s, ts.length = s := ⟨_, rfl⟩
      have HS := hide hs2
      have HTAP := hide htap
      have HSM := hide hsum
      rw [hs2] at mg g2 g3
      have X1 : ∀ {w' : World}, T w' (.pointer (some ad)) n L → Calls Tryd.prog 8 #[.pointer (some ad), .int .i64 (q : Int)] w' fun e w'' => ∃ u, e = .returned (.agg #[.int .i64 e0, u]) ∧ OwnI .i64 2 w'' w'.heap.size u ts ∧ Below w'.heap.size w' w'' := fun h => X0 h
      clear X0 he hs2 htap hsum
      go_wp2_with (go_at_call 8; (with_reducible refine (X1 (TC.below HT5.out (by repeat (first | exact Below.refl _ _ | assumption | exact HB.out | (with_reducible refine bt ?_ (by assumption)) | with_reducible refine bd ?_ | with_reducible refine ba ?_ _)))).mono ?_); rintro e w6 ⟨u6, rfl, o6, b6⟩; obtain ⟨d6, p6, rfl, r6, _⟩ := o6.formn HS.out)
      have R6 := hide (r6.below (below1 w6 (.cells #[.int .i64 e0, .slice d6 s p6] 31)))
      have B6 := hide (ba (bt HB.out b6) (.cells #[.int .i64 e0, .slice d6 s p6] 31))
      clear o6 r6 X1
      go_loopg [13, 63] s (fun r sm i wi => ∃ t : Nat, t + r = s ∧ i = .int .i64 (t : Int) ∧ sm = .int .i64 (ts.take t).sum ∧ wi = w6.alloc (.cells #[.int .i64 e0, .slice d6 s p6] 31))
      case atStart => exact ⟨0, by omega, rfl, rfl, rfl⟩
      case round =>
        obtain ⟨t, ht, rfl, rfl, rfl⟩ := hrel
        have HTT := hide ht
        clear ht
        have TI := take_in ts HTAP.out t (by have := HTT.out; have := HS.out; omega)
        obtain ⟨ti0, ti1⟩ := TI
        by_cases hlt3 : t < s
        · obtain ⟨b, off, rfl, hc⟩ := R6.out.get (show t < ts.length by rw [HS.out]; exact hlt3)
          obtain ⟨x0, x1⟩ := HTAP.out t (by rw [HS.out]; exact hlt3)
          have HTS := hide (take_more ts (show t < ts.length by rw [HS.out]; exact hlt3))
          generalize ts.getD t 0 = z at *
          generalize (ts.take t).sum = sv at *
          go_wp2
          go_roundg (gk - 1)
          case measure => have := HTT.out; omega
          case rel => exact ⟨t + 1, by have := HTT.out; omega, by go_num, by rw [HTS.out], rfl⟩
        · obtain rfl : t = s := by have := HTT.out; omega
          have ea : (ts.take t).sum = 16384 := by rw [List.take_of_length_le (by rw [HS.out]; exact Nat.le_refl _)]; exact HSM.out
          rw [ea]
          clear ti0 ti1 ea hlt3
          have tz : ((t : Int) == 0) = false := beq_eq_false_iff_ne.2 (by omega)
          have dm : decide (mo < (t : Int)) = false := decide_eq_false (by omega)
          have ds : decide (131072 < so) = false := decide_eq_false (by omega)
          have z1 : (w6.alloc (.cells #[.int .i64 e0, .slice d6 t p6] 31)).cell? ⟨w6.heap.size, 1, none⟩ = some (.slice d6 t p6) := by simp
          have l1 : w6.heap.size < (w6.alloc (.cells #[.int .i64 e0, .slice d6 t p6] 31)).heap.size := by simp
          generalize w6.alloc (.cells #[.int .i64 e0, .slice d6 t p6] 31) = Wa at *
          go_wp2_with fail
          go_region_held3 (fun w' => w'.cell? ⟨w6.heap.size, 1, none⟩ = some (.slice d6 t p6))
            (first | exact z1 | exact y1 | exact y2)
            (first
              | (go_at_call 12; (with_reducible refine (CM (TC.below HT5.out (by repeat (first | exact Below.refl _ _ | exact B6.out | (with_reducible refine bt ?_ (by assumption)) | with_reducible refine bd ?_ | with_reducible refine bdN ?_ _)))).mono ?_); rintro e w7 ⟨rfl, b7⟩; have y1 := cb b7 l1 z1; have l2 : w6.heap.size < w7.heap.size := (by have := b7.size; simp at this; omega))
              | (go_at_call 13; (with_reducible refine (CS (TC.below HT5.out (by repeat (first | exact Below.refl _ _ | exact B6.out | (with_reducible refine bt ?_ (by assumption)) | with_reducible refine bd ?_ | with_reducible refine bdN ?_ _)))).mono ?_); rintro e w8 ⟨rfl, b8⟩; have y2 := cb b8 l2 y1))
          go_wp2
          go_roundg (G - 1)
          case measure => have := HQ.out; omega
          case rel => exact ⟨q + 1, by have := HQ.out; omega, by go_num, (by repeat (first | exact Below.refl _ _ | exact B6.out | (with_reducible refine bt ?_ (by assumption)) | with_reducible refine bd ?_ | with_reducible refine bdN ?_ _))⟩
    · obtain rfl : q = m := by have := HQ.out; omega
      clear hlt
      go_wp2
      go_ret
      exact ⟨rfl, bt BW.out HB.out⟩
end Go.Proofs.YtjmjgokgjeankaaDoor

/- Weights that come to one: the law on sums and shares. -/
namespace Go.Proofs.YtjmjgokgjeankaaDoor
open Go.RowKit

theorem app_within {l : List Int} (h : Fits l) : ∀ x ∈ appR l, -67108865 ≤ x ∧ x ≤ 67108865 := by
  obtain ⟨len, _, each, _⟩ := app_facts h
  refine getD_mem fun j hj => ?_
  rw [len] at hj
  have q := quotW_small h.s0 (mem_getD h.small hj)
  rcases each j hj with e | ⟨e, _⟩ <;> omega
end Go.Proofs.YtjmjgokgjeankaaDoor
