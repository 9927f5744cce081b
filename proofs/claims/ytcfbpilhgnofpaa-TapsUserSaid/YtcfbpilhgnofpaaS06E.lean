/- Weights that come to one: the document's kernels. -/
import Derived.Test.YtcfbpilhgnofpaaS06D
namespace Go.Proofs.Ytcfbpilhgnofpaa
open Go.RowKit


def userR (l : List Int) : List Int := l.map fun x => divF (x * 1073741824) (sizeH l)
/-- May it be a user's kernel? -/
def UserP (l : List Int) : Prop := l.length % 2 = 1 ∧ l.length ≤ 1024 ∧ 1 ≤ sizeH l ∧ sizeH l ≤ 1048576
theorem refuser_bad (xs : List Int) (ad : Option Addr) (cap : Nat) (w : World) (hr : RowAt .i64 w ad xs) (hx : All64 xs) (hl : xs.length ≤ 9223372036854775807) (h : ¬ UserP xs) :
    Calls Try.prog 18 #[.slice ad xs.length cap] w fun e w' => e = .returned (.tuple #[.slice none 0 0, .int .i64 7]) ∧ Below w.heap.size w w' := by
  have CS := fun w hr => refsizes_any xs ad cap w hr hx hl
  obtain ⟨s0, s1⟩ := sizeH_in xs
  unfold UserP at h
  have HR := hide hr
  clear hr hx
  generalize sizeH xs = s at *
  generalize xs.length = n at *
  by_cases a1 : n % 2 = 1
  · by_cases a2 : n ≤ 1024
    · by_cases a3 : 1 ≤ s
      · have a4 : 1048576 < s := by omega
        have b1 : ((n : Int) % 2 == 0) = false := beq_eq_false_iff_ne.2 (by omega)
        have b2 : (s == 0) = false := beq_eq_false_iff_ne.2 (by omega)
        clear h a1
        go_enter Try.func18, Try.ntmps18
        go_wp2_with (go_at_call 16; (with_reducible refine (CS _ HR.out).mono ?_); rintro e w1 ⟨rfl, rfl⟩)
        exact bodyPost_ret (v := .tuple #[.slice none 0 0, .int .i64 7]) (by simp [results, Try.results18, go_sem]) rfl ⟨rfl, Below.refl _ _⟩
      · obtain rfl : s = 0 := by omega
        have b1 : ((n : Int) % 2 == 0) = false := beq_eq_false_iff_ne.2 (by omega)
        clear h a1
        go_enter Try.func18, Try.ntmps18
        go_wp2_with (go_at_call 16; (with_reducible refine (CS _ HR.out).mono ?_); rintro e w1 ⟨rfl, rfl⟩)
        exact bodyPost_ret (v := .tuple #[.slice none 0 0, .int .i64 7]) (by simp [results, Try.results18, go_sem]) rfl ⟨rfl, Below.refl _ _⟩
    · have b1 : ((n : Int) % 2 == 0) = false := beq_eq_false_iff_ne.2 (by omega)
      have b3 : (1024 : Int) < (n : Int) := by omega
      clear h a1
      go_enter Try.func18, Try.ntmps18
      go_wp2_with (go_at_call 16; (with_reducible refine (CS _ HR.out).mono ?_); rintro e w1 ⟨rfl, rfl⟩)
      exact bodyPost_ret (v := .tuple #[.slice none 0 0, .int .i64 7]) (by simp [results, Try.results18, go_sem]) rfl ⟨rfl, Below.refl _ _⟩
  · have b1 : ((n : Int) % 2 == 0) = true := beq_iff_eq.2 (by omega)
    clear h a1
    go_enter Try.func18, Try.ntmps18
    go_wp2_with (go_at_call 16; (with_reducible refine (CS _ HR.out).mono ?_); rintro e w1 ⟨rfl, rfl⟩)
    exact bodyPost_ret (v := .tuple #[.slice none 0 0, .int .i64 7]) (by simp [results, Try.results18, go_sem]) rfl ⟨rfl, Below.refl _ _⟩
set_option maxHeartbeats 4000000 in
set_option maxRecDepth 1000000 in
theorem refuser_ok (xs : List Int) (ad : Option Addr) (cap : Nat) (w : World) (hr : RowAt .i64 w ad xs) (hx : All64 xs) (h : UserP xs) :
    Calls Try.prog 18 #[.slice ad xs.length cap] w fun e w' => ∃ v, e = .returned (.tuple #[v, .int .i64 0]) ∧ OwnI .i64 2 w' w.heap.size v (userR xs) ∧ Below w.heap.size w w' := by
  obtain ⟨p0, p1, s0, s1⟩ := h
  have CS := fun w hr => refsizes_any xs ad cap w hr hx (by omega)
  obtain ⟨i0, hi, hz0, hz1, hz2⟩ := info_parts infoI64A
  have HR := hide hr
  have HX := hide hx
  have HE := hide (show userR xs = xs.map fun x => divF (x * 1073741824) (sizeH xs) from rfl)
  clear hr hx
  obtain ⟨n, hn⟩ : ∃ n, xs.length = n := ⟨_, rfl⟩
  have HN := hide hn
  rw [hn] at p0 p1 CS ⊢
  generalize sizeH xs = s at *
  generalize userR xs = us at *
  have b1 : ((n : Int) % 2 == 0) = false := beq_eq_false_iff_ne.2 (by omega)
  have b2 : (s == 0) = false := beq_eq_false_iff_ne.2 (by omega)
  clear hn p0
  go_enter Try.func18, Try.ntmps18
  go_wp2_with (go_at_call 16; (with_reducible refine (CS _ HR.out).mono ?_); rintro e w1 ⟨rfl, rfl⟩)
  clear CS
  go_loopw [5, 29] (fun u i wr => ∃ j : Nat, j ≤ n ∧ i = .int .i64 (j : Int) ∧ OwnI .i64 2 wr w.heap.size u ((xs.take j).map fun x => divF (x * 1073741824) s) ∧ Below w.heap.size w wr) (fun _ i _ => n - (intOf i).toNat)
  case atStart => exact ⟨0, by omega, rfl, OwnI.nil _ _ _ _, Below.refl _ _⟩
  case round =>
    obtain ⟨j, hj, rfl, ho, hb⟩ := hrel
    have HO := hide ho
    have HB := hide hb
    clear ho hb
    by_cases hlt : j < n
    · obtain ⟨b, off, rfl, hc⟩ := (HR.out.below HB.out).get (show j < xs.length by rw [HN.out]; exact hlt)
      obtain ⟨x0, x1⟩ := HX.out j (by rw [HN.out]; exact hlt)
      have CM := fun w => refmuldiv_to (xs.getD j 0) 1073741824 s _ rfl x0 x1 (by omega) (by omega) (by omega) (by omega) w
      have HT := hide (take_step xs (show j < xs.length by rw [HN.out]; exact hlt))
      have HL := hide (show ((xs.take j).map fun x => divF (x * 1073741824) s).length = j by rw [List.length_map, List.length_take]; have := HN.out; omega)
      generalize xs.getD j 0 = x at *
      generalize hqe : divF (x * 1073741824) s = q at *
      have HQE := hide hqe
      clear hqe
      go_wp2_with (first
        | (go_at_call 33; (with_reducible refine (CM _).mono ?_); rintro e w2 ⟨rfl, b2⟩)
        | (at_builtin; refine wpList_append_own _ rfl _ _ 22 rfl w.heap.size 2 i0 (.int .i64 0) 1 8 Try.underlying22 hi hz0 hz1 hz2 rfl (by decide) _ _ _ rfl ((HO.out.below b2).alloc _) ⟨w2.heap.size, 0, none⟩ 1 1 [.int .i64 q] rfl rfl (new_one _ _ _) (one_int _ _) (by rw [HL.out]; unfold maxLen; omega) (by rw [HL.out]; omega) (by have := HB.out.size; have := b2.size; simp; omega) ?_; intro u' w3 own3 grow3 _))
      have R := hide (own_more (bt HB.out b2) (HO.out.below b2) own3 grow3)
      clear own3 grow3 b2 CM
      go_wp2
      go_roundw
      case rel => exact ⟨j + 1, by omega, by go_num, by rw [HT.out, List.map_append, List.map_singleton, HQE.out]; exact R.out.1, R.out.2⟩
      case measure => simp [intOf]; omega
    · obtain rfl : j = n := by omega
      have et : xs.take j = xs := List.take_of_length_le (by rw [HN.out]; exact Nat.le_refl _)
      have O2 := HO.out
      rw [et, ← HE.out] at O2
      have HO2 := hide O2
      clear O2 HO et
      go_wp2
      exact bodyPost_ret (v := .tuple #[_, .int .i64 0]) (by simp [results, Try.results18, go_sem]) rfl ⟨_, rfl, HO2.out, HB.out⟩
/-- The radius of a sigma. -/
def radG (s : Int) : Int := (3 * s + 65535) / 65536
def gaussTo (r s : Int) (j : Nat) : List Int := (List.range j).map fun k : Nat => gaussF ((k : Int) - r) s
theorem gaussTo_snoc (r s : Int) (j : Nat) : gaussTo r s (j + 1) = gaussTo r s j ++ [gaussF ((j : Int) - r) s] := by unfold gaussTo; rw [List.range_succ, List.map_append]; rfl
theorem gaussTo_len (r s : Int) (j : Nat) : (gaussTo r s j).length = j := by unfold gaussTo; rw [List.length_map, List.length_range]
def gaussR (s : Int) : List Int := gaussTo (radG s) s (2 * (radG s).toNat + 1)
theorem refgaussian_bad (s : Int) (h : s < 1 ∨ 4194304 < s) (w : World) :
    Calls Try.prog 20 #[.int .i64 s] w fun e w' => e = .returned (.tuple #[.slice none 0 0, .int .i64 7]) ∧ Below w.heap.size w w' := by
  rcases h with h | h
  all_goals
    go_enter Try.func20, Try.ntmps20
    go_wp2
    exact bodyPost_ret (v := .tuple #[.slice none 0 0, .int .i64 7]) (by simp [results, Try.results20, go_sem]) rfl ⟨rfl, Below.refl _ _⟩
set_option maxHeartbeats 4000000 in
set_option maxRecDepth 1000000 in
theorem refgaussian_ok (s : Int) (s0 : 1 ≤ s) (s1 : s ≤ 4194304) (w : World) :
    Calls Try.prog 20 #[.int .i64 s] w fun e w' => ∃ v, e = .returned (.tuple #[v, .int .i64 0]) ∧ OwnI .i64 2 w' w.heap.size v (gaussR s) ∧ Below w.heap.size w w' := by
  obtain ⟨i0, hi, hz0, hz1, hz2⟩ := info_parts infoI64A
  obtain ⟨r, hr⟩ : ∃ r, radG s = r := ⟨_, rfl⟩
  have hr2 := hr
  unfold radG at hr2
  have r0 : 0 ≤ r := by omega
  have r1 : r ≤ 192 := by omega
  have ra : 3 * s ≤ r * 65536 := by omega
  have rb : r * 65536 < 3 * s + 65536 := by omega
  have HG := hide (show gaussR s = gaussTo r s (2 * r.toNat + 1) by unfold gaussR; rw [hr])
  generalize gaussR s = gs at *
  clear hr hr2
  go_enter Try.func20, Try.ntmps20
  go_wp2
  go_loop [4] (fun x => ∃ t : Int, x = .int .i64 t ∧ 0 ≤ t ∧ t ≤ r) (fun x => (r - intOf x).toNat)
  case atStart => exact ⟨0, rfl, by omega, r0⟩
  case round =>
    obtain ⟨t, rfl, t0, t1⟩ := hrel
    by_cases hlt : t < r
    · have g : t * 65536 < 3 * s := by omega
      go_wp2
      go_round
      case rel => exact ⟨t + 1, by go_num, by omega, by omega⟩
      case measure => simp [intOf]; omega
    · obtain rfl : t = r := by omega
      have g : ¬ t * 65536 < 3 * s := by omega
      go_wp2
      go_loopw [5, 6] (fun u d wr => ∃ j : Nat, (j : Int) ≤ 2 * t + 1 ∧ d = .int .i64 ((j : Int) - t) ∧ OwnI .i64 2 wr w.heap.size u (gaussTo t s j) ∧ Below w.heap.size w wr) (fun _ d _ => (2 * t + 2 - (intOf d + t)).toNat)
      case atStart => exact ⟨0, by omega, by simp, OwnI.nil _ _ _ _, Below.refl _ _⟩
      case round =>
        obtain ⟨j, hj, rfl, ho, hb⟩ := hrel
        have HO := hide ho
        have HB := hide hb
        clear ho hb
        by_cases hlt2 : (j : Int) < 2 * t + 1
        · have CG := fun w => refgauss_any ((j : Int) - t) s (by omega) (by omega) (by omega) (by omega) w
          have HL := hide (gaussTo_len t s j)
          have HRS := hide (gaussTo_snoc t s j)
          generalize gaussF ((j : Int) - t) s = q at *
          go_wp2_with (first
            | (go_at_call 35; (with_reducible refine (CG _).mono ?_); rintro e w2 ⟨rfl, b2⟩)
            | (at_builtin; refine wpList_append_own _ rfl _ _ 22 rfl w.heap.size 2 i0 (.int .i64 0) 1 8 Try.underlying22 hi hz0 hz1 hz2 rfl (by decide) _ _ _ rfl ((HO.out.below b2).alloc _) ⟨w2.heap.size, 0, none⟩ 1 1 [.int .i64 q] rfl rfl (new_one _ _ _) (one_int _ _) (by rw [HL.out]; unfold maxLen; omega) (by rw [HL.out]; omega) (by have := HB.out.size; have := b2.size; simp; omega) ?_; intro u' w3 own3 grow3 _))
          have R := hide (own_more (bt HB.out b2) (HO.out.below b2) own3 grow3)
          clear own3 grow3 b2 CG
          go_wp2
          go_roundw
          case rel => exact ⟨j + 1, by omega, by first | go_num | (rw [show ((j + 1 : Nat) : Int) - t = (j : Int) - t + 1 by omega]), by rw [HRS.out]; exact R.out.1, R.out.2⟩
          case measure => simp [intOf]; omega
        · have ej : j = 2 * t.toNat + 1 := by omega
          have O2 := HO.out
          rw [ej, ← HG.out] at O2
          have HO2 := hide O2
          clear O2 HO ej
          go_wp2
          exact bodyPost_ret (v := .tuple #[_, .int .i64 0]) (by simp [results, Try.results20, go_sem]) rfl ⟨_, rfl, HO2.out, HB.out⟩
theorem refblur_bad (r : Int) (h : r < 0 ∨ 511 < r) (w : World) :
    Calls Try.prog 22 #[.int .i64 r] w fun e w' => e = .returned (.tuple #[.slice none 0 0, .int .i64 7]) ∧ Below w.heap.size w w' := by
  rcases h with h | h
  all_goals
    go_enter Try.func22, Try.ntmps22
    go_wp2
    exact bodyPost_ret (v := .tuple #[.slice none 0 0, .int .i64 7]) (by simp [results, Try.results22, go_sem]) rfl ⟨rfl, Below.refl _ _⟩
theorem sizeH_ones (n : Nat) (h : n ≤ 2000) : sizeH (List.replicate n 1) = n := by
  induction n with
  | zero => rfl
  | succ n ih =>
    rw [List.replicate_succ', sizeH_snoc, ih (by omega)]
    have e : absH 1 = 1 := by decide
    rw [e]
    unfold plusH
    rw [holdI_in (by omega) (by omega)]
    omega
theorem ones_user (r : Nat) (h : r ≤ 511) : UserP (List.replicate (2 * r + 1) 1) := by
  unfold UserP
  rw [sizeH_ones _ (by omega), List.length_replicate]
  omega
theorem ones_64 (n : Nat) : All64 (List.replicate n 1) := by
  intro j hj
  rw [List.getD_eq_getElem?_getD, List.getElem?_eq_getElem hj, List.getElem_replicate]
  simp
set_option maxHeartbeats 4000000 in
set_option maxRecDepth 1000000 in
theorem refblur_ok (r : Nat) (h : r ≤ 511) (w : World) :
    Calls Try.prog 22 #[.int .i64 (r : Int)] w fun e w' => ∃ v, e = .returned (.tuple #[v, .int .i64 0]) ∧ OwnI .i64 2 w' w.heap.size v (userR (List.replicate (2 * r + 1) 1)) ∧ Below w.heap.size w w' := by
  obtain ⟨i0, hi, hz0, hz1, hz2⟩ := info_parts infoI64A
  have HU := hide (ones_user r h)
  have HG := hide (show ∀ u : List Int, u = userR (List.replicate (2 * r + 1) 1) → u = userR (List.replicate (2 * r + 1) 1) from fun _ h => h)
  obtain ⟨us, hus⟩ : ∃ us, us = userR (List.replicate (2 * r + 1) 1) := ⟨_, rfl⟩
  have HUS := hide hus
  rw [← hus]
  clear hus HG
  go_enter Try.func22, Try.ntmps22
  go_wp2
  go_loopw [4, 14] (fun u i wr => ∃ j : Nat, j ≤ 2 * r + 1 ∧ i = .int .i64 (j : Int) ∧ OwnI .i64 2 wr w.heap.size u (List.replicate j 1) ∧ Below w.heap.size w wr) (fun _ i _ => 2 * r + 1 - (intOf i).toNat)
  case atStart => exact ⟨0, by omega, rfl, OwnI.nil _ _ _ _, Below.refl _ _⟩
  case round =>
    obtain ⟨j, hj, rfl, ho, hb⟩ := hrel
    have HO := hide ho
    have HB := hide hb
    clear ho hb
    by_cases hlt : j < 2 * r + 1
    · have HL := hide (show (List.replicate j (1 : Int)).length = j from List.length_replicate)
      have HRS := hide (show List.replicate (j + 1) (1 : Int) = List.replicate j 1 ++ [1] from List.replicate_succ')
      have hlt' : (j : Int) < 2 * (r : Int) + 1 := by omega
      go_wp2_with (at_builtin; refine wpList_append_own _ rfl _ _ 22 rfl w.heap.size 2 i0 (.int .i64 0) 1 8 Try.underlying22 hi hz0 hz1 hz2 rfl (by decide) _ _ _ rfl (HO.out.alloc _) ⟨wr.heap.size, 0, none⟩ 1 1 [.int .i64 1] rfl rfl (new_one _ _ _) (one_int _ _) (by rw [HL.out]; unfold maxLen; omega) (by rw [HL.out]; omega) (by have := HB.out.size; simp; omega) ?_; intro u' w3 own3 grow3 _)
      have R := hide (own_more HB.out HO.out own3 grow3)
      clear own3 grow3
      go_wp2
      go_roundw
      case rel => exact ⟨j + 1, by omega, by go_num, by rw [HRS.out]; exact R.out.1, R.out.2⟩
      case measure => simp [intOf]; omega
    · obtain rfl : j = 2 * r + 1 := by omega
      have hge : ¬ ((2 * r + 1 : Nat) : Int) < 2 * (r : Int) + 1 := by omega
      obtain ⟨ad, cap, rfl, RA, _⟩ := HO.out.form
      have CU := refuser_ok (List.replicate (2 * r + 1) 1) ad cap wr RA (ones_64 _) HU.out
      rw [← HUS.out] at CU
      rw [List.length_replicate] at CU ⊢
      clear RA HU HUS hlt hj
      go_wp2_with (go_at_call 18; (with_reducible refine CU.mono ?_); rintro e w2 ⟨v, rfl, ov, b2⟩)
      exact bodyPost_ret (v := .tuple #[v, .int .i64 0]) (by simp [results, Try.results22, go_sem]) rfl ⟨_, rfl, ov.mono HB.out.size, bt HB.out b2⟩
end Go.Proofs.Ytcfbpilhgnofpaa
