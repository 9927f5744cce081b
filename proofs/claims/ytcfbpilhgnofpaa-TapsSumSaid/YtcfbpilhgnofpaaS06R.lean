/- Weights that come to one: the program's kernels. -/
import Derived.Test.YtcfbpilhgnofpaaS06Q
namespace Go.Proofs.Ytcfbpilhgnofpaa
open Go.RowKit

theorem infoI64Q : (Try.prog.info? 2).map (fun i => (i.zero, i.size, i.bytes)) = some (some (.int .i64 0), 1, 8) := by kernel_rfl
theorem user_bad (xs : List Int) (ad : Option Addr) (cap : Nat) (w : World) (hr : RowAt .i64 w ad xs) (hx : All64 xs) (hl : xs.length ≤ 9223372036854775807) (h : ¬ UserP xs) :
    Calls Try.prog 17 #[.slice ad xs.length cap] w fun e w' => e = .returned (.tuple #[.slice none 0 0, .int .i64 7]) ∧ Below w.heap.size w w' := by
  have CS := fun w hr => tsize_any xs ad cap w hr hx hl
  obtain ⟨s0, s1⟩ := sizeH_in xs
  unfold UserP at h
  have HR := hide hr
  clear hr hx
  generalize sizeH xs = s at *
  generalize xs.length = n at *
  by_cases a1 : n % 2 = 1
  · have b1 : ((n : Int) % 2 == 0) = false := beq_eq_false_iff_ne.2 (by omega)
    by_cases a2 : n ≤ 1024
    · have b3 : decide ((1024 : Int) < (n : Int)) = false := decide_eq_false (by omega)
      by_cases a3 : 1 ≤ s
      · have a4 : 1048576 < s := by omega
        have b2 : (s == 0) = false := beq_eq_false_iff_ne.2 (by omega)
        clear h a1
        go_enter Try.func17, Try.ntmps17
        go_wp2_with (go_at_call 15; (with_reducible refine (CS _ HR.out).mono ?_); rintro e w1 ⟨rfl, rfl⟩)
        exact bodyPost_ret (v := .tuple #[.slice none 0 0, .int .i64 7]) (by simp [results, Try.results17, go_sem]) rfl ⟨rfl, Below.refl _ _⟩
      · obtain rfl : s = 0 := by omega
        clear h a1
        go_enter Try.func17, Try.ntmps17
        go_wp2_with (go_at_call 15; (with_reducible refine (CS _ HR.out).mono ?_); rintro e w1 ⟨rfl, rfl⟩)
        exact bodyPost_ret (v := .tuple #[.slice none 0 0, .int .i64 7]) (by simp [results, Try.results17, go_sem]) rfl ⟨rfl, Below.refl _ _⟩
    · have b3 : (1024 : Int) < (n : Int) := by omega
      clear h a1
      go_enter Try.func17, Try.ntmps17
      go_wp2_with (go_at_call 15; (with_reducible refine (CS _ HR.out).mono ?_); rintro e w1 ⟨rfl, rfl⟩)
      exact bodyPost_ret (v := .tuple #[.slice none 0 0, .int .i64 7]) (by simp [results, Try.results17, go_sem]) rfl ⟨rfl, Below.refl _ _⟩
  · have b1 : ((n : Int) % 2 == 0) = true := beq_iff_eq.2 (by omega)
    clear h a1
    go_enter Try.func17, Try.ntmps17
    go_wp2_with (go_at_call 15; (with_reducible refine (CS _ HR.out).mono ?_); rintro e w1 ⟨rfl, rfl⟩)
    exact bodyPost_ret (v := .tuple #[.slice none 0 0, .int .i64 7]) (by simp [results, Try.results17, go_sem]) rfl ⟨rfl, Below.refl _ _⟩
set_option maxHeartbeats 4000000 in
set_option maxRecDepth 1000000 in
theorem user_ok (xs : List Int) (ad : Option Addr) (cap : Nat) (w : World) (hr : RowAt .i64 w ad xs) (hx : All64 xs) (h : UserP xs) :
    Calls Try.prog 17 #[.slice ad xs.length cap] w fun e w' => ∃ v, e = .returned (.tuple #[v, .int .i64 0]) ∧ OwnI .i64 2 w' w.heap.size v (userR xs) ∧ Below w.heap.size w w' := by
  obtain ⟨p0, p1, s0, s1⟩ := h
  have CS := fun w hr => tsize_any xs ad cap w hr hx (by omega)
  obtain ⟨i0, hi, hz0, hz1, hz2⟩ := info_parts infoI64Q
  have HR := hide hr
  have HX := hide hx
  have HE := hide (show userR xs = xs.map fun x => divF (x * 1073741824) (sizeH xs) from rfl)
  clear hr hx
  obtain ⟨n, hn⟩ : ∃ n, xs.length = n := ⟨_, rfl⟩
  have HN := hide hn
  rw [hn] at p0 p1 CS ⊢
  generalize sizeH xs = s at *
  generalize userR xs = us at *
  have b1 : ((n : Int) % 2 == 0) = false := beq_eq_false_iff_ne.2 (by omega)
  have b2 : (s == 0) = false := beq_eq_false_iff_ne.2 (by omega)
  have b3 : decide ((1024 : Int) < (n : Int)) = false := decide_eq_false (by omega)
  have n1 : n ≤ 1024 := p1
  clear hn p0 p1
  go_enter Try.func17, Try.ntmps17
  go_wp2_with (first
    | (go_at_call 15; (with_reducible refine (CS _ HR.out).mono ?_); rintro e w1 ⟨rfl, rfl⟩)
    | (at_make; refine wpList_make_full _ rfl _ _ 22 rfl w.heap.size 2 i0 (.int .i64 0) 1 Try.underlying22 hi hz0 hz1 .i64 .i64 (n : Int) (n : Int) n rfl rfl rfl rfl (by rw [hz2]; omega) (by unfold maxLen; omega) (Nat.le_refl _) ?_; intro w2 hown hgrow))
  have own0 : OwnI .i64 2 w2 w.heap.size (.slice (some ⟨w.heap.size, 0, none⟩) n n) (fillZ (fun x => divF (x * 1073741824) s) xs n 0) := by rw [fillZ_zero]; exact OwnI.made hown
  have B2 := below_made (Below.refl _ w) hgrow
  clear hown hgrow CS b1 b2 b3
  go_loopw [32] (fun i wr => ∃ j : Nat, j ≤ n ∧ i = .int .i64 (j : Int) ∧ OwnI .i64 2 wr w.heap.size (.slice (some ⟨w.heap.size, 0, none⟩) n n) (fillZ (fun x => divF (x * 1073741824) s) xs n j) ∧ Below w.heap.size w wr) (fun i _ => n - (intOf i).toNat)
  case atStart => exact ⟨0, by omega, rfl, own0, B2⟩
  case round =>
    clear own0 B2
    obtain ⟨j, hj, rfl, ho, hb⟩ := hrel
    have HO := hide ho
    have HB := hide hb
    clear ho hb
    by_cases hlt : j < n
    · obtain ⟨b, off, rfl, hc⟩ := (HR.out.below HB.out).get (show j < xs.length by rw [HN.out]; exact hlt)
      obtain ⟨x0, x1⟩ := HX.out j (by rw [HN.out]; exact hlt)
      have CM := fun w => muldiv_to (xs.getD j 0) 1073741824 s _ rfl x0 x1 (by omega) (by omega) (by omega) (by omega) w
      have HZ := hide (fillZ_set (F := fun x => divF (x * 1073741824) s) HN.out hlt)
      have HL := hide (fillZ_len (F := fun x => divF (x * 1073741824) s) (j := j) HN.out)
      generalize fillZ (fun x => divF (x * 1073741824) s) xs n j = L1 at *
      generalize xs.getD j 0 = x at *
      generalize divF (x * 1073741824) s = q at *
      go_wp2_with (go_at_call 32; (with_reducible refine (CM _).mono ?_); rintro e w3 ⟨rfl, b3⟩; have fz := (HO.out.below b3).frozenAt HL.out j; have cl := (HO.out.below b3).cellAt HL.out hlt)
      go_roundw
      case rel => exact ⟨j + 1, by omega, by go_num, by rw [← HZ.out]; exact (HO.out.below b3).stored HL.out j q, bs (bt HB.out b3) (Nat.le_refl _) _⟩
      case measure => simp [intOf]; omega
    · obtain rfl : j = n := by omega
      have O2 := HO.out
      rw [fillZ_all HN.out, ← HE.out] at O2
      have HO2 := hide O2
      clear O2 HO
      go_wp2
      exact bodyPost_ret (v := .tuple #[_, .int .i64 0]) (by simp [results, Try.results17, go_sem]) rfl ⟨_, rfl, HO2.out, HB.out⟩
theorem gaussian_bad (s : Int) (h : s < 1 ∨ 4194304 < s) (w : World) :
    Calls Try.prog 19 #[.int .i64 s] w fun e w' => e = .returned (.tuple #[.slice none 0 0, .int .i64 7]) ∧ Below w.heap.size w w' := by
  rcases h with h | h
  · go_enter Try.func19, Try.ntmps19
    go_wp2
    exact bodyPost_ret (v := .tuple #[.slice none 0 0, .int .i64 7]) (by simp [results, Try.results19, go_sem]) rfl ⟨rfl, Below.refl _ _⟩
  · have h2 : decide (s < 1) = false := decide_eq_false (by omega)
    go_enter Try.func19, Try.ntmps19
    go_wp2
    exact bodyPost_ret (v := .tuple #[.slice none 0 0, .int .i64 7]) (by simp [results, Try.results19, go_sem]) rfl ⟨rfl, Below.refl _ _⟩
/-- The radius, as the program finds it. -/
theorem rad_floor {s r : Int} (s0 : 1 ≤ s) (s1 : s ≤ 4194304) (hr : radG s = r) : floorF (-3 * s) 65536 = -r := by
  rw [floorF_of (by omega), ← hr]
  unfold floorQ radG
  rw [if_neg (by omega), holdI_in (by omega) (by omega)]
  omega
set_option maxHeartbeats 4000000 in
set_option maxRecDepth 1000000 in
theorem gaussian_ok (s : Int) (s0 : 1 ≤ s) (s1 : s ≤ 4194304) (w : World) :
    Calls Try.prog 19 #[.int .i64 s] w fun e w' => ∃ v, e = .returned (.tuple #[v, .int .i64 0]) ∧ OwnI .i64 2 w' w.heap.size v (gaussR s) ∧ Below w.heap.size w w' := by
  obtain ⟨i0, hi, hz0, hz1, hz2⟩ := info_parts infoI64Q
  obtain ⟨r, hr⟩ : ∃ r : Nat, radG s = (r : Int) := ⟨(radG s).toNat, by unfold radG; omega⟩
  have hf := rad_floor s0 s1 hr
  have r1 : r ≤ 192 := by unfold radG at hr; omega
  have CF := fun w => fixfloor_any (-3 * s) 65536 (by omega) (by omega) (by omega) (by omega) w
  rw [hf] at CF
  have HG := hide (show gaussR s = gaussTo r s (2 * r + 1) by unfold gaussR; rw [hr, show ((r : Int)).toNat = r by omega])
  generalize gaussR s = gs at *
  clear hr hf
  have t0 : -3 * s ≤ 0 := by omega
  have t1 : -12582912 ≤ -3 * s := by omega
  go_enter Try.func19, Try.ntmps19
  obtain ⟨n, hn⟩ : ∃ n, 2 * r + 1 = n := ⟨_, rfl⟩
  have hn' : 2 * (r : Int) + 1 = (n : Int) := by omega
  have nn : - -(r : Int) = (r : Int) := by omega
  have n1 : n ≤ 385 := by omega
  go_wp2_with (first
    | (go_at_call 24; (with_reducible refine (CF _).mono ?_); rintro e w1 ⟨rfl, rfl⟩)
    | (at_make; refine wpList_make_full _ rfl _ _ 22 rfl w.heap.size 2 i0 (.int .i64 0) 1 Try.underlying22 hi hz0 hz1 .i64 .i64 (n : Int) (n : Int) n rfl rfl rfl rfl (by rw [hz2]; omega) (by unfold maxLen; omega) (Nat.le_refl _) ?_; intro w2 hown hgrow))
  have own0 : OwnI .i64 2 w2 w.heap.size (.slice (some ⟨w.heap.size, 0, none⟩) n n) (padZ (gaussTo r s 0) n) := by
    rw [show gaussTo r s 0 = [] from rfl, padZ_nil]; exact OwnI.made hown
  have B2 := below_made (Below.refl _ w) hgrow
  have HNN := hide hn
  clear hown hgrow CF hn hn' nn t0 t1
  go_loopw [23] (fun i wr => ∃ j : Nat, j ≤ n ∧ i = .int .i64 (j : Int) ∧ OwnI .i64 2 wr w.heap.size (.slice (some ⟨w.heap.size, 0, none⟩) n n) (padZ (gaussTo r s j) n) ∧ Below w.heap.size w wr) (fun i _ => n - (intOf i).toNat)
  case atStart => exact ⟨0, by omega, rfl, own0, B2⟩
  case round =>
    clear own0 B2
    obtain ⟨j, hj, rfl, ho, hb⟩ := hrel
    have HO := hide ho
    have HB := hide hb
    clear ho hb
    by_cases hlt : j < n
    · have CG := fun w => gauss_any ((j : Int) - r) s (by omega) (by omega) (by omega) (by omega) w
      have HZ := hide (padZ_set (gaussTo_len r s j) hlt (gaussF ((j : Int) - r) s))
      have HS := hide (gaussTo_snoc r s j)
      have HL := hide (padZ_len (show (gaussTo r s j).length ≤ n by rw [gaussTo_len]; exact hj))
      generalize padZ (gaussTo r s j) n = L1 at *
      generalize gaussF ((j : Int) - r) s = q at *
      go_wp2_with (go_at_call 34; (with_reducible refine (CG _).mono ?_); rintro e w3 ⟨rfl, b3⟩; have fz := (HO.out.below b3).frozenAt HL.out j; have cl := (HO.out.below b3).cellAt HL.out hlt)
      go_roundw
      case rel => exact ⟨j + 1, by omega, by go_num, by rw [HS.out, ← HZ.out]; exact (HO.out.below b3).stored HL.out j q, bs (bt HB.out b3) (Nat.le_refl _) _⟩
      case measure => simp [intOf]; omega
    · obtain rfl : j = n := by omega
      have O2 := HO.out
      rw [padZ_full (gaussTo_len _ _ _)] at O2
      have EJ := HG.out
      rw [HNN.out] at EJ
      rw [← EJ] at O2
      have HO2 := hide O2
      clear O2 HO EJ
      go_wp2
      exact bodyPost_ret (v := .tuple #[_, .int .i64 0]) (by simp [results, Try.results19, go_sem]) rfl ⟨_, rfl, HO2.out, HB.out⟩
end Go.Proofs.Ytcfbpilhgnofpaa
