/- Parts, joined. -/
import Derived.Test.YtaafhjngnjjcmaaGreatDoorJ11
import Derived.Test.YtaafhjngnjjcmaaGreatDoorJ03
import Derived.Test.YtaafhjngnjjcmaaGreatDoorJ10
import Derived.ProofKit
import Derived.OpenShut
import Derived.Deep.RegionHeld3
/- Weights that come to one: the document's kernels. -/
namespace Go.Proofs.YtaafhjngnjjcmaaGreatDoor
open Go.RowKit


def userR (l : List Int) : List Int := l.map fun x => divF (x * 1073741824) (sizeH l)
/-- May it be a user's kernel? -/
def UserP (l : List Int) : Prop := l.length % 2 = 1 ∧ l.length ≤ 1024 ∧ 1 ≤ sizeH l ∧ sizeH l ≤ 1048576
theorem refuser_bad (xs : List Int) (ad : Option Addr) (cap : Nat) (w : World) (hr : RowAt .i64 w ad xs) (hx : All64 xs) (hl : xs.length ≤ 9223372036854775807) (h : ¬ UserP xs) :
    Calls Tryz.prog 109 #[.slice ad xs.length cap] w fun e w' => e = .returned (.tuple #[.slice none 0 0, .int .i64 7]) ∧ Below w.heap.size w w' := by
  have CS := fun w hr => refsizes_any xs ad cap w hr hx hl
  obtain ⟨s0, s1⟩ := sizeH_in xs
  unfold UserP at h
  have HR := hide hr
  clear hr hx
  generalize sizeH xs = s at *
  generalize xs.length = n at *
  by_cases a1 : n % 2 = 1
  · by_cases a2 : n ≤ 1024
    · by_cases a3 : 1 ≤ s
      · have a4 : 1048576 < s := by omega
        have b1 : ((n : Int) % 2 == 0) = false := beq_eq_false_iff_ne.2 (by omega)
        have b2 : (s == 0) = false := beq_eq_false_iff_ne.2 (by omega)
        clear h a1
        go_enter Tryz.func109, Tryz.ntmps109
        go_wp2_with (go_at_call 126; (with_reducible refine (CS _ HR.out).mono ?_); rintro e w1 ⟨rfl, rfl⟩)
        exact bodyPost_ret (v := .tuple #[.slice none 0 0, .int .i64 7]) (by simp [results, Tryz.results109, go_sem]) rfl ⟨rfl, Below.refl _ _⟩
      · obtain rfl : s = 0 := by omega
        have b1 : ((n : Int) % 2 == 0) = false := beq_eq_false_iff_ne.2 (by omega)
        clear h a1
        go_enter Tryz.func109, Tryz.ntmps109
        go_wp2_with (go_at_call 126; (with_reducible refine (CS _ HR.out).mono ?_); rintro e w1 ⟨rfl, rfl⟩)
        exact bodyPost_ret (v := .tuple #[.slice none 0 0, .int .i64 7]) (by simp [results, Tryz.results109, go_sem]) rfl ⟨rfl, Below.refl _ _⟩
    · have b1 : ((n : Int) % 2 == 0) = false := beq_eq_false_iff_ne.2 (by omega)
      have b3 : (1024 : Int) < (n : Int) := by omega
      clear h a1
      go_enter Tryz.func109, Tryz.ntmps109
      go_wp2_with (go_at_call 126; (with_reducible refine (CS _ HR.out).mono ?_); rintro e w1 ⟨rfl, rfl⟩)
      exact bodyPost_ret (v := .tuple #[.slice none 0 0, .int .i64 7]) (by simp [results, Tryz.results109, go_sem]) rfl ⟨rfl, Below.refl _ _⟩
  · have b1 : ((n : Int) % 2 == 0) = true := beq_iff_eq.2 (by omega)
    clear h a1
    go_enter Tryz.func109, Tryz.ntmps109
    go_wp2_with (go_at_call 126; (with_reducible refine (CS _ HR.out).mono ?_); rintro e w1 ⟨rfl, rfl⟩)
    exact bodyPost_ret (v := .tuple #[.slice none 0 0, .int .i64 7]) (by simp [results, Tryz.results109, go_sem]) rfl ⟨rfl, Below.refl _ _⟩
set_option maxHeartbeats 4000000 in
set_option maxRecDepth 1000000 in
theorem refuser_ok (xs : List Int) (ad : Option Addr) (cap : Nat) (w : World) (hr : RowAt .i64 w ad xs) (hx : All64 xs) (h : UserP xs) :
    Calls Tryz.prog 109 #[.slice ad xs.length cap] w fun e w' => ∃ v, e = .returned (.tuple #[v, .int .i64 0]) ∧ OwnI .i64 2 w' w.heap.size v (userR xs) ∧ Below w.heap.size w w' := by
  obtain ⟨p0, p1, s0, s1⟩ := h
  have CS := fun w hr => refsizes_any xs ad cap w hr hx (by omega)
  obtain ⟨i0, hi, hz0, hz1, hz2⟩ := info_parts infoI64A
  have HR := hide hr
  have HX := hide hx
  have HE := hide (show userR xs = xs.map fun x => divF (x * 1073741824) (sizeH xs) from rfl)
  clear hr hx
  obtain ⟨n, hn⟩ : ∃ n, xs.length = n := ⟨_, rfl⟩
  have HN := hide hn
  rw [hn] at p0 p1 CS ⊢
  generalize sizeH xs = s at *
  generalize userR xs = us at *
  have b1 : ((n : Int) % 2 == 0) = false := beq_eq_false_iff_ne.2 (by omega)
  have b2 : (s == 0) = false := beq_eq_false_iff_ne.2 (by omega)
  clear hn p0
  go_enter Tryz.func109, Tryz.ntmps109
  go_wp2_with (go_at_call 126; (with_reducible refine (CS _ HR.out).mono ?_); rintro e w1 ⟨rfl, rfl⟩)
  clear CS
  go_loopw [5, 29] (fun u i wr => ∃ j : Nat, j ≤ n ∧ i = .int .i64 (j : Int) ∧ OwnI .i64 2 wr w.heap.size u ((xs.take j).map fun x => divF (x * 1073741824) s) ∧ Below w.heap.size w wr) (fun _ i _ => n - (intOf i).toNat)
  case atStart => exact ⟨0, by omega, rfl, OwnI.nil _ _ _ _, Below.refl _ _⟩
  case round =>
    obtain ⟨j, hj, rfl, ho, hb⟩ := hrel
    have HO := hide ho
    have HB := hide hb
    clear ho hb
    by_cases hlt : j < n
    · obtain ⟨b, off, rfl, hc⟩ := (HR.out.below HB.out).get (show j < xs.length by rw [HN.out]; exact hlt)
      obtain ⟨x0, x1⟩ := HX.out j (by rw [HN.out]; exact hlt)
      have CM := fun w => refmuldiv_to (xs.getD j 0) 1073741824 s _ rfl x0 x1 (by omega) (by omega) (by omega) (by omega) w
      have HT := hide (take_step xs (show j < xs.length by rw [HN.out]; exact hlt))
      have HL := hide (show ((xs.take j).map fun x => divF (x * 1073741824) s).length = j by rw [List.length_map, List.length_take]; have := HN.out; omega)
      generalize xs.getD j 0 = x at *
      generalize hqe : divF (x * 1073741824) s = q at *
      have HQE := hide hqe
      clear hqe
      go_wp2_with (first
        | (go_at_call 127; (with_reducible refine (CM _).mono ?_); rintro e w2 ⟨rfl, b2⟩)
        | (at_builtin; refine wpList_append_own _ rfl _ _ 47 rfl w.heap.size 2 i0 (.int .i64 0) 1 8 Tryz.underlying47 hi hz0 hz1 hz2 rfl (by decide) _ _ _ rfl ((HO.out.below b2).alloc _) ⟨w2.heap.size, 0, none⟩ 1 1 [.int .i64 q] rfl rfl (new_one _ _ _) (one_int _ _) (by rw [HL.out]; unfold maxLen; omega) (by rw [HL.out]; omega) (by have := HB.out.size; have := b2.size; simp; omega) ?_; intro u' w3 own3 grow3 _))
      have R := hide (own_more (bt HB.out b2) (HO.out.below b2) own3 grow3)
      clear own3 grow3 b2 CM
      go_wp2
      go_roundw
      case rel => exact ⟨j + 1, by omega, by go_num, by rw [HT.out, List.map_append, List.map_singleton, HQE.out]; exact R.out.1, R.out.2⟩
      case measure => simp [intOf]; omega
    · obtain rfl : j = n := by omega
      have et : xs.take j = xs := List.take_of_length_le (by rw [HN.out]; exact Nat.le_refl _)
      have O2 := HO.out
      rw [et, ← HE.out] at O2
      have HO2 := hide O2
      clear O2 HO et
      go_wp2
      exact bodyPost_ret (v := .tuple #[_, .int .i64 0]) (by simp [results, Tryz.results109, go_sem]) rfl ⟨_, rfl, HO2.out, HB.out⟩
/-- The radius of a sigma. -/
def radG (s : Int) : Int := (3 * s + 65535) / 65536
def gaussTo (r s : Int) (j : Nat) : List Int := (List.range j).map fun k : Nat => gaussF ((k : Int) - r) s
theorem gaussTo_snoc (r s : Int) (j : Nat) : gaussTo r s (j + 1) = gaussTo r s j ++ [gaussF ((j : Int) - r) s] := by unfold gaussTo; rw [List.range_succ, List.map_append]; rfl
theorem gaussTo_len (r s : Int) (j : Nat) : (gaussTo r s j).length = j := by unfold gaussTo; rw [List.length_map, List.length_range]
def gaussR (s : Int) : List Int := gaussTo (radG s) s (2 * (radG s).toNat + 1)
theorem refgaussian_bad (s : Int) (h : s < 1 ∨ 4194304 < s) (w : World) :
    Calls Tryz.prog 107 #[.int .i64 s] w fun e w' => e = .returned (.tuple #[.slice none 0 0, .int .i64 7]) ∧ Below w.heap.size w w' := by
  rcases h with h | h
  all_goals
    go_enter Tryz.func107, Tryz.ntmps107
    go_wp2
    exact bodyPost_ret (v := .tuple #[.slice none 0 0, .int .i64 7]) (by simp [results, Tryz.results107, go_sem]) rfl ⟨rfl, Below.refl _ _⟩
set_option maxHeartbeats 4000000 in
set_option maxRecDepth 1000000 in
theorem refgaussian_ok (s : Int) (s0 : 1 ≤ s) (s1 : s ≤ 4194304) (w : World) :
    Calls Tryz.prog 107 #[.int .i64 s] w fun e w' => ∃ v, e = .returned (.tuple #[v, .int .i64 0]) ∧ OwnI .i64 2 w' w.heap.size v (gaussR s) ∧ Below w.heap.size w w' := by
  obtain ⟨i0, hi, hz0, hz1, hz2⟩ := info_parts infoI64A
  obtain ⟨r, hr⟩ : ∃ r, radG s = r := ⟨_, rfl⟩
  have hr2 := hr
  unfold radG at hr2
  have r0 : 0 ≤ r := by omega
  have r1 : r ≤ 192 := by omega
  have ra : 3 * s ≤ r * 65536 := by omega
  have rb : r * 65536 < 3 * s + 65536 := by omega
  have HG := hide (show gaussR s = gaussTo r s (2 * r.toNat + 1) by unfold gaussR; rw [hr])
  generalize gaussR s = gs at *
  clear hr hr2
  go_enter Tryz.func107, Tryz.ntmps107
  go_wp2
  go_loop [4] (fun x => ∃ t : Int, x = .int .i64 t ∧ 0 ≤ t ∧ t ≤ r) (fun x => (r - intOf x).toNat)
  case atStart => exact ⟨0, rfl, by omega, r0⟩
  case round =>
    obtain ⟨t, rfl, t0, t1⟩ := hrel
    by_cases hlt : t < r
    · have g : t * 65536 < 3 * s := by omega
      go_wp2
      go_round
      case rel => exact ⟨t + 1, by go_num, by omega, by omega⟩
      case measure => simp [intOf]; omega
    · obtain rfl : t = r := by omega
      have g : ¬ t * 65536 < 3 * s := by omega
      go_wp2
      go_loopw [5, 6] (fun u d wr => ∃ j : Nat, (j : Int) ≤ 2 * t + 1 ∧ d = .int .i64 ((j : Int) - t) ∧ OwnI .i64 2 wr w.heap.size u (gaussTo t s j) ∧ Below w.heap.size w wr) (fun _ d _ => (2 * t + 2 - (intOf d + t)).toNat)
      case atStart => exact ⟨0, by omega, by simp, OwnI.nil _ _ _ _, Below.refl _ _⟩
      case round =>
        obtain ⟨j, hj, rfl, ho, hb⟩ := hrel
        have HO := hide ho
        have HB := hide hb
        clear ho hb
        by_cases hlt2 : (j : Int) < 2 * t + 1
        · have CG := fun w => refgauss_any ((j : Int) - t) s (by omega) (by omega) (by omega) (by omega) w
          have HL := hide (gaussTo_len t s j)
          have HRS := hide (gaussTo_snoc t s j)
          generalize gaussF ((j : Int) - t) s = q at *
          go_wp2_with (first
            | (go_at_call 125; (with_reducible refine (CG _).mono ?_); rintro e w2 ⟨rfl, b2⟩)
            | (at_builtin; refine wpList_append_own _ rfl _ _ 47 rfl w.heap.size 2 i0 (.int .i64 0) 1 8 Tryz.underlying47 hi hz0 hz1 hz2 rfl (by decide) _ _ _ rfl ((HO.out.below b2).alloc _) ⟨w2.heap.size, 0, none⟩ 1 1 [.int .i64 q] rfl rfl (new_one _ _ _) (one_int _ _) (by rw [HL.out]; unfold maxLen; omega) (by rw [HL.out]; omega) (by have := HB.out.size; have := b2.size; simp; omega) ?_; intro u' w3 own3 grow3 _))
          have R := hide (own_more (bt HB.out b2) (HO.out.below b2) own3 grow3)
          clear own3 grow3 b2 CG
          go_wp2
          go_roundw
          case rel => exact ⟨j + 1, by omega, by first | go_num | (rw [show ((j + 1 : Nat) : Int) - t = (j : Int) - t + 1 by omega]), by rw [HRS.out]; exact R.out.1, R.out.2⟩
          case measure => simp [intOf]; omega
        · have ej : j = 2 * t.toNat + 1 := by omega
          have O2 := HO.out
          rw [ej, ← HG.out] at O2
          have HO2 := hide O2
          clear O2 HO ej
          go_wp2
          exact bodyPost_ret (v := .tuple #[_, .int .i64 0]) (by simp [results, Tryz.results107, go_sem]) rfl ⟨_, rfl, HO2.out, HB.out⟩
theorem refblur_bad (r : Int) (h : r < 0 ∨ 511 < r) (w : World) :
    Calls Tryz.prog 108 #[.int .i64 r] w fun e w' => e = .returned (.tuple #[.slice none 0 0, .int .i64 7]) ∧ Below w.heap.size w w' := by
  rcases h with h | h
  all_goals
    go_enter Tryz.func108, Tryz.ntmps108
    go_wp2
    exact bodyPost_ret (v := .tuple #[.slice none 0 0, .int .i64 7]) (by simp [results, Tryz.results108, go_sem]) rfl ⟨rfl, Below.refl _ _⟩
theorem sizeH_ones (n : Nat) (h : n ≤ 2000) : sizeH (List.replicate n 1) = n := by
  induction n with
  | zero => rfl
  | succ n ih =>
    rw [List.replicate_succ', sizeH_snoc, ih (by omega)]
    have e : absH 1 = 1 := by decide
    rw [e]
    unfold plusH
    rw [holdI_in (by omega) (by omega)]
    omega
theorem ones_user (r : Nat) (h : r ≤ 511) : UserP (List.replicate (2 * r + 1) 1) := by
  unfold UserP
  rw [sizeH_ones _ (by omega), List.length_replicate]
  omega
theorem ones_64 (n : Nat) : All64 (List.replicate n 1) := by
  intro j hj
  rw [List.getD_eq_getElem?_getD, List.getElem?_eq_getElem hj, List.getElem_replicate]
  simp
set_option maxHeartbeats 4000000 in
set_option maxRecDepth 1000000 in
theorem refblur_ok (r : Nat) (h : r ≤ 511) (w : World) :
    Calls Tryz.prog 108 #[.int .i64 (r : Int)] w fun e w' => ∃ v, e = .returned (.tuple #[v, .int .i64 0]) ∧ OwnI .i64 2 w' w.heap.size v (userR (List.replicate (2 * r + 1) 1)) ∧ Below w.heap.size w w' := by
  obtain ⟨i0, hi, hz0, hz1, hz2⟩ := info_parts infoI64A
  have HU := hide (ones_user r h)
  have HG := hide (show ∀ u : List Int, u = userR (List.replicate (2 * r + 1) 1) → u = userR (List.replicate (2 * r + 1) 1) from fun _ h => h)
  obtain ⟨us, hus⟩ : ∃ us, us = userR (List.replicate (2 * r + 1) 1) := ⟨_, rfl⟩
  have HUS := hide hus
  rw [← hus]
  clear hus HG
  go_enter Tryz.func108, Tryz.ntmps108
  go_wp2
  go_loopw [4, 14] (fun u i wr => ∃ j : Nat, j ≤ 2 * r + 1 ∧ i = .int .i64 (j : Int) ∧ OwnI .i64 2 wr w.heap.size u (List.replicate j 1) ∧ Below w.heap.size w wr) (fun _ i _ => 2 * r + 1 - (intOf i).toNat)
  case atStart => exact ⟨0, by omega, rfl, OwnI.nil _ _ _ _, Below.refl _ _⟩
  case round =>
    obtain ⟨j, hj, rfl, ho, hb⟩ := hrel
    have HO := hide ho
    have HB := hide hb
    clear ho hb
    by_cases hlt : j < 2 * r + 1
    · have HL := hide (show (List.replicate j (1 : Int)).length = j from List.length_replicate)
      have HRS := hide (show List.replicate (j + 1) (1 : Int) = List.replicate j 1 ++ [1] from List.replicate_succ')
      have hlt' : (j : Int) < 2 * (r : Int) + 1 := by omega
      go_wp2_with (at_builtin; refine wpList_append_own _ rfl _ _ 47 rfl w.heap.size 2 i0 (.int .i64 0) 1 8 Tryz.underlying47 hi hz0 hz1 hz2 rfl (by decide) _ _ _ rfl (HO.out.alloc _) ⟨wr.heap.size, 0, none⟩ 1 1 [.int .i64 1] rfl rfl (new_one _ _ _) (one_int _ _) (by rw [HL.out]; unfold maxLen; omega) (by rw [HL.out]; omega) (by have := HB.out.size; simp; omega) ?_; intro u' w3 own3 grow3 _)
      have R := hide (own_more HB.out HO.out own3 grow3)
      clear own3 grow3
      go_wp2
      go_roundw
      case rel => exact ⟨j + 1, by omega, by go_num, by rw [HRS.out]; exact R.out.1, R.out.2⟩
      case measure => simp [intOf]; omega
    · obtain rfl : j = 2 * r + 1 := by omega
      have hge : ¬ ((2 * r + 1 : Nat) : Int) < 2 * (r : Int) + 1 := by omega
      obtain ⟨ad, cap, rfl, RA, _⟩ := HO.out.form
      have CU := refuser_ok (List.replicate (2 * r + 1) 1) ad cap wr RA (ones_64 _) HU.out
      rw [← HUS.out] at CU
      rw [List.length_replicate] at CU ⊢
      clear RA HU HUS hlt hj
      go_wp2_with (go_at_call 109; (with_reducible refine CU.mono ?_); rintro e w2 ⟨v, rfl, ov, b2⟩)
      exact bodyPost_ret (v := .tuple #[v, .int .i64 0]) (by simp [results, Tryz.results108, go_sem]) rfl ⟨_, rfl, ov.mono HB.out.size, bt HB.out b2⟩
end Go.Proofs.YtaafhjngnjjcmaaGreatDoor

/- What comes in: slices of numbers, opened. -/
namespace Go.Proofs.YtaafhjngnjjcmaaGreatDoor
open Go.RowKit


/-- Each number of a list fits its kind. -/
def AllK (k : IntKind) (xs : List Int) : Prop := ∀ n ∈ xs, (Lit.int k n).wf = true
theorem row_open {k : IntKind} {w : World} {a : Option Addr} {len cap : Nat}
    (h : (a = none ∧ len = 0 ∧ cap = 0) ∨ ∃ (x : Addr) (zs : List Int), a = some x ∧ len ≤ cap ∧ cap ≤ maxLen ∧ zs.length = cap ∧ (∀ i, i < zs.length → w.cell? (x.add i) = some (.int k (zs.getD i 0))) ∧ ∀ n ∈ zs, (Lit.int k n).wf = true) :
    ∃ xs : List Int, xs.length = len ∧ RowAt k w a xs ∧ AllK k xs ∧ xs.length ≤ maxLen ∧ (a = none → cap = 0) := by
  rcases h with ⟨rfl, rfl, rfl⟩ | ⟨x, zs, rfl, hl, hm, hz, hc, hw⟩
  · exact ⟨[], rfl, Or.inl rfl, (fun n hn => by cases hn), by simp, fun _ => rfl⟩
  · refine ⟨zs.take len, by rw [List.length_take]; omega, ?_, fun n hn => hw n (List.mem_of_mem_take hn), by rw [List.length_take]; omega, fun h => by cases h⟩
    by_cases h0 : len = 0
    · subst h0; exact Or.inl rfl
    · obtain ⟨b, off, rfl, c⟩ := ints_at hc (by omega)
      refine Or.inr ⟨b, off, rfl, fun j hj => ?_⟩
      rw [List.length_take] at hj
      have := c j (by omega)
      rw [this, List.getD_eq_getElem?_getD, List.getD_eq_getElem?_getD, List.getElem?_take, if_pos (by omega)]
theorem allK_at {k : IntKind} {xs : List Int} (h : AllK k xs) {j : Nat} (hj : j < xs.length) : (Lit.int k (xs.getD j 0)).wf = true := by
  rw [List.getD_eq_getElem?_getD, List.getElem?_eq_getElem hj]
  exact h _ (List.getElem_mem hj)
theorem allK_i64 {xs : List Int} (h : AllK .i64 xs) {j : Nat} (hj : j < xs.length) : -9223372036854775808 ≤ xs.getD j 0 ∧ xs.getD j 0 ≤ 9223372036854775807 := by
  simpa [Lit.wf, IntKind.min, IntKind.max, IntKind.signed, IntKind.bits] using allK_at h hj
theorem allK_i32 {xs : List Int} (h : AllK .i32 xs) {j : Nat} (hj : j < xs.length) : -2147483648 ≤ xs.getD j 0 ∧ xs.getD j 0 ≤ 2147483647 := by
  simpa [Lit.wf, IntKind.min, IntKind.max, IntKind.signed, IntKind.bits] using allK_at h hj
theorem allK_u8 {xs : List Int} (h : AllK .u8 xs) {j : Nat} (hj : j < xs.length) : 0 ≤ xs.getD j 0 ∧ xs.getD j 0 ≤ 255 := by
  simpa [Lit.wf, IntKind.min, IntKind.max, IntKind.signed, IntKind.bits] using allK_at h hj
end Go.Proofs.YtaafhjngnjjcmaaGreatDoor

/- Weights that come to one: what the calls answer, whatever comes in. -/
namespace Go.Proofs.YtaafhjngnjjcmaaGreatDoor
open Go.RowKit


/-- A slice that reads so. -/
def Ret (k : IntKind) (xs : List Int) (w : World) (v : Value) : Prop := ∃ ad cap, v = .slice ad xs.length cap ∧ RowAt k w ad xs
theorem OwnI.ret {k : IntKind} {T : TypeId} {w : World} {base : Nat} {v : Value} {xs : List Int} (h : OwnI k T w base v xs) : Ret k xs w v := by
  obtain ⟨ad, cap, h1, h2, _⟩ := h.form
  exact ⟨ad, cap, h1, h2⟩
theorem ret_nil (k : IntKind) (w : World) (ad : Option Addr) (cap : Nat) : Ret k [] w (.slice ad 0 cap) := ⟨ad, cap, rfl, Or.inl rfl⟩
theorem Ret.below {k : IntKind} {xs : List Int} {w w' : World} {v : Value} (h : Ret k xs w v) (hb : Below w.heap.size w w') : Ret k xs w' v := by
  obtain ⟨ad, cap, h1, h2⟩ := h
  exact ⟨ad, cap, h1, h2.below hb⟩
theorem Ret.formn {k : IntKind} {w : World} {n : Nat} {v : Value} {xs : List Int} (h : Ret k xs w v) (hn : xs.length = n) : ∃ ad cap, v = .slice ad n cap ∧ RowAt k w ad xs := by subst hn; exact h
def badB (l : List Int) : Bool := decide (l.length < 1) || decide (1048576 < l.length) || l.any (fun x => decide (x < -1099511627776) || decide (1099511627776 < x))
def appCode (l : List Int) : Int := if badB l = true then 7 else if sumH l < 268435456 then 8 else 0
def appOut (l : List Int) : List Int := if appCode l = 0 then appR l else []
theorem badB_iff (l : List Int) : badB l = true ↔ l.length < 1 ∨ 1048576 < l.length ∨ ¬ ∀ x ∈ l, smallW x := by
  unfold badB smallW
  rw [Bool.or_eq_true, Bool.or_eq_true, decide_eq_true_eq, decide_eq_true_eq, List.any_eq_true]
  constructor
  · rintro ((h | h) | ⟨x, hx, h⟩)
    · exact Or.inl h
    · exact Or.inr (Or.inl h)
    · refine Or.inr (Or.inr fun g => ?_)
      have := g x hx
      simp at h
      omega
  · rintro (h | h | h)
    · exact Or.inl (Or.inl h)
    · exact Or.inl (Or.inr h)
    · refine Or.inr ?_
      simp only [Classical.not_forall] at h
      obtain ⟨x, hx, g⟩ := h
      refine ⟨x, hx, ?_⟩
      simp
      omega
theorem appCode_fits {l : List Int} : appCode l = 0 ↔ Fits l := by
  unfold appCode
  have B := badB_iff l
  constructor
  · intro h
    by_cases g : badB l = true
    · rw [if_pos g] at h; omega
    · rw [if_neg g] at h
      by_cases g2 : sumH l < 268435456
      · rw [if_pos g2] at h; omega
      · have nb : ¬ (l.length < 1 ∨ 1048576 < l.length ∨ ¬ ∀ x ∈ l, smallW x) := fun q => g (B.2 q)
        refine ⟨?_, ?_, ?_, by omega⟩
        · by_cases q : l.length < 1
          · exact absurd (Or.inl q) nb
          · omega
        · by_cases q : 1048576 < l.length
          · exact absurd (Or.inr (Or.inl q)) nb
          · omega
        · exact Classical.byContradiction fun q => nb (Or.inr (Or.inr q))
  · rintro ⟨h0, h1, h2, h3⟩
    have g : ¬ badB l = true := fun q => by
      rcases B.1 q with h | h | h
      · omega
      · omega
      · exact h h2
    rw [if_neg g, if_neg (by omega)]
theorem refapp_any (xs : List Int) (ad : Option Addr) (cap : Nat) (w : World) (hr : RowAt .i64 w ad xs) (hx : All64 xs) (hl : xs.length ≤ 9223372036854775807) :
    Calls Tryz.prog 124 #[.slice ad xs.length cap] w fun e w' => ∃ v, e = .returned (.tuple #[v, .int .i64 (appCode xs)]) ∧ Ret .i64 (appOut xs) w' v ∧ Below w.heap.size w w' := by
  by_cases hf : Fits xs
  · have e := appCode_fits.2 hf
    have e2 : appOut xs = appR xs := by unfold appOut; rw [if_pos e]
    rw [e, e2]
    refine (refapp_fits xs ad cap w hr hx hf).mono ?_
    rintro e w1 ⟨v, rfl, o, b⟩
    exact ⟨v, rfl, o.ret, b⟩
  · have e : appCode xs ≠ 0 := fun g => hf (appCode_fits.1 g)
    have e2 : appOut xs = [] := by unfold appOut; rw [if_neg e]
    rw [e2]
    by_cases hb : badB xs = true
    · have e3 : appCode xs = 7 := by unfold appCode; rw [if_pos hb]
      rw [e3]
      by_cases g : xs.length < 1 ∨ 1048576 < xs.length
      · refine (refapp_len xs ad cap w hl g).mono ?_
        rintro e w1 ⟨rfl, b⟩
        exact ⟨_, rfl, ret_nil _ _ _ _, b⟩
      · have g2 : ¬ ∀ x ∈ xs, smallW x := by
          rcases (badB_iff xs).1 hb with h | h | h
          · exact absurd (Or.inl h) g
          · exact absurd (Or.inr h) g
          · exact h
        refine (refapp_big xs ad cap w hr hx (by omega) (by omega) g2).mono ?_
        rintro e w1 ⟨rfl, b⟩
        exact ⟨_, rfl, ret_nil _ _ _ _, b⟩
    · have nb : ¬ (xs.length < 1 ∨ 1048576 < xs.length ∨ ¬ ∀ x ∈ xs, smallW x) := fun q => hb ((badB_iff xs).2 q)
      have h0 : 1 ≤ xs.length := by
        by_cases q : xs.length < 1
        · exact absurd (Or.inl q) nb
        · omega
      have h1 : xs.length ≤ 1048576 := by
        by_cases q : 1048576 < xs.length
        · exact absurd (Or.inr (Or.inl q)) nb
        · omega
      have h2 : ∀ x ∈ xs, smallW x := Classical.byContradiction fun q => nb (Or.inr (Or.inr q))
      have h3 : sumH xs < 268435456 := by
        by_cases q : sumH xs < 268435456
        · exact q
        · exact absurd ⟨h0, h1, h2, by omega⟩ hf
      have e3 : appCode xs = 8 := by unfold appCode; rw [if_neg hb, if_pos h3]
      rw [e3]
      refine (refapp_low xs ad cap w hr hx h0 h1 h2 h3).mono ?_
      rintro e w1 ⟨rfl, b⟩
      exact ⟨_, rfl, ret_nil _ _ _ _, b⟩
def userB (l : List Int) : Bool := decide (l.length % 2 = 1) && decide (l.length ≤ 1024) && decide (1 ≤ sizeH l) && decide (sizeH l ≤ 1048576)
theorem userB_iff (l : List Int) : userB l = true ↔ UserP l := by unfold userB UserP; simp; omega
def userCode (l : List Int) : Int := if userB l = true then 0 else 7
def userOut (l : List Int) : List Int := if userB l = true then userR l else []
theorem refuser_any (xs : List Int) (ad : Option Addr) (cap : Nat) (w : World) (hr : RowAt .i64 w ad xs) (hx : All64 xs) (hl : xs.length ≤ 9223372036854775807) :
    Calls Tryz.prog 109 #[.slice ad xs.length cap] w fun e w' => ∃ v, e = .returned (.tuple #[v, .int .i64 (userCode xs)]) ∧ Ret .i64 (userOut xs) w' v ∧ Below w.heap.size w w' := by
  unfold userCode userOut
  by_cases hu : userB xs = true
  · rw [if_pos hu, if_pos hu]
    refine (refuser_ok xs ad cap w hr hx ((userB_iff xs).1 hu)).mono ?_
    rintro e w1 ⟨v, rfl, o, b⟩
    exact ⟨v, rfl, o.ret, b⟩
  · rw [if_neg hu, if_neg hu]
    refine (refuser_bad xs ad cap w hr hx hl (fun q => hu ((userB_iff xs).2 q))).mono ?_
    rintro e w1 ⟨rfl, b⟩
    exact ⟨_, rfl, ret_nil _ _ _ _, b⟩
def gauCode (s : Int) : Int := if 1 ≤ s ∧ s ≤ 4194304 then 0 else 7
def gauOut (s : Int) : List Int := if 1 ≤ s ∧ s ≤ 4194304 then gaussR s else []
theorem refgaussian_any (s : Int) (w : World) :
    Calls Tryz.prog 107 #[.int .i64 s] w fun e w' => ∃ v, e = .returned (.tuple #[v, .int .i64 (gauCode s)]) ∧ Ret .i64 (gauOut s) w' v ∧ Below w.heap.size w w' := by
  unfold gauCode gauOut
  by_cases h : 1 ≤ s ∧ s ≤ 4194304
  · rw [if_pos h, if_pos h]
    refine (refgaussian_ok s h.1 h.2 w).mono ?_
    rintro e w1 ⟨v, rfl, o, b⟩
    exact ⟨v, rfl, o.ret, b⟩
  · rw [if_neg h, if_neg h]
    refine (refgaussian_bad s (by omega) w).mono ?_
    rintro e w1 ⟨rfl, b⟩
    exact ⟨_, rfl, ret_nil _ _ _ _, b⟩
def blurCode (r : Int) : Int := if 0 ≤ r ∧ r ≤ 511 then 0 else 7
def blurOut (r : Int) : List Int := if 0 ≤ r ∧ r ≤ 511 then userR (List.replicate (2 * r.toNat + 1) 1) else []
theorem refblur_any (r : Int) (w : World) :
    Calls Tryz.prog 108 #[.int .i64 r] w fun e w' => ∃ v, e = .returned (.tuple #[v, .int .i64 (blurCode r)]) ∧ Ret .i64 (blurOut r) w' v ∧ Below w.heap.size w w' := by
  unfold blurCode blurOut
  by_cases h : 0 ≤ r ∧ r ≤ 511
  · rw [if_pos h, if_pos h]
    obtain ⟨n, rfl⟩ : ∃ n : Nat, r = (n : Int) := ⟨r.toNat, by omega⟩
    refine (refblur_ok n (by omega) w).mono ?_
    rintro e w1 ⟨v, rfl, o, b⟩
    exact ⟨v, rfl, o.ret, b⟩
  · rw [if_neg h, if_neg h]
    refine (refblur_bad r (by omega) w).mono ?_
    rintro e w1 ⟨rfl, b⟩
    exact ⟨_, rfl, ret_nil _ _ _ _, b⟩
/-- What the program's own calls are to answer, where memory holds what they read beside. -/
def AppC (K : World → Prop) : Prop := ∀ (xs : List Int) (ad : Option Addr) (cap : Nat) (w : World), K w → RowAt .i64 w ad xs → All64 xs → xs.length ≤ 9223372036854775807 →
  Calls Tryz.prog 117 #[.slice ad xs.length cap] w fun e w' => ∃ v, e = .returned (.tuple #[v, .int .i64 (appCode xs)]) ∧ Ret .i64 (appOut xs) w' v ∧ Below w.heap.size w w'
def GauC (K : World → Prop) : Prop := ∀ (s : Int) (w : World), K w → -9223372036854775808 ≤ s → s ≤ 9223372036854775807 →
  Calls Tryz.prog 118 #[.int .i64 s] w fun e w' => ∃ v, e = .returned (.tuple #[v, .int .i64 (gauCode s)]) ∧ Ret .i64 (gauOut s) w' v ∧ Below w.heap.size w w'
end Go.Proofs.YtaafhjngnjjcmaaGreatDoor

/- Lines of a table in memory. No number of the program but that of int64 stands in it. -/
namespace Go.Proofs.YtaafhjngnjjcmaaGreatDoor
open Go.RowKit


/-- The block holds these lines. -/
def LinesAt (w : World) (g : Nat) (L : List (Int × List Int)) : Prop :=
  ∀ j, j < L.length → w.cell? ⟨g, j * 2, none⟩ = some (.int .i64 (lnAt L j).1) ∧ ∃ u, w.cell? ⟨g, j * 2 + 1, none⟩ = some u ∧ Ret .i64 (lnAt L j).2 w u
theorem LinesAt.below {w w' : World} {g : Nat} {L : List (Int × List Int)} (h : LinesAt w g L) (hb : Below w.heap.size w w') : LinesAt w' g L := by
  intro j hj
  obtain ⟨h1, u, h2, h3⟩ := h j hj
  exact ⟨cb hb (cell_ltL h1) h1, u, cb hb (cell_ltL h2) h2, h3.below hb⟩
/-- The cells of lines. -/
def lcells : List (Int × List Int) → List Value → List Value
  | x :: L, u :: us => .int .i64 x.1 :: u :: lcells L us
  | _, _ => []
theorem lcells_snoc {L : List (Int × List Int)} {us : List Value} (h : us.length = L.length) (x : Int × List Int) (u : Value) : lcells (L ++ [x]) (us ++ [u]) = lcells L us ++ [.int .i64 x.1, u] := by
  induction L generalizing us with
  | nil => rw [List.eq_nil_of_length_eq_zero h]; rfl
  | cons y L ih =>
    cases us with
    | nil => simp at h
    | cons v us =>
      show _ :: _ :: lcells (L ++ [x]) (us ++ [u]) = _
      rw [ih (by simpa using h)]; rfl
theorem lcells_get {L : List (Int × List Int)} {us : List Value} (h : us.length = L.length) {j : Nat} (hj : j < L.length) : (lcells L us)[2 * j]? = some (.int .i64 (lnAt L j).1) ∧ (lcells L us)[2 * j + 1]? = some (us.getD j undef) := by
  induction L generalizing us j with
  | nil => simp at hj
  | cons y L ih =>
    cases us with
    | nil => simp at h
    | cons v us =>
      cases j with
      | zero => exact ⟨rfl, rfl⟩
      | succ j =>
        have := ih (us := us) (by simpa using h) (j := j) (by simpa using hj)
        show (Value.int .i64 y.1 :: v :: lcells L us)[2 * (j + 1)]? = _ ∧ (Value.int .i64 y.1 :: v :: lcells L us)[2 * (j + 1) + 1]? = _
        rw [show 2 * (j + 1) = 2 * j + 1 + 1 by omega]
        exact this
theorem getD_old {us : List Value} {u : Value} {j : Nat} (h : j < us.length) : (us ++ [u]).getD j undef = us.getD j undef := by
  rw [List.getD_eq_getElem?_getD, List.getD_eq_getElem?_getD, List.getElem?_append_left h]
theorem getD_new (us : List Value) (u : Value) : (us ++ [u]).getD us.length undef = u := by
  rw [List.getD_eq_getElem?_getD, List.getElem?_append_right (Nat.le_refl _), Nat.sub_self]; rfl
/-- Lines that the call itself made, with taps that it made. -/
def OwnLs (T : TypeId) (w : World) (base : Nat) (v : Value) (L : List (Int × List Int)) : Prop :=
  ∃ us : List Value, us.length = L.length ∧ w.ownsRow base T 2 v L.length (lcells L us) ∧ ∀ j, j < L.length → OwnI .i64 2 w base (us.getD j undef) (lnAt L j).2
theorem OwnLs.nil (T : TypeId) (w : World) (base : Nat) : OwnLs T w base (.slice none 0 0) [] := ⟨[], rfl, World.ownsRow_nil _ _ _ _, fun _ h => absurd h (Nat.not_lt_zero _)⟩
theorem row_kept {T : TypeId} {w w' : World} {base k : Nat} {v : Value} {n : Nat} {xs : List Value} (h : w.ownsRow base T k v n xs) (hb : Below w.heap.size w w') : w'.ownsRow base T k v n xs := by
  refine ⟨h.1, ?_⟩
  rcases h.2 with h2 | ⟨g, cap, cur, hv, hB, hg, r⟩
  · exact .inl h2
  · refine .inr ⟨g, cap, cur, hv, hB, ?_, r⟩
    have hlt : g < w.heap.size := by
      rcases Nat.lt_or_ge g w.heap.size with hlt | hge
      · exact hlt
      · rw [Array.getElem?_eq_none hge] at hg; cases hg
    rw [hb.block g hlt]; exact hg
theorem OwnLs.below {T : TypeId} {w w' : World} {base : Nat} {v : Value} {L : List (Int × List Int)} (h : OwnLs T w base v L) (hb : Below w.heap.size w w') : OwnLs T w' base v L := by
  obtain ⟨us, h1, h2, h3⟩ := h
  exact ⟨us, h1, row_kept h2 hb, fun j hj => (h3 j hj).below hb⟩
theorem own_apart {T T' : TypeId} (hne : T ≠ T') {w : World} {base base' k k' : Nat} {v v' : Value} {n n' : Nat} {xs xs' : List Value} (h : w.ownsRow base T k v n xs) (h' : w.ownsRow base' T' k' v' n' xs') : Apart v v' := by
  intro g hg hg'
  rcases h.2 with ⟨hv, _⟩ | ⟨b, cap, cur, hv, _, hb, _⟩
  · subst hv; cases hg
  · rcases h'.2 with ⟨hv', _⟩ | ⟨b', cap', cur', hv', _, hb', _⟩
    · subst hv'; cases hg'
    · subst hv; subst hv'
      obtain rfl := Option.some.inj hg
      obtain rfl := Option.some.inj hg'
      rw [hb] at hb'
      injection hb' with hb'
      injection hb' with _ ht
      exact hne ht
/-- One line is appended. -/
theorem OwnLs.more {T : TypeId} (hT : 2 ≠ T) {w0 wc w2 : World} {v v' u : Value} {L : List (Int × List Int)} {x : Int × List Int} {o : Obj} (hb : Below w0.heap.size w0 wc) {us : List Value} (hu : us.length = L.length)
    (hown : wc.ownsRow w0.heap.size T 2 v L.length (lcells L us)) (hin : ∀ j, j < L.length → OwnI .i64 2 wc w0.heap.size (us.getD j undef) (lnAt L j).2) (hx : OwnI .i64 2 wc w0.heap.size u x.2)
    (hown' : w2.ownsRow w0.heap.size T 2 v' (L.length + 1) (lcells L us ++ [.int .i64 x.1, u])) (hgrow : (wc.alloc o).grownBy w2 v.ownBlock) :
    OwnLs T w2 w0.heap.size v' (L ++ [x]) ∧ Below w0.heap.size w0 w2 := by
  have hs := hb.size
  refine ⟨⟨us ++ [u], by rw [List.length_append, List.length_append, hu]; rfl, ?_, ?_⟩, (hb.alloc (by omega) o).grown hgrow (by simp; omega) (fun j hj => (World.ownsRow.lt hown j hj).1)⟩
  · rw [lcells_snoc hu, List.length_append]; exact hown'
  · intro j hj
    have K : ∀ {y : Value} {xs : List Int}, OwnI .i64 2 wc w0.heap.size y xs → OwnI .i64 2 w2 w0.heap.size y xs := fun {y xs} hy => OwnI.kept (hy.alloc o) hgrow (own_apart hT (hy.alloc o) (World.ownsRow.alloc hown o))
    rw [List.length_append, List.length_singleton] at hj
    by_cases e : j = L.length
    · subst e
      rw [lnAt_new, show (us ++ [u]).getD L.length undef = u by rw [← hu]; exact getD_new us u]
      exact K hx
    · rw [lnAt_old x (by omega), getD_old (by omega)]
      exact K (hin j (by omega))
/-- As lines that can be read. -/
theorem OwnLs.read {T : TypeId} {w : World} {base : Nat} {v : Value} {L : List (Int × List Int)} (h : OwnLs T w base v L) (h0 : L ≠ []) : ∃ g cap, v = .slice (some ⟨g, 0, none⟩) L.length cap ∧ g < w.heap.size ∧ LinesAt w g L := by
  obtain ⟨us, h1, h2, h3⟩ := h
  have hl : 0 < L.length := List.length_pos_iff.2 h0
  obtain ⟨g, cap, hv, hlt⟩ : ∃ g cap, v = .slice (some ⟨g, 0, none⟩) L.length cap ∧ g < w.heap.size := by
    rcases h2.2 with ⟨_, h0⟩ | ⟨g, cap, cur, hv, _, hg, _⟩
    · omega
    · refine ⟨g, cap, hv, ?_⟩
      rcases Nat.lt_or_ge g w.heap.size with hlt | hge
      · exact hlt
      · rw [Array.getElem?_eq_none hge] at hg; cases hg
  subst hv
  refine ⟨g, cap, rfl, hlt, fun j hj => ?_⟩
  obtain ⟨c1, c2⟩ := lcells_get h1 hj
  have e1 := World.ownsRow.cells h2 (g := g) rfl _ _ c1
  have e2 := World.ownsRow.cells h2 (g := g) rfl _ _ c2
  rw [addr_add, Nat.zero_add] at e1 e2
  rw [Nat.mul_comm 2 j] at e1 e2
  exact ⟨e1, _, e2, (h3 j hj).ret⟩
end Go.Proofs.YtaafhjngnjjcmaaGreatDoor

/- Weights that come to one: the examples, and the law on taps, out of what the program's own calls answer. -/
namespace Go.Proofs.YtaafhjngnjjcmaaGreatDoor
open Go.RowKit


theorem lit3 (w : World) (a b c : Int) (t : TypeId) : RowAt .i64 (w.alloc (.cells #[.int .i64 a, .int .i64 b, .int .i64 c] t)) (some ⟨w.heap.size, 0, none⟩) [a, b, c] := by
  refine Or.inr ⟨w.heap.size, 0, rfl, fun j hj => ?_⟩
  match j, hj with
  | 0, _ => simp
  | 1, _ => simp
  | 2, _ => simp
theorem all64_ex : All64 [536870912, 536870912, 536870912] := by
  intro j hj
  match j, hj with
  | 0, _ => decide
  | 1, _ => decide
  | 2, _ => decide
theorem app_ex : appCode [536870912, 536870912, 536870912] = 0 ∧ appOut [536870912, 536870912, 536870912] = [5462, 5461, 5461] := by decide +kernel
theorem gau_ex : gauCode 65536 = 0 ∧ (gauOut 65536).length = 7 := by
  refine ⟨by decide, ?_⟩
  unfold gauOut
  rw [if_pos (by omega)]
  unfold gaussR
  rw [gaussTo_len]
  decide
theorem tlives {K : World → Prop} (hKB : ∀ w w', K w → Below w.heap.size w w' → K w') (CA : AppC K) (CG : GauC K) (w : World) (hk : K w) :
    Calls Tryz.prog 102 #[] w fun e w' => e = .returned (.bool true) ∧ Below w.heap.size w w' := by
  have C1 := fun (w : World) hk hr => CA [536870912, 536870912, 536870912] (some ⟨w.heap.size, 0, none⟩) 3 (w.alloc (.cells #[.int .i64 536870912, .int .i64 536870912, .int .i64 536870912] 2)) hk hr all64_ex (by decide)
  rw [show [(536870912 : Int), 536870912, 536870912].length = 3 from rfl] at C1
  have C2 := fun w hk => CG 65536 w hk (by omega) (by omega)
  obtain ⟨e1, e2⟩ := app_ex
  obtain ⟨e3, e4⟩ := gau_ex
  rw [e1, e2] at C1
  rw [e3] at C2
  obtain ⟨gs, hgs⟩ : ∃ gs, gauOut 65536 = gs := ⟨_, rfl⟩
  rw [hgs] at C2 e4
  have HE4 := hide e4
  clear e1 e2 e3 hgs CA CG
  go_enter Tryz.func102, Tryz.ntmps102
  go_wp2_with (first
    | (go_at_call 117; (with_reducible refine (C1 _ (hKB _ _ hk (below1 _ _)) (lit3 _ _ _ _ _)).mono ?_); rintro e w1 ⟨v, rfl, ⟨ad, cap, rfl, hr⟩, b1⟩)
    | (go_at_call 118; (with_reducible refine (C2 _ (hKB _ _ hk (bt (below1 _ _) b1))).mono ?_); rintro e w2 ⟨v, rfl, ⟨ad2, cap2, rfl, hr2⟩, b2⟩)
    | (go_at_call 103; (with_reducible refine (same_n 3 [5462, 5461, 5461] rfl _ _ _ _ _ ((hr.below b2).below (below1 _ _)) (lit3 _ _ _ _ _) (by omega)).mono ?_); rintro e w3 ⟨rfl, b3⟩))
  go_ret
  exact ⟨rfl, bt (ba (bt (bt (below1 _ _) b1) b2) _) b3⟩
end Go.Proofs.YtaafhjngnjjcmaaGreatDoor
