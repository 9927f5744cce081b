/- Weights that come to one: the program's calls, whatever comes in. -/
import Derived.Test.YtcfbpilhgnofpaaS06U
import Derived.Test.YtcfbpilhgnofpaaI
namespace Go.Proofs.Ytcfbpilhgnofpaa
open Go.RowKit

theorem apportion_any (xs : List Int) (ad : Option Addr) (cap : Nat) (w : World) (hr : RowAt .i64 w ad xs) (hx : All64 xs) (hl : xs.length ≤ 9223372036854775807) :
    Calls Try.prog 10 #[.slice ad xs.length cap] w fun e w' => ∃ v, e = .returned (.tuple #[v, .int .i64 (appCode xs)]) ∧ Ret .i64 (appOut xs) w' v ∧ Below w.heap.size w w' := by
  by_cases hf : Fits xs
  · have e := appCode_fits.2 hf
    have e2 : appOut xs = appR xs := by unfold appOut; rw [if_pos e]
    rw [e, e2]
    refine (apportion_fits xs ad cap w hr hx hf).mono ?_
    rintro e w1 ⟨v, rfl, o, b⟩
    exact ⟨v, rfl, o.ret, b⟩
  · have e : appCode xs ≠ 0 := fun g => hf (appCode_fits.1 g)
    have e2 : appOut xs = [] := by unfold appOut; rw [if_neg e]
    rw [e2]
    have HR := hide hr
    have CS := fun w hr => tsum_any xs ad cap w hr hx hl
    by_cases hb : badB xs = true
    · have e3 : appCode xs = 7 := by unfold appCode; rw [if_pos hb]
      rw [e3]
      have CB := fun w hr => bounded_any xs ad cap w hr hx hl false (by rw [hb]; rfl)
      clear hr hx CS hf e e2 e3 hb
      generalize xs.length = n at *
      go_enter Try.func10, Try.ntmps10
      go_wp2_with (go_at_call 23; (with_reducible refine (CB _ HR.out).mono ?_); rintro e w1 ⟨rfl, rfl⟩)
      exact bodyPost_ret (v := .tuple #[.slice none 0 0, .int .i64 7]) (by simp [results, Try.results10, go_sem]) rfl ⟨_, rfl, ret_nil _ _ _ _, Below.refl _ _⟩
    · have hb' : badB xs = false := by
        cases h : badB xs with
        | true => exact absurd h hb
        | false => rfl
      have h3 : sumH xs < 268435456 := by
        by_cases q : sumH xs < 268435456
        · exact q
        · have nb : ¬ (xs.length < 1 ∨ 1048576 < xs.length ∨ ¬ ∀ x ∈ xs, smallW x) := fun q => hb ((badB_iff xs).2 q)
          refine absurd ⟨?_, ?_, ?_, by omega⟩ hf
          · by_cases q : xs.length < 1
            · exact absurd (Or.inl q) nb
            · omega
          · by_cases q : 1048576 < xs.length
            · exact absurd (Or.inr (Or.inl q)) nb
            · omega
          · exact Classical.byContradiction fun q => nb (Or.inr (Or.inr q))
      have e3 : appCode xs = 8 := by unfold appCode; rw [if_neg hb, if_pos h3]
      rw [e3]
      have CB := fun w hr => bounded_any xs ad cap w hr hx hl true (by rw [hb']; rfl)
      obtain ⟨s0, s1⟩ := sumH_in xs
      generalize sumH xs = s at *
      clear hr hx hf e e2 e3 hb hb'
      generalize xs.length = n at *
      go_enter Try.func10, Try.ntmps10
      go_wp2_with (first
        | (go_at_call 23; (with_reducible refine (CB _ HR.out).mono ?_); rintro e w1 ⟨rfl, rfl⟩)
        | (go_at_call 13; (with_reducible refine (CS _ HR.out).mono ?_); rintro e w1 ⟨rfl, rfl⟩))
      exact bodyPost_ret (v := .tuple #[.slice none 0 0, .int .i64 8]) (by simp [results, Try.results10, go_sem]) rfl ⟨_, rfl, ret_nil _ _ _ _, Below.refl _ _⟩
theorem user_any (xs : List Int) (ad : Option Addr) (cap : Nat) (w : World) (hr : RowAt .i64 w ad xs) (hx : All64 xs) (hl : xs.length ≤ 9223372036854775807) :
    Calls Try.prog 17 #[.slice ad xs.length cap] w fun e w' => ∃ v, e = .returned (.tuple #[v, .int .i64 (userCode xs)]) ∧ Ret .i64 (userOut xs) w' v ∧ Below w.heap.size w w' := by
  unfold userCode userOut
  by_cases hu : userB xs = true
  · rw [if_pos hu, if_pos hu]
    refine (user_ok xs ad cap w hr hx ((userB_iff xs).1 hu)).mono ?_
    rintro e w1 ⟨v, rfl, o, b⟩
    exact ⟨v, rfl, o.ret, b⟩
  · rw [if_neg hu, if_neg hu]
    refine (user_bad xs ad cap w hr hx hl (fun q => hu ((userB_iff xs).2 q))).mono ?_
    rintro e w1 ⟨rfl, b⟩
    exact ⟨_, rfl, ret_nil _ _ _ _, b⟩
theorem gaussian_any (s : Int) (w : World) :
    Calls Try.prog 19 #[.int .i64 s] w fun e w' => ∃ v, e = .returned (.tuple #[v, .int .i64 (gauCode s)]) ∧ Ret .i64 (gauOut s) w' v ∧ Below w.heap.size w w' := by
  unfold gauCode gauOut
  by_cases h : 1 ≤ s ∧ s ≤ 4194304
  · rw [if_pos h, if_pos h]
    refine (gaussian_ok s h.1 h.2 w).mono ?_
    rintro e w1 ⟨v, rfl, o, b⟩
    exact ⟨v, rfl, o.ret, b⟩
  · rw [if_neg h, if_neg h]
    refine (gaussian_bad s (by omega) w).mono ?_
    rintro e w1 ⟨rfl, b⟩
    exact ⟨_, rfl, ret_nil _ _ _ _, b⟩
theorem bitsmul_one (m : Nat) (h : m < 18446744073709551616) (w : World) :
    Calls Try.prog 62 #[.int .u64 1, .int .u64 (m : Int)] w fun e w' => e = .returned (.tuple #[.int .u64 0, .int .u64 (m : Int)]) ∧ w = w' := by
  have C : ∀ w : World, Calls Try.prog 71 #[.int .u64 1, .int .u64 (m : Int)] w fun e w' => e = .returned (.tuple #[.int .u64 0, .int .u64 (m : Int)]) ∧ w = w' := fun w => by
    have := mul64_any 1 m (by omega) h w
    rw [Nat.one_mul, Nat.mod_eq_of_lt h, Nat.div_eq_of_lt h] at this
    exact this
  go_enter Try.func62, Try.ntmps62
  go_wp2_with (go_at_call 71; (with_reducible refine (C _).mono ?_); rintro e w1 ⟨rfl, rfl⟩)
  exact bodyPost_ret (v := .tuple #[.int .u64 0, .int .u64 (m : Int)]) (by simp [results, Try.results62, go_sem]) rfl ⟨rfl, rfl⟩
/-- So many ones, the rest nought. -/
def onesZ (c m : Nat) : List Value := List.replicate c (.int .i64 1) ++ List.replicate (m - c) (.int .i64 0)
theorem onesZ_len {c m : Nat} (h : c ≤ m) : (onesZ c m).length = m := by unfold onesZ; rw [List.length_append, List.length_replicate, List.length_replicate]; omega
theorem onesZ_get {c m j : Nat} (h : j < c) : (onesZ c m)[j]? = some (.int .i64 1) := by
  unfold onesZ
  rw [List.getElem?_append_left (by rw [List.length_replicate]; exact h), List.getElem?_replicate, if_pos h]
theorem onesZ_more {c m d : Nat} (h : c + d ≤ m) : splice (onesZ c m) c (List.replicate d (.int .i64 1)) = onesZ (c + d) m := by
  unfold splice onesZ
  rw [List.length_replicate, List.take_left' (by rw [List.length_replicate]), List.drop_append, List.length_replicate, List.drop_of_length_le (by rw [List.length_replicate]; omega), List.nil_append, List.drop_replicate, ← List.append_assoc, List.replicate_append_replicate]
  congr 2
  omega
theorem onesZ_all (m : Nat) : onesZ m m = (List.replicate m (1 : Int)).map (Value.int .i64) := by unfold onesZ; simp
theorem infoSzV : (Try.prog.info? 2).map (·.size) = some 1 := by kernel_rfl
theorem bdG {B : Nat} {a w : World} (h : Below B a w) : Below B a w.drew := h.trans ⟨rfl, rfl, rfl, Nat.le_refl _, fun _ _ => rfl⟩
set_option maxHeartbeats 4000000 in
set_option maxRecDepth 1000000 in
theorem repeat_one (m : Nat) (m0 : 1 ≤ m) (m1 : m ≤ 2000) (k : Nat) (w : World) (hc : w.cell? ⟨k, 0, none⟩ = some (.int .i64 1)) :
    Calls Try.prog 36 #[.slice (some ⟨k, 0, none⟩) 1 1, .int .i64 (m : Int)] w fun e w' => ∃ v, e = .returned v ∧ OwnI .i64 2 w' w.heap.size v (List.replicate m 1) ∧ Below w.heap.size w w' := by
  have CM := fun w => bitsmul_one m (by omega) w
  obtain ⟨zs, MK, _, MZ⟩ := make64 m (by omega)
  have hsz := infoSzV
  have HC := hide hc
  have kl := cell_ltL hc
  have HW := hide (show (w.alloc (.cells zs 2)).heap[w.heap.size]? = some (.cells (onesZ 0 m).toArray 2 (0, 0)) by
    have e : zs = (onesZ 0 m).toArray := by
      apply Array.toList_inj.1
      rw [MZ]; unfold onesZ; simp
    rw [← e]; exact heap_alloc_new w _)
  have HC1 := hide (show (w.alloc (.cells zs 2)).cell? ⟨k, 0, none⟩ = some (.int .i64 1) from cb (ba (Below.refl _ _) _) kl hc)
  have HS := hide hsz
  obtain ⟨w2, hrun, hg2, hb2⟩ := copy_run (P := Try.prog) (w.alloc (.cells zs 2)) 22 22 3 2 Try.underlying22 hsz w.heap.size 0 m m ⟨k, 0, none⟩ 1 1 (onesZ 0 m) 2 [.int .i64 1] 1 HW.out rfl (show 1 = min 1 m by omega) (fun j v hj => by
    match j, hj with
    | 0, hj => simp at hj; subst hj; exact HC1.out) (by rw [onesZ_len (Nat.zero_le _)]; omega) (one_int _ _) w.heap.size (Nat.le_refl _)
  have hg2' : w2.heap[w.heap.size]? = some (.cells (onesZ 1 m).toArray 2 (0, 0)) := by
    rw [hg2]
    have := onesZ_more (c := 0) (d := 1) (m := m) (by omega)
    rw [List.replicate_one, Nat.zero_add] at this
    rw [this]
  have hb2' : Below w.heap.size w w2 := (ba (Below.refl _ _) _).trans hb2
  have HG2 := hide hg2'
  have HB2 := hide hb2'
  clear MZ hc hsz hg2 hg2' hb2 hb2' HC HC1 kl
  go_enter Try.func36, Try.ntmps36
  go_wp2_with (go_at_call 62; (with_reducible refine (CM _).mono ?_); rintro e w1 ⟨rfl, rfl⟩)
  clear hrun CM MK HW
  obtain ⟨g, hg⟩ : ∃ g, w.heap.size = g := ⟨_, rfl⟩
  have HGE := hide hg
  rw [hg] at HG2 HB2 ⊢
  clear hg
  go_loopw [8] (fun u wr => ∃ c : Nat, 1 ≤ c ∧ c ≤ m ∧ u = .int .i64 (c : Int) ∧ Hid (wr.heap[g]? = some (.cells (onesZ c m).toArray 2 (0, 0))) ∧ Below g w wr) (fun u _ => m - (intOf u).toNat)
  case atStart => exact ⟨1, by omega, by omega, rfl, HG2, HB2.out⟩
  case round =>
    obtain ⟨c, c0, c1, rfl, HG, hb⟩ := hrel
    have HB := hide hb
    clear hb HG2 HB2
    by_cases hlt : c < m
    · obtain ⟨d, hd⟩ : ∃ d, min c (m - c) = d := ⟨_, rfl⟩
      have d0 : 1 ≤ d := by omega
      have d1 : c + d ≤ m := by omega
      have d2 : d ≤ c := by omega
      obtain ⟨w3, hrun, hg3, hb3⟩ := copy_run (P := Try.prog) wr.drew 22 22 3 2 Try.underlying22 HS.out g c (m - c) (m - c) ⟨g, 0, none⟩ c m (onesZ c m) 2 (List.replicate d (.int .i64 1)) d HG.out List.length_replicate (show d = Nat.min c (m - c) from hd.symm) (fun j v hj => by
        rw [List.getElem?_replicate] at hj
        by_cases h : j < d
        · rw [if_pos h] at hj
          obtain rfl := Option.some.inj hj
          rw [addr_add, Nat.zero_add]
          have e : wr.drew.heap[g]? = some (.cells (onesZ c m).toArray 2 (0, 0)) := HG.out
          unfold World.cell?
          simp only [e, List.getElem?_toArray]
          exact onesZ_get (by omega)
        · rw [if_neg h] at hj; cases hj) (by rw [onesZ_len c1]; omega) (fun v hv => by obtain rfl := List.eq_of_mem_replicate hv; rfl) g (Nat.le_refl _)
      rw [onesZ_more d1] at hg3
      have HG3 := hide hg3
      have HB3 := hide (Below.trans (bdG HB.out) hb3)
      have hmc : ¬ m = c := by omega
      have HD := hide hd
      clear hg3 hb3 hd HG HB
      go_wp2_with fail
      go_region
      go_wp2
      go_roundw
      case rel => exact ⟨c + d, by omega, d1, by go_num, HG3, HB3.out⟩
      case measure => simp [intOf]; omega
    · obtain rfl : c = m := by omega
      have e := HG.out
      rw [onesZ_all] at e
      have HO := hide (OwnI.of_block (base := w.heap.size) e List.length_replicate (by rw [HGE.out]; exact Nat.le_refl _) (by unfold maxLen; omega))
      have HBW := hide (show Below w.heap.size w wr by rw [HGE.out]; exact HB.out)
      clear HG e HB
      go_wp2
      go_ret
      exact ⟨_, rfl, HO.out, HBW.out⟩
theorem blur_bad (r : Int) (h : r < 0 ∨ 511 < r) (w : World) :
    Calls Try.prog 21 #[.int .i64 r] w fun e w' => e = .returned (.tuple #[.slice none 0 0, .int .i64 7]) ∧ Below w.heap.size w w' := by
  rcases h with h | h
  · go_enter Try.func21, Try.ntmps21
    go_wp2
    exact bodyPost_ret (v := .tuple #[.slice none 0 0, .int .i64 7]) (by simp [results, Try.results21, go_sem]) rfl ⟨rfl, Below.refl _ _⟩
  · have h2 : decide (r < 0) = false := decide_eq_false (by omega)
    go_enter Try.func21, Try.ntmps21
    go_wp2
    exact bodyPost_ret (v := .tuple #[.slice none 0 0, .int .i64 7]) (by simp [results, Try.results21, go_sem]) rfl ⟨rfl, Below.refl _ _⟩
set_option maxHeartbeats 4000000 in
set_option maxRecDepth 1000000 in
theorem blur_ok (r : Nat) (h : r ≤ 511) (w : World) :
    Calls Try.prog 21 #[.int .i64 (r : Int)] w fun e w' => ∃ v, e = .returned (.tuple #[v, .int .i64 0]) ∧ OwnI .i64 2 w' w.heap.size v (userR (List.replicate (2 * r + 1) 1)) ∧ Below w.heap.size w w' := by
  obtain ⟨us, hus⟩ : ∃ us, us = userR (List.replicate (2 * r + 1) 1) := ⟨_, rfl⟩
  have HUS := hide hus
  rw [← hus]
  obtain ⟨m, hm⟩ : ∃ m, 2 * r + 1 = m := ⟨_, rfl⟩
  have hm' : 2 * (r : Int) + 1 = (m : Int) := by omega
  have CR := fun k w hc => repeat_one m (by omega) (by omega) k w hc
  have CU := fun w ad cap hr => user_ok (List.replicate m 1) ad cap w hr (ones_64 m) (by rw [← hm]; exact ones_user r h)
  rw [List.length_replicate] at CU
  rw [← show us = userR (List.replicate m 1) by rw [hus, hm]] at CU
  have m1 : m ≤ 1023 := by omega
  have HM := hide hm
  clear hus hm
  go_enter Try.func21, Try.ntmps21
  go_wp2_with (first
    | (go_at_call 36; (with_reducible refine (CR _ _ (by simp)).mono ?_); rintro e w2 ⟨v, rfl, hov, b2⟩; obtain ⟨ad, cap, rfl, hrow, _⟩ := hov.formn List.length_replicate; have HRW := hide hrow; clear hov hrow)
    | (go_at_call 17; (with_reducible refine (CU _ _ _ HRW.out).mono ?_); rintro e w3 ⟨v, rfl, hov, b3⟩))
  have B3 := bt (bt (ba (Below.refl w.heap.size w) _) b2) b3
  have O3 := hov.mono (bt (ba (Below.refl w.heap.size w) _) b2).size
  exact bodyPost_ret (v := .tuple #[v, .int .i64 0]) (by simp [results, Try.results21, go_sem]) rfl ⟨_, rfl, O3, B3⟩
theorem blur_any (r : Int) (w : World) :
    Calls Try.prog 21 #[.int .i64 r] w fun e w' => ∃ v, e = .returned (.tuple #[v, .int .i64 (blurCode r)]) ∧ Ret .i64 (blurOut r) w' v ∧ Below w.heap.size w w' := by
  unfold blurCode blurOut
  by_cases h : 0 ≤ r ∧ r ≤ 511
  · rw [if_pos h, if_pos h]
    obtain ⟨n, rfl⟩ : ∃ n : Nat, r = (n : Int) := ⟨r.toNat, by omega⟩
    refine (blur_ok n (by omega) w).mono ?_
    rintro e w1 ⟨v, rfl, o, b⟩
    exact ⟨v, rfl, o.ret, b⟩
  · rw [if_neg h, if_neg h]
    refine (blur_bad r (by omega) w).mono ?_
    rintro e w1 ⟨rfl, b⟩
    exact ⟨_, rfl, ret_nil _ _ _ _, b⟩
theorem app_c : AppC (fun _ => True) := fun xs ad cap w _ hr hx hl => apportion_any xs ad cap w hr hx hl
theorem user_c : UserC (fun _ => True) := fun xs ad cap w _ hr hx hl => user_any xs ad cap w hr hx hl
theorem gau_c : GauC (fun _ => True) := fun s w _ _ _ => gaussian_any s w
theorem blur_c : BlurC (fun _ => True) := fun r w _ _ _ => blur_any r w
theorem sum_c : SumC (fun _ => True) := fun xs ad cap w _ hr hx hl => (tsum_any xs ad cap w hr hx hl).mono fun e w' ⟨h, hw⟩ => ⟨h, by rw [← hw]; exact Below.refl _ _⟩
theorem size_c : SizeC (fun _ => True) := fun xs ad cap w _ hr hx hl => (tsize_any xs ad cap w hr hx hl).mono fun e w' ⟨h, hw⟩ => ⟨h, by rw [← hw]; exact Below.refl _ _⟩
theorem all_true : ∀ w w' : World, (fun _ : World => True) w → Below w.heap.size w w' → (fun _ : World => True) w' := fun _ _ _ _ => trivial
end Go.Proofs.Ytcfbpilhgnofpaa
