/- Parts, joined. -/
import Derived.Test.YtdpkigdfhfippaaGreatDoorJ27
import Derived.Test.YtdpkigdfhfippaaGreatDoorJ05
import Derived.Test.YtdpkigdfhfippaaGreatDoorJ20
import Derived.Test.YtdpkigdfhfippaaGreatDoorJ19
import Derived.Test.YtdpkigdfhfippaaGreatDoorJ17
import Derived.Test.YtdpkigdfhfippaaGreatDoorJ25
/- Weights that come to one: the program's calls, whatever comes in. -/
namespace Go.Proofs.YtdpkigdfhfippaaGreatDoor
open Go.RowKit


theorem apportion_any (xs : List Int) (ad : Option Addr) (cap : Nat) (w : World) (hr : RowAt .i64 w ad xs) (hx : All64 xs) (hl : xs.length ≤ 9223372036854775807) :
    Calls Tryz.prog 66 #[.slice ad xs.length cap] w fun e w' => ∃ v, e = .returned (.tuple #[v, .int .i64 (appCode xs)]) ∧ Ret .i64 (appOut xs) w' v ∧ Below w.heap.size w w' := by
  by_cases hf : Fits xs
  · have e := appCode_fits.2 hf
    have e2 : appOut xs = appR xs := by unfold appOut; rw [if_pos e]
    rw [e, e2]
    refine (apportion_fits xs ad cap w hr hx hf).mono ?_
    rintro e w1 ⟨v, rfl, o, b⟩
    exact ⟨v, rfl, o.ret, b⟩
  · have e : appCode xs ≠ 0 := fun g => hf (appCode_fits.1 g)
    have e2 : appOut xs = [] := by unfold appOut; rw [if_neg e]
    rw [e2]
    have HR := hide hr
    have CS := fun w hr => tsum_any xs ad cap w hr hx hl
    by_cases hb : badB xs = true
    · have e3 : appCode xs = 7 := by unfold appCode; rw [if_pos hb]
      rw [e3]
      have CB := fun w hr => bounded_any xs ad cap w hr hx hl false (by rw [hb]; rfl)
      clear hr hx CS hf e e2 e3 hb
      generalize xs.length = n at *
      go_enter Tryz.func66, Tryz.ntmps66
      go_wp2_with (go_at_call 88; (with_reducible refine (CB _ HR.out).mono ?_); rintro e w1 ⟨rfl, rfl⟩)
      exact bodyPost_ret (v := .tuple #[.slice none 0 0, .int .i64 7]) (by simp [results, Tryz.results66, go_sem]) rfl ⟨_, rfl, ret_nil _ _ _ _, Below.refl _ _⟩
    · have hb' : badB xs = false := by
        cases h : badB xs with
        | true => exact absurd h hb
        | false => rfl
      have h3 : sumH xs < 268435456 := by
        by_cases q : sumH xs < 268435456
        · exact q
        · have nb : ¬ (xs.length < 1 ∨ 1048576 < xs.length ∨ ¬ ∀ x ∈ xs, smallW x) := fun q => hb ((badB_iff xs).2 q)
          refine absurd ⟨?_, ?_, ?_, by omega⟩ hf
          · by_cases q : xs.length < 1
            · exact absurd (Or.inl q) nb
            · omega
          · by_cases q : 1048576 < xs.length
            · exact absurd (Or.inr (Or.inl q)) nb
            · omega
          · exact Classical.byContradiction fun q => nb (Or.inr (Or.inr q))
      have e3 : appCode xs = 8 := by unfold appCode; rw [if_neg hb, if_pos h3]
      rw [e3]
      have CB := fun w hr => bounded_any xs ad cap w hr hx hl true (by rw [hb']; rfl)
      obtain ⟨s0, s1⟩ := sumH_in xs
      generalize sumH xs = s at *
      clear hr hx hf e e2 e3 hb hb'
      generalize xs.length = n at *
      go_enter Tryz.func66, Tryz.ntmps66
      go_wp2_with (first
        | (go_at_call 88; (with_reducible refine (CB _ HR.out).mono ?_); rintro e w1 ⟨rfl, rfl⟩)
        | (go_at_call 89; (with_reducible refine (CS _ HR.out).mono ?_); rintro e w1 ⟨rfl, rfl⟩))
      exact bodyPost_ret (v := .tuple #[.slice none 0 0, .int .i64 8]) (by simp [results, Tryz.results66, go_sem]) rfl ⟨_, rfl, ret_nil _ _ _ _, Below.refl _ _⟩
theorem user_any (xs : List Int) (ad : Option Addr) (cap : Nat) (w : World) (hr : RowAt .i64 w ad xs) (hx : All64 xs) (hl : xs.length ≤ 9223372036854775807) :
    Calls Tryz.prog 70 #[.slice ad xs.length cap] w fun e w' => ∃ v, e = .returned (.tuple #[v, .int .i64 (userCode xs)]) ∧ Ret .i64 (userOut xs) w' v ∧ Below w.heap.size w w' := by
  unfold userCode userOut
  by_cases hu : userB xs = true
  · rw [if_pos hu, if_pos hu]
    refine (user_ok xs ad cap w hr hx ((userB_iff xs).1 hu)).mono ?_
    rintro e w1 ⟨v, rfl, o, b⟩
    exact ⟨v, rfl, o.ret, b⟩
  · rw [if_neg hu, if_neg hu]
    refine (user_bad xs ad cap w hr hx hl (fun q => hu ((userB_iff xs).2 q))).mono ?_
    rintro e w1 ⟨rfl, b⟩
    exact ⟨_, rfl, ret_nil _ _ _ _, b⟩
theorem gaussian_any (s : Int) (w : World) :
    Calls Tryz.prog 68 #[.int .i64 s] w fun e w' => ∃ v, e = .returned (.tuple #[v, .int .i64 (gauCode s)]) ∧ Ret .i64 (gauOut s) w' v ∧ Below w.heap.size w w' := by
  unfold gauCode gauOut
  by_cases h : 1 ≤ s ∧ s ≤ 4194304
  · rw [if_pos h, if_pos h]
    refine (gaussian_ok s h.1 h.2 w).mono ?_
    rintro e w1 ⟨v, rfl, o, b⟩
    exact ⟨v, rfl, o.ret, b⟩
  · rw [if_neg h, if_neg h]
    refine (gaussian_bad s (by omega) w).mono ?_
    rintro e w1 ⟨rfl, b⟩
    exact ⟨_, rfl, ret_nil _ _ _ _, b⟩
theorem bitsmul_one (m : Nat) (h : m < 18446744073709551616) (w : World) :
    Calls Tryz.prog 123 #[.int .u64 1, .int .u64 (m : Int)] w fun e w' => e = .returned (.tuple #[.int .u64 0, .int .u64 (m : Int)]) ∧ w = w' := by
  have C : ∀ w : World, Calls Tryz.prog 142 #[.int .u64 1, .int .u64 (m : Int)] w fun e w' => e = .returned (.tuple #[.int .u64 0, .int .u64 (m : Int)]) ∧ w = w' := fun w => by
    have := mul64_any 1 m (by omega) h w
    rw [Nat.one_mul, Nat.mod_eq_of_lt h, Nat.div_eq_of_lt h] at this
    exact this
  go_enter Tryz.func123, Tryz.ntmps123
  go_wp2_with (go_at_call 142; (with_reducible refine (C _).mono ?_); rintro e w1 ⟨rfl, rfl⟩)
  exact bodyPost_ret (v := .tuple #[.int .u64 0, .int .u64 (m : Int)]) (by simp [results, Tryz.results123, go_sem]) rfl ⟨rfl, rfl⟩
/-- So many ones, the rest nought. -/
def onesZ (c m : Nat) : List Value := List.replicate c (.int .i64 1) ++ List.replicate (m - c) (.int .i64 0)
theorem onesZ_len {c m : Nat} (h : c ≤ m) : (onesZ c m).length = m := by unfold onesZ; rw [List.length_append, List.length_replicate, List.length_replicate]; omega
theorem onesZ_get {c m j : Nat} (h : j < c) : (onesZ c m)[j]? = some (.int .i64 1) := by
  unfold onesZ
  rw [List.getElem?_append_left (by rw [List.length_replicate]; exact h), List.getElem?_replicate, if_pos h]
theorem onesZ_more {c m d : Nat} (h : c + d ≤ m) : splice (onesZ c m) c (List.replicate d (.int .i64 1)) = onesZ (c + d) m := by
  unfold splice onesZ
  rw [List.length_replicate, List.take_left' (by rw [List.length_replicate]), List.drop_append, List.length_replicate, List.drop_of_length_le (by rw [List.length_replicate]; omega), List.nil_append, List.drop_replicate, ← List.append_assoc, List.replicate_append_replicate]
  congr 2
  omega
theorem onesZ_all (m : Nat) : onesZ m m = (List.replicate m (1 : Int)).map (Value.int .i64) := by unfold onesZ; simp
theorem infoSzV : (Tryz.prog.info? 2).map (·.size) = some 1 := by kernel_rfl
theorem bdG {B : Nat} {a w : World} (h : Below B a w) : Below B a w.drew := h.trans ⟨rfl, rfl, rfl, Nat.le_refl _, fun _ _ => rfl⟩
set_option maxHeartbeats 4000000 in
set_option maxRecDepth 1000000 in
theorem repeat_one (m : Nat) (m0 : 1 ≤ m) (m1 : m ≤ 2000) (k : Nat) (w : World) (hc : w.cell? ⟨k, 0, none⟩ = some (.int .i64 1)) :
    Calls Tryz.prog 96 #[.slice (some ⟨k, 0, none⟩) 1 1, .int .i64 (m : Int)] w fun e w' => ∃ v, e = .returned v ∧ OwnI .i64 2 w' w.heap.size v (List.replicate m 1) ∧ Below w.heap.size w w' := by
  have CM := fun w => bitsmul_one m (by omega) w
  obtain ⟨zs, MK, _, MZ⟩ := make64 m (by omega)
  have hsz := infoSzV
  have HC := hide hc
  have kl := cell_ltL hc
  have HW := hide (show (w.alloc (.cells zs 2)).heap[w.heap.size]? = some (.cells (onesZ 0 m).toArray 2 (0, 0)) by
    have e : zs = (onesZ 0 m).toArray := by
      apply Array.toList_inj.1
      rw [MZ]; unfold onesZ; simp
    rw [← e]; exact heap_alloc_new w _)
  have HC1 := hide (show (w.alloc (.cells zs 2)).cell? ⟨k, 0, none⟩ = some (.int .i64 1) from cb (ba (Below.refl _ _) _) kl hc)
  have HS := hide hsz
  obtain ⟨w2, hrun, hg2, hb2⟩ := copy_run (P := Tryz.prog) (w.alloc (.cells zs 2)) 24 24 3 2 Tryz.underlying24 hsz w.heap.size 0 m m ⟨k, 0, none⟩ 1 1 (onesZ 0 m) 2 [.int .i64 1] 1 HW.out rfl (show 1 = min 1 m by omega) (fun j v hj => by
    match j, hj with
    | 0, hj => simp at hj; subst hj; exact HC1.out) (by rw [onesZ_len (Nat.zero_le _)]; omega) (one_int _ _) w.heap.size (Nat.le_refl _)
  have hg2' : w2.heap[w.heap.size]? = some (.cells (onesZ 1 m).toArray 2 (0, 0)) := by
    rw [hg2]
    have := onesZ_more (c := 0) (d := 1) (m := m) (by omega)
    rw [List.replicate_one, Nat.zero_add] at this
    rw [this]
  have hb2' : Below w.heap.size w w2 := (ba (Below.refl _ _) _).trans hb2
  have HG2 := hide hg2'
  have HB2 := hide hb2'
  clear MZ hc hsz hg2 hg2' hb2 hb2' HC HC1 kl
  go_enter Tryz.func96, Tryz.ntmps96
  go_wp2_with (go_at_call 123; (with_reducible refine (CM _).mono ?_); rintro e w1 ⟨rfl, rfl⟩)
  clear hrun CM MK HW
  obtain ⟨g, hg⟩ : ∃ g, w.heap.size = g := ⟨_, rfl⟩
  have HGE := hide hg
  rw [hg] at HG2 HB2 ⊢
  clear hg
  go_loopw [8] (fun u wr => ∃ c : Nat, 1 ≤ c ∧ c ≤ m ∧ u = .int .i64 (c : Int) ∧ Hid (wr.heap[g]? = some (.cells (onesZ c m).toArray 2 (0, 0))) ∧ Below g w wr) (fun u _ => m - (intOf u).toNat)
  case atStart => exact ⟨1, by omega, by omega, rfl, HG2, HB2.out⟩
  case round =>
    obtain ⟨c, c0, c1, rfl, HG, hb⟩ := hrel
    have HB := hide hb
    clear hb HG2 HB2
    by_cases hlt : c < m
    · obtain ⟨d, hd⟩ : ∃ d, min c (m - c) = d := ⟨_, rfl⟩
      have d0 : 1 ≤ d := by omega
      have d1 : c + d ≤ m := by omega
      have d2 : d ≤ c := by omega
      obtain ⟨w3, hrun, hg3, hb3⟩ := copy_run (P := Tryz.prog) wr.drew 24 24 3 2 Tryz.underlying24 HS.out g c (m - c) (m - c) ⟨g, 0, none⟩ c m (onesZ c m) 2 (List.replicate d (.int .i64 1)) d HG.out List.length_replicate (show d = Nat.min c (m - c) from hd.symm) (fun j v hj => by
        rw [List.getElem?_replicate] at hj
        by_cases h : j < d
        · rw [if_pos h] at hj
          obtain rfl := Option.some.inj hj
          rw [addr_add, Nat.zero_add]
          have e : wr.drew.heap[g]? = some (.cells (onesZ c m).toArray 2 (0, 0)) := HG.out
          unfold World.cell?
          simp only [e, List.getElem?_toArray]
          exact onesZ_get (by omega)
        · rw [if_neg h] at hj; cases hj) (by rw [onesZ_len c1]; omega) (fun v hv => by obtain rfl := List.eq_of_mem_replicate hv; rfl) g (Nat.le_refl _)
      rw [onesZ_more d1] at hg3
      have HG3 := hide hg3
      have HB3 := hide (Below.trans (bdG HB.out) hb3)
      have hmc : ¬ m = c := by omega
      have HD := hide hd
      clear hg3 hb3 hd HG HB
      go_wp2_with fail
      go_region
      go_wp2
      go_roundw
      case rel => exact ⟨c + d, by omega, d1, by go_num, HG3, HB3.out⟩
      case measure => simp [intOf]; omega
    · obtain rfl : c = m := by omega
      have e := HG.out
      rw [onesZ_all] at e
      have HO := hide (OwnI.of_block (base := w.heap.size) e List.length_replicate (by rw [HGE.out]; exact Nat.le_refl _) (by unfold maxLen; omega))
      have HBW := hide (show Below w.heap.size w wr by rw [HGE.out]; exact HB.out)
      clear HG e HB
      go_wp2
      go_ret
      exact ⟨_, rfl, HO.out, HBW.out⟩
theorem blur_bad (r : Int) (h : r < 0 ∨ 511 < r) (w : World) :
    Calls Tryz.prog 69 #[.int .i64 r] w fun e w' => e = .returned (.tuple #[.slice none 0 0, .int .i64 7]) ∧ Below w.heap.size w w' := by
  rcases h with h | h
  · go_enter Tryz.func69, Tryz.ntmps69
    go_wp2
    exact bodyPost_ret (v := .tuple #[.slice none 0 0, .int .i64 7]) (by simp [results, Tryz.results69, go_sem]) rfl ⟨rfl, Below.refl _ _⟩
  · have h2 : decide (r < 0) = false := decide_eq_false (by omega)
    go_enter Tryz.func69, Tryz.ntmps69
    go_wp2
    exact bodyPost_ret (v := .tuple #[.slice none 0 0, .int .i64 7]) (by simp [results, Tryz.results69, go_sem]) rfl ⟨rfl, Below.refl _ _⟩
set_option maxHeartbeats 4000000 in
set_option maxRecDepth 1000000 in
theorem blur_ok (r : Nat) (h : r ≤ 511) (w : World) :
    Calls Tryz.prog 69 #[.int .i64 (r : Int)] w fun e w' => ∃ v, e = .returned (.tuple #[v, .int .i64 0]) ∧ OwnI .i64 2 w' w.heap.size v (userR (List.replicate (2 * r + 1) 1)) ∧ Below w.heap.size w w' := by
  obtain ⟨us, hus⟩ : ∃ us, us = userR (List.replicate (2 * r + 1) 1) := ⟨_, rfl⟩
  have HUS := hide hus
  rw [← hus]
  obtain ⟨m, hm⟩ : ∃ m, 2 * r + 1 = m := ⟨_, rfl⟩
  have hm' : 2 * (r : Int) + 1 = (m : Int) := by omega
  have CR := fun k w hc => repeat_one m (by omega) (by omega) k w hc
  have CU := fun w ad cap hr => user_ok (List.replicate m 1) ad cap w hr (ones_64 m) (by rw [← hm]; exact ones_user r h)
  rw [List.length_replicate] at CU
  rw [← show us = userR (List.replicate m 1) by rw [hus, hm]] at CU
  have m1 : m ≤ 1023 := by omega
  have HM := hide hm
  clear hus hm
  go_enter Tryz.func69, Tryz.ntmps69
  go_wp2_with (first
    | (go_at_call 96; (with_reducible refine (CR _ _ (by simp)).mono ?_); rintro e w2 ⟨v, rfl, hov, b2⟩; obtain ⟨ad, cap, rfl, hrow, _⟩ := hov.formn List.length_replicate; have HRW := hide hrow; clear hov hrow)
    | (go_at_call 70; (with_reducible refine (CU _ _ _ HRW.out).mono ?_); rintro e w3 ⟨v, rfl, hov, b3⟩))
  have B3 := bt (bt (ba (Below.refl w.heap.size w) _) b2) b3
  have O3 := hov.mono (bt (ba (Below.refl w.heap.size w) _) b2).size
  exact bodyPost_ret (v := .tuple #[v, .int .i64 0]) (by simp [results, Tryz.results69, go_sem]) rfl ⟨_, rfl, O3, B3⟩
theorem blur_any (r : Int) (w : World) :
    Calls Tryz.prog 69 #[.int .i64 r] w fun e w' => ∃ v, e = .returned (.tuple #[v, .int .i64 (blurCode r)]) ∧ Ret .i64 (blurOut r) w' v ∧ Below w.heap.size w w' := by
  unfold blurCode blurOut
  by_cases h : 0 ≤ r ∧ r ≤ 511
  · rw [if_pos h, if_pos h]
    obtain ⟨n, rfl⟩ : ∃ n : Nat, r = (n : Int) := ⟨r.toNat, by omega⟩
    refine (blur_ok n (by omega) w).mono ?_
    rintro e w1 ⟨v, rfl, o, b⟩
    exact ⟨v, rfl, o.ret, b⟩
  · rw [if_neg h, if_neg h]
    refine (blur_bad r (by omega) w).mono ?_
    rintro e w1 ⟨rfl, b⟩
    exact ⟨_, rfl, ret_nil _ _ _ _, b⟩
end Go.Proofs.YtdpkigdfhfippaaGreatDoor

/- The laws of stage 5, where the program's table of filters holds what its text lays. -/
namespace Go.Proofs.YtdpkigdfhfippaaGreatDoor
open Go.RowKit


theorem keysC : KeysC := fun a b h0 h1 w => keys_any a b h0 h1 w
end Go.Proofs.YtdpkigdfhfippaaGreatDoor

/- The program's table: what a resize calls; lines filled so far. -/
namespace Go.Proofs.YtdpkigdfhfippaaGreatDoor
open Go.RowKit


theorem tside_yes (n : Int) (n0 : 1 ≤ n) (n1 : n ≤ 65536) (w : World) :
    Calls Tryz.prog 64 #[.int .i64 n] w fun e w' => e = .returned (.bool true) ∧ w = w' := by
  go_enter Tryz.func64, Tryz.ntmps64
  go_wp2
  go_ret
  first | exact ⟨rfl, rfl⟩ | exact ⟨ret_bool (decide_eq_true (by omega)), rfl⟩
theorem tside_no (n : Int) (h : n < 1 ∨ 65536 < n) (w : World) :
    Calls Tryz.prog 64 #[.int .i64 n] w fun e w' => e = .returned (.bool false) ∧ w = w' := by
  rcases h with h | h
  all_goals
    go_enter Tryz.func64, Tryz.ntmps64
    go_wp2
    go_ret
    first | exact ⟨rfl, rfl⟩ | exact ⟨ret_bool (decide_eq_false (by omega)), rfl⟩
theorem prow_line (f n m i : Int) (h : MayP f n m i) (w : World) (hk : Kinds w) :
    Calls Tryz.prog 65 #[.int .i64 f, .int .i64 n, .int .i64 m, .int .i64 i] w fun e w' => ∃ v, e = .returned (.tuple #[.int .i64 (startR f n m i), v]) ∧ OwnI .i64 2 w' w.heap.size v (rowI f n m i) ∧ Below w.heap.size w w' := by
  refine (row_yes f n m i h w hk).mono ?_
  rintro e w1 ⟨a, c, v, hwin, rfl, ho, b⟩
  obtain ⟨rfl, rfl⟩ := win_one h.2.2.2.2.1 hwin (row_win h)
  exact ⟨v, rfl, rowI_own ho, b⟩
theorem papp_own_n (n : Nat) (xs : List Int) (hn : xs.length = n) (ad : Option Addr) (cap : Nat) (w : World) (hr : RowAt .i64 w ad xs) (hx : All64 xs) (hl : n ≤ 9223372036854775807) :
    Calls Tryz.prog 66 #[.slice ad n cap] w fun e w' => ∃ v, e = .returned (.tuple #[v, .int .i64 (appCode xs)]) ∧ (appCode xs = 0 → OwnI .i64 2 w' w.heap.size v (appR xs)) ∧ Below w.heap.size w w' := by
  subst hn
  by_cases hf : Fits xs
  · have e := appCode_fits.2 hf
    rw [e]
    refine (apportion_fits xs ad cap w hr hx hf).mono ?_
    rintro e w1 ⟨v, rfl, o, b⟩
    exact ⟨v, rfl, fun _ => o, b⟩
  · have e : appCode xs ≠ 0 := fun g => hf (appCode_fits.1 g)
    refine (apportion_any xs ad cap w hr hx hl).mono ?_
    rintro e' w1 ⟨v, rfl, _, b⟩
    exact ⟨v, rfl, fun g => absurd g e, b⟩
theorem tsize_n (n : Nat) (xs : List Int) (hn : xs.length = n) (ad : Option Addr) (cap : Nat) (w : World) (hr : RowAt .i64 w ad xs) (hx : All64 xs) (hl : n ≤ 9223372036854775807) :
    Calls Tryz.prog 67 #[.slice ad n cap] w fun e w' => e = .returned (.int .i64 (sizeH xs)) ∧ w = w' := by
  subst hn
  exact tsize_any xs ad cap w hr hx hl
/-- The block h of so many lines is filled so far; g is the table's. -/
def Fill (w : World) (g h m : Nat) (L : List (Int × List Int)) : Prop :=
  h ≠ g ∧ L.length ≤ m ∧ (∀ j, j < m * 2 → (∃ v, w.cell? ⟨h, j, none⟩ = some v) ∧ w.frozen? ⟨h, j, none⟩ = false) ∧
  ∀ j, j < L.length → w.cell? ⟨h, j * 2, none⟩ = some (.int .i64 (lnAt L j).1) ∧ ∃ b cap, w.cell? ⟨h, j * 2 + 1, none⟩ = some (.slice (some ⟨b, 0, none⟩) (lnAt L j).2.length cap) ∧ b ≠ g ∧ b ≠ h ∧ RowAt .i64 w (some ⟨b, 0, none⟩) (lnAt L j).2
theorem Fill.below {w w' : World} {g h m : Nat} {L : List (Int × List Int)} (F : Fill w g h m L) (hb : Below w.heap.size w w') : Fill w' g h m L := by
  obtain ⟨hne, hl, hc, hx⟩ := F
  refine ⟨hne, hl, fun j hj => ?_, fun j hj => ?_⟩
  · obtain ⟨⟨v, c⟩, z⟩ := hc j hj
    exact ⟨⟨v, cb hb (cell_ltL c) c⟩, fb hb (cell_ltL c) z⟩
  · obtain ⟨c1, b, cap, c2, h1, h2, hr⟩ := hx j hj
    exact ⟨cb hb (cell_ltL c1) c1, b, cap, cb hb (cell_ltL c2) c2, h1, h2, hr.below hb⟩
/-- A store in the table's own block. -/
theorem Fill.table {w : World} {g h m : Nat} {L : List (Int × List Int)} (F : Fill w g h m L) (o : Nat) (u : Value) : Fill (w.setCell ⟨g, o, none⟩ u) g h m L := by
  obtain ⟨hne, hl, hc, hx⟩ := F
  have E : ∀ j, (w.setCell ⟨g, o, none⟩ u).cell? ⟨h, j, none⟩ = w.cell? ⟨h, j, none⟩ := fun j => set_apart (Or.inl hne.symm)
  refine ⟨hne, hl, fun j hj => ?_, fun j hj => ?_⟩
  · rw [E, World.frozen?_setCell]
    exact hc j hj
  · obtain ⟨c1, b, cap, c2, h1, h2, hr⟩ := hx j hj
    exact ⟨(E _).trans c1, b, cap, (E _).trans c2, h1, h2, hr.apart h1.symm o u⟩
/-- One line more. -/
theorem Fill.more {w : World} {g h m k : Nat} {L : List (Int × List Int)} (F : Fill w g h m L) (hk : L.length = k) (hm : k < m) (f : Int) (ts : List Int) {n b cap : Nat} (hn : ts.length = n) (h1 : b ≠ g) (h2 : b ≠ h) (hr : RowAt .i64 w (some ⟨b, 0, none⟩) ts) :
    Fill ((w.setCell ⟨h, k * 2, none⟩ (.int .i64 f)).setCell ⟨h, k * 2 + 1, none⟩ (.slice (some ⟨b, 0, none⟩) n cap)) g h m (L ++ [(f, ts)]) := by
  subst hk
  subst hn
  obtain ⟨hne, hl, hc, hx⟩ := F
  obtain ⟨⟨v0, c0⟩, _⟩ := hc (L.length * 2) (by omega)
  obtain ⟨⟨v1, c1⟩, _⟩ := hc (L.length * 2 + 1) (by omega)
  have E0 : ∀ j, j ≠ L.length * 2 → j ≠ L.length * 2 + 1 → ((w.setCell ⟨h, L.length * 2, none⟩ (.int .i64 f)).setCell ⟨h, L.length * 2 + 1, none⟩ (.slice (some ⟨b, 0, none⟩) ts.length cap)).cell? ⟨h, j, none⟩ = w.cell? ⟨h, j, none⟩ := fun j g1 g2 =>
    (set_apart (Or.inr (Ne.symm g2))).trans (set_apart (Or.inr (Ne.symm g1)))
  have E1 : ((w.setCell ⟨h, L.length * 2, none⟩ (.int .i64 f)).setCell ⟨h, L.length * 2 + 1, none⟩ (.slice (some ⟨b, 0, none⟩) ts.length cap)).cell? ⟨h, L.length * 2, none⟩ = some (.int .i64 f) :=
    (set_apart (Or.inr (by omega))).trans (World.cell?_setCell_same' _ _ _ (by rw [c0]; rfl))
  have E2 : ((w.setCell ⟨h, L.length * 2, none⟩ (.int .i64 f)).setCell ⟨h, L.length * 2 + 1, none⟩ (.slice (some ⟨b, 0, none⟩) ts.length cap)).cell? ⟨h, L.length * 2 + 1, none⟩ = some (.slice (some ⟨b, 0, none⟩) ts.length cap) :=
    World.cell?_setCell_same' _ _ _ (by rw [set_apart (Or.inr (by omega)), c1]; rfl)
  refine ⟨hne, by rw [List.length_append, List.length_singleton]; omega, fun j hj => ?_, fun j hj => ?_⟩
  · rw [World.frozen?_setCell, World.frozen?_setCell]
    refine ⟨?_, (hc j hj).2⟩
    by_cases g1 : j = L.length * 2
    · subst g1; exact ⟨_, E1⟩
    by_cases g2 : j = L.length * 2 + 1
    · subst g2; exact ⟨_, E2⟩
    rw [E0 j g1 g2]
    exact (hc j hj).1
  · rw [List.length_append, List.length_singleton] at hj
    by_cases e : j = L.length
    · subst e
      rw [lnAt_new]
      exact ⟨E1, b, cap, E2, h1, h2, (hr.apart h2.symm _ _).apart h2.symm _ _⟩
    · rw [lnAt_old _ (by omega)]
      obtain ⟨d1, b', cap', d2, g1, g2, hr'⟩ := hx j (by omega)
      exact ⟨(E0 _ (by omega) (by omega)).trans d1, b', cap', (E0 _ (by omega) (by omega)).trans d2, g1, g2, (hr'.apart g2.symm _ _).apart g2.symm _ _⟩
theorem Fill.heads {w : World} {g h m : Nat} {L : List (Int × List Int)} (F : Fill w g h m L) : LinesHead w h L := by
  obtain ⟨_, _, _, hx⟩ := F
  intro j hj
  obtain ⟨c1, b, cap, c2, _, _, hr⟩ := hx j hj
  exact ⟨c1, b, cap, c2, hr⟩
theorem Fill.start {w : World} {B g h m cap : Nat} {T : TypeId} {xs : List Value} (ho : w.ownsRow B T 2 (.slice (some ⟨h, 0, none⟩) m cap) m xs) (hne : h ≠ g) : Fill w g h m [] := by
  refine ⟨hne, Nat.zero_le _, fun j hj => ⟨?_, ho.frozenAt j⟩, fun j hj => absurd hj (Nat.not_lt_zero _)⟩
  have hl := ho.1
  rw [ho.cellAt j hj]
  exact ⟨_, List.getElem?_eq_getElem (by omega)⟩
/-- What 'make' makes of lines. -/
theorem makeLn (n : Nat) (h : n ≤ 1048576) : ∃ zs : Array Value, (∀ w : World, (Instr.makeSlice 81 (.int .i64 (n : Int)) (.int .i64 (n : Int))).run Tryz.prog w = .ok (.slice (some ⟨w.heap.size, 0, none⟩) n n) (w.alloc (.cells zs 63))) ∧ (∀ (w : World) (B : Nat), B ≤ w.heap.size → (w.alloc (.cells zs 63)).ownsRow B 63 2 (.slice (some ⟨w.heap.size, 0, none⟩) n n) n zs.toList) := by
  obtain ⟨i0, hi, hz0, hz1, hz2⟩ := info_parts infoLnT
  have hm : (n : Int) ≤ 9223372036854775807 := by omega
  refine ⟨madeCells (Value.agg #[.int .i64 0, .slice none 0 0]).cells (n * i0.size), fun w => ?_, fun w B hB => ?_⟩
  · have hr := run_make (P := Tryz.prog) w 81 63 i0 (.agg #[.int .i64 0, .slice none 0 0]) Tryz.underlying81 hi hz0 .i64 .i64 n n (by omega) (Int.le_refl _) (by rw [hz2]; omega) hm
    simpa only [Int.toNat_natCast] using hr
  · rw [hz1]
    exact World.ownsRow_lit w _ n hB (by unfold maxLen; omega) (by rw [size_madeCells])
/-- Two cells of the next line. -/
theorem Fill.room {w : World} {g h m k : Nat} {L : List (Int × List Int)} (F : Fill w g h m L) (hk : k < m) :
    (∃ v, w.cell? ⟨h, k * 2, none⟩ = some v) ∧ w.frozen? ⟨h, k * 2, none⟩ = false ∧ (∃ v, w.cell? ⟨h, k * 2 + 1, none⟩ = some v) ∧ w.frozen? ⟨h, k * 2 + 1, none⟩ = false := by
  obtain ⟨_, _, hc, _⟩ := F
  obtain ⟨a, b⟩ := hc (k * 2) (by omega)
  obtain ⟨c, d⟩ := hc (k * 2 + 1) (by omega)
  exact ⟨a, b, c, d⟩
/-- One line more, and what the table's own block holds: the most taps are written. -/
theorem fill_step {w : World} {g h m k : Nat} {L : List (Int × List Int)} (F : Fill w g h m L) (hk : L.length = k) (hm : k < m) (f : Int) (ts : List Int) {n b cap : Nat} (hn : ts.length = n) (h1 : b ≠ g) (h2 : b ≠ h) (hr : RowAt .i64 w (some ⟨b, 0, none⟩) ts)
    {x0 x1 x2 x3 : Value} (d0 : w.cell? ⟨g, 0, none⟩ = some x0) (d1 : w.cell? ⟨g, 1, none⟩ = some x1) (d2 : w.cell? ⟨g, 2, none⟩ = some x2) (d3 : w.cell? ⟨g, 3, none⟩ = some x3) (z2 : w.frozen? ⟨g, 2, none⟩ = false) (z3 : w.frozen? ⟨g, 3, none⟩ = false) (u : Value)
    {W : World} (hW : W = ((w.setCell ⟨h, k * 2, none⟩ (.int .i64 f)).setCell ⟨h, k * 2 + 1, none⟩ (.slice (some ⟨b, 0, none⟩) n cap)).setCell ⟨g, 2, none⟩ u) :
    Fill W g h m (L ++ [(f, ts)]) ∧ RowAt .i64 W (some ⟨b, 0, none⟩) ts ∧ W.cell? ⟨g, 0, none⟩ = some x0 ∧ W.cell? ⟨g, 1, none⟩ = some x1 ∧ W.cell? ⟨g, 2, none⟩ = some u ∧ W.cell? ⟨g, 3, none⟩ = some x3 ∧ W.frozen? ⟨g, 2, none⟩ = false ∧ W.frozen? ⟨g, 3, none⟩ = false := by
  subst hW
  have hne : h ≠ g := F.1
  have E : ∀ j, ((w.setCell ⟨h, k * 2, none⟩ (.int .i64 f)).setCell ⟨h, k * 2 + 1, none⟩ (.slice (some ⟨b, 0, none⟩) n cap)).cell? ⟨g, j, none⟩ = w.cell? ⟨g, j, none⟩ := fun j => (set_apart (Or.inl hne)).trans (set_apart (Or.inl hne))
  refine ⟨(F.more hk hm f ts hn h1 h2 hr).table 2 u, ((hr.apart h2.symm _ _).apart h2.symm _ _).apart h1.symm _ _, ?_, ?_, ?_, ?_, ?_, ?_⟩
  · rw [set_apart (Or.inr (by decide)), E]; exact d0
  · rw [set_apart (Or.inr (by decide)), E]; exact d1
  · exact World.cell?_setCell_same' _ _ _ (by rw [E, d2]; rfl)
  · rw [set_apart (Or.inr (by decide)), E]; exact d3
  · rw [World.frozen?_setCell, World.frozen?_setCell, World.frozen?_setCell]; exact z2
  · rw [World.frozen?_setCell, World.frozen?_setCell, World.frozen?_setCell]; exact z3
/-- The size is written. -/
theorem fill_last {w : World} {g h m : Nat} {L : List (Int × List Int)} (F : Fill w g h m L)
    {x0 x1 x2 x3 : Value} (d0 : w.cell? ⟨g, 0, none⟩ = some x0) (d1 : w.cell? ⟨g, 1, none⟩ = some x1) (d2 : w.cell? ⟨g, 2, none⟩ = some x2) (d3 : w.cell? ⟨g, 3, none⟩ = some x3) (z2 : w.frozen? ⟨g, 2, none⟩ = false) (z3 : w.frozen? ⟨g, 3, none⟩ = false) (u : Value)
    {W : World} (hW : W = w.drew.setCell ⟨g, 3, none⟩ u) :
    Fill W g h m L ∧ W.cell? ⟨g, 0, none⟩ = some x0 ∧ W.cell? ⟨g, 1, none⟩ = some x1 ∧ W.cell? ⟨g, 2, none⟩ = some x2 ∧ W.cell? ⟨g, 3, none⟩ = some u ∧ W.frozen? ⟨g, 2, none⟩ = false ∧ W.frozen? ⟨g, 3, none⟩ = false := by
  subst hW
  refine ⟨(F.below (bd (Below.refl _ _))).table 3 u, ?_, ?_, ?_, ?_, ?_, ?_⟩
  · rw [set_apart (Or.inr (by decide))]; exact d0
  · rw [set_apart (Or.inr (by decide))]; exact d1
  · rw [set_apart (Or.inr (by decide))]; exact d2
  · exact World.cell?_setCell_same' _ _ _ (by rw [show w.drew.cell? ⟨g, 3, none⟩ = w.cell? ⟨g, 3, none⟩ from rfl, d3]; rfl)
  · rw [World.frozen?_setCell]; exact z2
  · rw [World.frozen?_setCell]; exact z3
theorem most_snoc (L : List (Int × List Int)) (x : Int × List Int) : mostF (L ++ [x]) = max (mostF L) (x.2.length : Int) := by
  have e : ∀ o, o ≤ L.length → mostTo (L ++ [x]) o = mostTo L o := by
    intro o ho
    induction o with
    | zero => rfl
    | succ o ih =>
      show max (mostTo (L ++ [x]) o) ((lnAt (L ++ [x]) o).2.length : Int) = max (mostTo L o) ((lnAt L o).2.length : Int)
      rw [ih (by omega), lnAt_old x (by omega)]
  unfold mostF
  rw [List.length_append, List.length_singleton]
  show max (mostTo (L ++ [x]) L.length) ((lnAt (L ++ [x]) L.length).2.length : Int) = _
  rw [e _ (Nat.le_refl _), lnAt_new]
theorem size_snoc (L : List (Int × List Int)) (x : Int × List Int) : sizeF (L ++ [x]) = max (sizeF L) (sizeH x.2) := by
  have e : ∀ o, o ≤ L.length → sizeTo (L ++ [x]) o = sizeTo L o := by
    intro o ho
    induction o with
    | zero => rfl
    | succ o ih =>
      show max (sizeTo (L ++ [x]) o) (sizeH (lnAt (L ++ [x]) o).2) = max (sizeTo L o) (sizeH (lnAt L o).2)
      rw [ih (by omega), lnAt_old x (by omega)]
  unfold sizeF
  rw [List.length_append, List.length_singleton]
  show max (sizeTo (L ++ [x]) L.length) (sizeH (lnAt (L ++ [x]) L.length).2) = _
  rw [e _ (Nat.le_refl _), lnAt_new]
end Go.Proofs.YtdpkigdfhfippaaGreatDoor
