/- The statement on plays. -/
import Derived.Test.YtfecalpfjafecaaS18I
import Derived.Test.YtfecalpfjafecaaLB
import Derived.Deep.CutBlock
import Derived.Deep.CutRange
import Derived.Deep.RegionHeld3
namespace Go.Proofs.Ytfecalpfjafecaa
open Go.RowKit


theorem cansend_ref (room : Nat) (L : List Int) (cl : Bool) : (cl || decide (L.length < room)) = (sendC room L cl != 1) := by
  unfold sendC
  cases cl
  · by_cases h : L.length < room
    · simp [h]
    · simp [h]
  · simp
theorem canrec_ref (L : List Int) (cl : Bool) : (cl || decide (0 < L.length)) = (recC L cl != 1) := by
  unfold recC
  cases cl
  · by_cases h : L.length = 0
    · simp [h]
    · simp [h]
      omega
  · by_cases h : L.length = 0
    · simp [h]
    · simp [h]
theorem s3_below {w w' : World} {b : Nat} {x y z : Value} (h : w.cell? ⟨b, 0, none⟩ = some x ∧ w.cell? ⟨b, 1, none⟩ = some y ∧ w.cell? ⟨b, 2, none⟩ = some z) (hb : Below w.heap.size w w') : w'.cell? ⟨b, 0, none⟩ = some x ∧ w'.cell? ⟨b, 1, none⟩ = some y ∧ w'.cell? ⟨b, 2, none⟩ = some z :=
  ⟨cb hb (cell_ltL h.1) h.1, cb hb (cell_ltL h.1) h.2.1, cb hb (cell_ltL h.1) h.2.2⟩
set_option maxHeartbeats 16000000 in
set_option maxRecDepth 100000 in
theorem plays18_main (a : Int) (K : List Int) (kd : Option Addr) (kcap : Nat) (xs : List Int) (ad : Option Addr) (cap : Nat) (w : World) (a1 : -9223372036854775808 ≤ a) (a2 : a ≤ 9223372036854775807) (hK : RowAt .u8 w kd K) (hk8 : AllK .u8 K) (hn60 : K.length ≤ 60) (hr : RowAt .i64 w ad xs) (hx : AllK .i64 xs) (hm : xs.length ≤ maxLen) :
    Calls Try.prog 4 #[.int .i64 a, .slice kd K.length kcap, .slice ad xs.length cap] w fun e w' => e = .returned (.bool true) ∧ Below w.heap.size w w' := by
  obtain ⟨n, hn⟩ : ∃ n, K.length = n := ⟨_, rfl⟩
  obtain ⟨m, hmm⟩ : ∃ m, xs.length = m := ⟨_, rfl⟩
  have hml : m ≤ 9223372036854775807 := by rw [← hmm]; unfold maxLen at hm; omega
  rw [hn] at hn60
  rw [hn, hmm]
  have HK := hide hK
  have HK8 := hide hk8
  have HN := hide hn
  have HR := hide hr
  have HX := hide hx
  have HM := hide hmm
  have q60 : decide ((60 : Int) < (n : Int)) = false := decide_eq_false (by omega)
  have CL := fun (W : World) => lives18_any W
  have CN := fun (w1 : World) (hb : Below w.heap.size w w1) => law_qnew hb a a1 a2
  have CD := fun (w1 : World) => dnew18_any a w1
  obtain ⟨room, hroom⟩ : ∃ room, (roomQ a).toNat = room := ⟨_, rfl⟩
  have hin := roomQ_in a
  have er : roomQ a = (room : Int) := by omega
  have hroom2 : room ≤ 4096 := by omega
  rw [hroom] at CN
  rw [er] at CD
  clear hK hk8 hn hr hx hmm hm hroom hin er
  go_enter Try.func4, Try.ntmps4
  go_wp2_with (first
    | (go_at_call 7; (with_reducible refine (CL _).mono ?_); rintro e w1 ⟨rfl, b1⟩; have HB1 := hide b1; clear b1)
    | (go_at_call 8; (with_reducible refine (CN _ HB1.out).mono ?_); rintro e w2 ⟨q, rfl, l2⟩; have HL2 := hide l2; clear l2)
    | (go_at_call 15; (with_reducible refine (CD _).mono ?_); rintro e w3 ⟨rfl, b3⟩; have HL3 := hide (HL2.out.below b3); clear b3))
  clear CN CD CL
  go_loopw [38] (fun vk wr => ∃ (k : Nat) (L : List Int) (cl : Bool) (v : Value), k ≤ n ∧ vk = .int .i64 (k : Int) ∧ PlayH w wr w3.heap.size q room L cl v cl v L) (fun vk _ => n - (intOf vk).toNat)
  case atStart => exact ⟨0, [], false, _, by omega, rfl, PlayH.start HL3.out⟩
  case round =>
    obtain ⟨k, L, cl, v, hk, rfl, hP⟩ := hrel
    have HP := hide hP
    clear hP
    by_cases hlt : k < n
    · obtain ⟨bk, offk, rfl, hkc⟩ := (HK.out.below HP.out.bel).get (show k < K.length by rw [HN.out]; exact hlt)
      obtain ⟨y0, y1⟩ := allK_u8 HK8.out (show k < K.length by rw [HN.out]; exact hlt)
      generalize K.getD k 0 = y at *
      obtain ⟨p, hp⟩ : ∃ p : Nat, y % 4 = (p : Int) := ⟨(y % 4).toNat, by omega⟩
      have hp3 : p ≤ 3 := by omega
      have tp : y.tmod 4 = (p : Int) := by rw [Int.tmod_eq_emod_of_nonneg y0]; exact hp
      clear hp
      go_upto_if 46 with fail
      go_cut [11] from 40 to 153 (fun vx wx => ∃ x : Int, vx = .int .i64 x ∧ -9223372036854775808 ≤ x ∧ x ≤ 9223372036854775807 ∧ wx = wr)
      case first =>
        by_cases hm0 : m = 0
        · subst hm0
          go_wp2
          go_meet
          case rel => exact ⟨(k : Int), rfl, by omega, by omega, rfl⟩
        · obtain ⟨r, hr⟩ : ∃ r, k % m = r := ⟨_, rfl⟩
          have hrm : r < m := by rw [← hr]; exact Nat.mod_lt _ (by omega)
          have tr : (k : Int).tmod (m : Int) = (r : Int) := by rw [Int.tmod_eq_emod_of_nonneg (by omega), ← hr]; rfl
          obtain ⟨bx, offx, rfl, hxc⟩ := (HR.out.below HP.out.bel).get (j := r) (by rw [HM.out]; exact hrm)
          have hx2 := allK_i64 HX.out (j := r) (by rw [HM.out]; exact hrm)
          generalize xs.getD r 0 = x at *
          have hm1 : ¬ (m : Int) = 0 := by omega
          have hm2 : 0 < m := by omega
          clear hr
          go_wp2
          go_meet
          case rel => exact ⟨x, rfl, hx2.1, hx2.2, rfl⟩
      case rest =>
        obtain ⟨x, rfl, x1, x2, rfl⟩ := hcut
        clear hkc
        obtain ⟨adv, capv, rfl, hrow⟩ := HP.out.row
        obtain ⟨p0, p1, p2, p3, p4, p5⟩ := HP.out.cel
        obtain ⟨l, hl⟩ : ∃ l, L.length = l := ⟨_, rfl⟩
        have hl4 : l ≤ 4096 := by have := HP.out.law.len.1; omega
        have HL := hide hl
        rw [hl] at HP p1
        clear hrow hl
        go_upto_block 2 with fail
        go_cut [12, 13, 14, 15, 16, 17, 18] from 40 to 153 (fun _ _ _ _ _ _ _ wx => ∃ (L' : List Int) (cl' : Bool) (v' : Value), PlayH w wx w3.heap.size q room L' cl' v' cl' v' L')
        case first =>
          by_cases h2 : p = 2
          · subst h2
            have CD := playh_drec (cl := cl) HL.out hl4 HP.out
            have CR := fun (W : World) (v' : Value) (L' : List Int) (h : PlayH w W w3.heap.size q room L cl v' cl v' L') => playh_rec h
            generalize L.headD 0 = hd at CD CR
            generalize recC L cl = rc at CD CR
            generalize L.tail = L2 at CD CR
            generalize l - 1 = l1 at CD
            go_wp2_with (first
              | (go_at_call 16; (with_reducible refine CD.mono ?_); rintro e w4 ⟨ad4, cap4, rfl, h4, b4⟩; have H5 := hide (h4.below (below1 w4 (.cells #[.int .i64 (room : Int), .slice ad4 l1 cap4, .bool cl] 34))); have H6 := hide (H5.out.store cl); obtain ⟨s0, s1, s2, s3, s4, s5⟩ := H5.out.cel; clear h4 b4)
              | (go_at_call 12; (with_reducible refine (CR _ _ _ H6.out).mono ?_); rintro e w7 ⟨rfl, h7⟩; have H7 := hide h7; clear h7))
            go_meet
            case rel => exact ⟨L2, cl, _, H7.out⟩
          · by_cases h3 : p = 3
            · subst h3
              by_cases hx7 : x = 7
              · subst hx7
                go_upto_region 23 with fail
                have dr := bd (Below.refl wc.heap.size wc)
                have hs0 := cb dr (cell_ltL p2) p2
                have CC := playh_close (HP.out.below dr)
                have hq : ((!cl) == cl) = false := by cases cl <;> rfl
                go_region_held3 (fun w' => w'.cell? ⟨w3.heap.size, 2, none⟩ = some (.bool cl)) (first | assumption | go_keep)
                  (first
                    | (go_at_call 17; (with_reducible refine CC.mono ?_); rintro e w7 ⟨rfl, h7⟩; have H7 := hide h7; obtain ⟨s0, s1, s2, s3, s4, s5⟩ := h7.cel; clear h7))
                go_wp2
                go_meet
                case rel => exact ⟨L, true, _, H7.out.shut⟩
              · have hx7' : (x == 7) = false := by rw [beq_eq_false_iff_ne]; exact hx7
                go_wp2
                go_meet
                case rel => exact ⟨L, cl, _, HP.out⟩
            · have q2 : ((p : Int) == 2) = false := by rw [beq_eq_false_iff_ne]; omega
              have q3 : ((p : Int) == 3) = false := by rw [beq_eq_false_iff_ne]; omega
              have CD := playh_dsend (cl := cl) (x := x) HL.out hl4 HP.out
              have CS := fun (W : World) (v' : Value) (L' : List Int) (h : PlayH w W w3.heap.size q room L cl v' cl v' L') => playh_send (x := x) h
              generalize sendC room L cl = sc at CD CS
              generalize sendL room L cl x = L2 at CD CS
              go_wp2_with (first
                | (go_at_call 18; (with_reducible refine CD.mono ?_); rintro e w4 ⟨ad4, n4, cap4, rfl, h4, b4⟩; have H5 := hide (h4.below (below1 w4 (.cells #[.int .i64 (room : Int), .slice ad4 n4 cap4, .bool cl] 34))); have H6 := hide (H5.out.store cl); obtain ⟨s0, s1, s2, s3, s4, s5⟩ := H5.out.cel; clear h4 b4)
                | (go_at_call 10; (with_reducible refine (CS _ _ _ H6.out).mono ?_); rintro e w7 ⟨rfl, h7⟩; have H7 := hide h7; clear h7))
              go_meet
              case rel => exact ⟨L2, cl, _, H7.out⟩
        case rest =>
          clear HL hl4 p0 p1 p2 p3 p4 p5 HP tp y0 y1 hp3
          obtain ⟨L', cl', v', hP⟩ := hcut
          have HP := hide hP
          clear hP
          obtain ⟨adv', capv', rfl, hrow⟩ := HP.out.row
          obtain ⟨p0, p1, p2, p3, p4, p5⟩ := HP.out.cel
          obtain ⟨l', hl⟩ : ∃ l', L'.length = l' := ⟨_, rfl⟩
          have hl4 : l' ≤ 4096 := by have := HP.out.law.len.1; omega
          have HL := hide hl
          rw [hl] at HP p1
          clear hrow
          obtain ⟨sc, hsc⟩ : ∃ sc, sendC room L' cl' = sc := ⟨_, rfl⟩
          obtain ⟨rc, hrc⟩ : ∃ rc, recC L' cl' = rc := ⟨_, rfl⟩
          have CD := playh_dsend (cl := cl') (x := 0) HL.out hl4 HP.out
          have CR := fun (W : World) (h : PlayH w W w3.heap.size q room L' cl' (.slice adv' l' capv') cl' (.slice adv' l' capv') L') => playh_drec (cl := cl') HL.out hl4 h
          rw [hsc] at CD
          rw [hrc] at CR
          have C1 := fun (W : World) (h : PlayH w W w3.heap.size q room L' cl' (.slice adv' l' capv') cl' (.slice adv' l' capv') L') => law_qlen h.law
          have C2 := fun (W : World) (h : PlayH w W w3.heap.size q room L' cl' (.slice adv' l' capv') cl' (.slice adv' l' capv') L') => law_qroom h.law
          have C3 := fun (W : World) (h : PlayH w W w3.heap.size q room L' cl' (.slice adv' l' capv') cl' (.slice adv' l' capv') L') => law_qclosed h.law
          have C4 := fun (W : World) (h : PlayH w W w3.heap.size q room L' cl' (.slice adv' l' capv') cl' (.slice adv' l' capv') L') => law_qlist h.law
          have C5 := fun (W : World) (h : PlayH w W w3.heap.size q room L' cl' (.slice adv' l' capv') cl' (.slice adv' l' capv') L') => law_cansend h.law
          have C6 := fun (W : World) (h : PlayH w W w3.heap.size q room L' cl' (.slice adv' l' capv') cl' (.slice adv' l' capv') L') => law_canrec h.law
          rw [hl] at C1
          simp only [cansend_ref, canrec_ref, hsc, hrc] at C5 C6
          generalize L'.headD 0 = hd at CR
          generalize l' - 1 = l1 at CR
          clear hsc hrc hl
          go_upto_region 28 with (first
            | (go_at_call 18; (with_reducible refine CD.mono ?_); rintro e w4 ⟨ad4, n4, cap4, rfl, _, b4⟩; have H5 := hide ((HP.out.below b4).below (below1 w4 (.cells #[.int .i64 (room : Int), .slice ad4 n4 cap4, .bool cl'] 34))); obtain ⟨s0, s1, s2, s3, s4, s5⟩ := H5.out.cel; clear b4)
            | (go_at_call 16; (with_reducible refine (CR _ H5.out).mono ?_); rintro e w6 ⟨ad6, cap6, rfl, _, b6⟩; have H7 := hide ((H5.out.below b6).below (below1 w6 (.cells #[.int .i64 (room : Int), .slice ad6 l1 cap6, .bool cl'] 34))); clear b6))
          clear s0 s1 s2 s3 s4 s5 H5 p0 p1 p2 p3 p4 p5 CD CR HP
          generalize w6.alloc (.cells #[.int .i64 (room : Int), .slice ad6 l1 cap6, .bool cl'] 34) = W8 at *
          have dr := bd (Below.refl W8.heap.size W8)
          have H8 := hide (H7.out.below dr)
          obtain ⟨z0, z1, z2, _, _, _⟩ := H8.out.cel
          have hs8 : W8.drew.cell? ⟨w3.heap.size, 0, none⟩ = some (.int .i64 (room : Int)) ∧ W8.drew.cell? ⟨w3.heap.size, 1, none⟩ = some (.slice adv' l' capv') ∧ W8.drew.cell? ⟨w3.heap.size, 2, none⟩ = some (.bool cl') := ⟨z0, z1, z2⟩
          have hrow : RowAt .i64 W8.drew adv' L' := by
            obtain ⟨ad0, cap0, he, hr0⟩ := H8.out.row
            simp only [Value.slice.injEq] at he
            obtain ⟨rfl, _, _⟩ := he
            exact hr0
          have HROW := hide hrow
          have D1 := C1 _ H8.out
          have D2 := C2 _ H8.out
          have D3 := C3 _ H8.out
          have D4 := C4 _ H8.out
          have SM := fun (ad9 : Option Addr) (cap9 : Nat) (W : World) (h1 : RowAt .i64 W ad9 L') (h2 : RowAt .i64 W adv' L') => same18_n l' L' HL.out ad9 adv' cap9 capv' W h1 h2 (by omega)
          have e1 : ((sc != 1) != (sc != 1)) = false := by simp
          have e2 : ((rc != 1) != (rc != 1)) = false := by simp
          have e3 : (cl' != cl') = false := by simp
          clear z0 z1 z2 hrow dr
          go_region_held3 (fun w' => w'.cell? ⟨w3.heap.size, 0, none⟩ = some (.int .i64 (room : Int)) ∧ w'.cell? ⟨w3.heap.size, 1, none⟩ = some (.slice adv' l' capv') ∧ w'.cell? ⟨w3.heap.size, 2, none⟩ = some (.bool cl')) (first | assumption | go_keep)
            (first
              | (go_at_call 11; (with_reducible refine D1.mono ?_); rintro e w9 ⟨rfl, rfl⟩)
              | (go_at_call 13; (with_reducible refine D2.mono ?_); rintro e w9 ⟨rfl, rfl⟩)
              | (go_at_call 19; (with_reducible refine D3.mono ?_); rintro e w9 ⟨rfl, rfl⟩)
              | (go_at_call 21; (with_reducible refine D4.mono ?_); rintro e w9 ⟨v9, rfl, o9, b9⟩; have hs9 := s3_below hs8 b9; obtain ⟨ad9, cap9, rfl, r9, _⟩ := o9.formn HL.out; have H9 := hide (H8.out.below b9); have B9 := hide b9)
              | (go_at_call 20; (with_reducible refine (SM ad9 cap9 w9 r9 (HROW.out.below B9.out)).mono ?_); rintro e w10 ⟨rfl, b10⟩; have hs10 := s3_below hs9 b10; have H10 := hide (H9.out.below b10))
              | (go_at_call 9; (with_reducible refine (C5 _ H10.out).mono ?_); rintro e w11 ⟨rfl, d11⟩; have hs11 := s3_below hs10 d11.below; have H11 := hide (H10.out.below d11.below))
              | (go_at_call 14; (with_reducible refine (C6 _ H11.out).mono ?_); rintro e w12 ⟨rfl, d12⟩; have hs12 := s3_below hs11 d12.below; have H12 := hide (H11.out.below d12.below)))
          clear hs8 hs9 hs10 hs11 hs12 e1 e2 e3 SM D1 D2 D3 D4 C1 C2 C3 C4 C5 C6 o9 r9 b9 b10 d11 d12
          go_wp2
          go_roundw
          case rel => exact ⟨k + 1, L', cl', _, by omega, by go_num, H12.out⟩
          case measure => simp [intOf]; omega
    · obtain rfl : k = n := by omega
      go_wp2
      go_ret
      exact ⟨rfl, HP.out.bel⟩
set_option maxHeartbeats 4000000 in
theorem law_QueuePlays (a : Int) (K : List Int) (kd : Option Addr) (kcap : Nat) (xs : List Int) (ad : Option Addr) (cap : Nat) (w : World) (ha : -9223372036854775808 ≤ a ∧ a ≤ 9223372036854775807) (hK : RowAt .u8 w kd K) (hk8 : AllK .u8 K) (hkl : K.length ≤ maxLen) (_ : kd = none → kcap = 0) (hr : RowAt .i64 w ad xs) (hx : AllK .i64 xs) (hm : xs.length ≤ maxLen) (_ : ad = none → cap = 0) :
    Calls Try.prog 4 #[.int .i64 a, .slice kd K.length kcap, .slice ad xs.length cap] w fun e w' => e = .returned (.bool true) ∧ Below w.heap.size w w' := by
  by_cases h60 : K.length ≤ 60
  · exact plays18_main a K kd kcap xs ad cap w ha.1 ha.2 hK hk8 h60 hr hx hm
  · have hkl2 : K.length ≤ 9223372036854775807 := hkl
    generalize K.length = n at *
    generalize xs.length = m at *
    have q60 : decide ((60 : Int) < (n : Int)) = true := decide_eq_true (by omega)
    have CL := lives18_any
    clear hK hk8 hkl hr hx hm ha
    go_enter Try.func4, Try.ntmps4
    go_wp2_with (first
      | (go_at_call 7; (with_reducible refine (CL w).mono ?_); rintro e w1 ⟨rfl, b1⟩; have HB1 := hide b1; clear b1)
      | (go_at_call 7; (with_reducible refine (CL _).mono ?_); rintro e w2 ⟨rfl, b2⟩; have HB2 := hide (bt HB1.out b2); clear b2))
    go_ret
    exact ⟨rfl, HB2.out⟩
end Go.Proofs.Ytfecalpfjafecaa
