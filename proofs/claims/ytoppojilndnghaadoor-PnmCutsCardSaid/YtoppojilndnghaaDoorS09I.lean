/- The statements' own small images: the example, a draw. -/
import Derived.Test.YtoppojilndnghaaDoorS09F
import Derived.Test.YtoppojilndnghaaDoorS09H
import Derived.Test.YtoppojilndnghaaDoorB
import Derived.IntWalk
import Derived.Deep.RegionHeld3
namespace Go.Proofs.YtoppojilndnghaaDoor
open Go.RowKit


theorem ex_code : codeF 2 1 3 255 = 0 := by decide
theorem ex_yes : setOk ⟨2, 1, 3, 255, List.replicate 6 0⟩ 1 0 2 255 = true := by decide
theorem ex_no : setOk ⟨2, 1, 3, 255, List.replicate 6 0⟩ 1 0 2 256 = false := by decide
theorem rlives9 (w : World) : Calls Tryd.prog 23 #[] w fun e w' => e = .returned (.bool true) ∧ Below w.heap.size w w' := by
  have CN := new_yes 2 1 3 255 ex_code
  rw [show ((2 : Int) * 1 * 3).toNat = 6 from rfl] at CN
  have E1 := hide ex_yes
  have E2 := hide ex_no
  obtain ⟨I, hI⟩ : ∃ I, (⟨2, 1, 3, 255, List.replicate 6 0⟩ : Im) = I := ⟨_, rfl⟩
  have hl : I.il.length = 6 := by rw [← hI]; rfl
  have HL := hide hl
  rw [hI] at CN E1 E2
  clear hI hl
  go_enter Tryd.func23, Tryd.ntmps23
  go_wp2_with (first
    | (go_at_call 40; (with_reducible refine (CN _).mono ?_); rintro e w1 ⟨v, rfl, ⟨g, h, rfl, gB, hB, hi⟩, b1⟩; have HI := hide hi; clear hi)
    | (go_at_call 18; (with_reducible refine (img_samples HI.out).mono ?_); rintro e w2 ⟨v2, rfl, own2, b2⟩; obtain ⟨ad2, cap2, rfl, _, _⟩ := own2.formn HL.out)
    | (go_at_call 41; (with_reducible refine (img_set_no (HI.out.below b2) 1 0 2 256 (by omega) (by omega) E2.out).mono ?_); rintro e w3 ⟨rfl, rfl⟩)
    | (go_at_call 41; (with_reducible refine (img_set_yes (HI.out.below b2) 1 0 2 255 (by omega) (by omega) E1.out).mono ?_); rintro e w4 ⟨rfl, hi4, g4⟩))
  go_ret
  exact ⟨rfl, (bt b1 b2).grown g4 ((bt b1 b2).size) (fun k hk => by have := Option.some.inj hk; omega)⟩
set_option maxHeartbeats 2000000 in
set_option maxRecDepth 100000 in
theorem draw_top (a b c t : Int) (xs : List Int) (ad : Option Addr) (cap : Nat) (w : World) (a0 : 0 ≤ a) (b0 : 0 ≤ b) (c0 : 0 ≤ c) (t0 : 0 ≤ t) (t1 : t ≤ 65535) (hr : RowAt .u16 w ad xs) (hx : ∀ x ∈ xs, 0 ≤ x ∧ x ≤ 65535) (hl : xs.length ≤ maxLen) :
    Calls Tryd.prog 13 #[.int .u16 a, .int .u16 b, .int .u16 c, .int .u16 t, .slice ad xs.length cap] w fun e w' => ∃ v I, e = .returned v ∧ ImgNew w.heap.size w' v I ∧ I.iw ≤ 20 ∧ I.ih ≤ 20 ∧ I.it = 1 + t % 65535 ∧ Below w.heap.size w w' := by
  obtain ⟨x, hx0, hx1⟩ : ∃ x, 1 + a % 20 = x ∧ (1 ≤ x ∧ x ≤ 20) := ⟨_, rfl, by omega⟩
  obtain ⟨y, hy0, hy1⟩ : ∃ y, 1 + b % 20 = y ∧ (1 ≤ y ∧ y ≤ 20) := ⟨_, rfl, by omega⟩
  obtain ⟨z, hz0, hz1⟩ : ∃ z, 1 + 2 * (c % 2) = z ∧ (z = 1 ∨ z = 3) := ⟨_, rfl, by omega⟩
  obtain ⟨top, ht0, ht1, ht2⟩ : ∃ top, 1 + t % 65535 = top ∧ 1 ≤ top ∧ top ≤ 65535 := ⟨_, rfl, by omega, by omega⟩
  have HTT := hide ht0.symm
  have m0 : 1 ≤ x * y ∧ x * y ≤ 400 := by
    have h1 := Int.mul_le_mul hx1.2 hy1.2 (by omega) (by omega)
    have h2 := (side_mul hx1.1 (show x ≤ 65536 by omega) hy1.1 (show y ≤ 65536 by omega)).1
    omega
  have m1 : 1 ≤ x * y * z ∧ x * y * z ≤ 1200 := by rcases hz1 with e | e <;> rw [e] <;> omega
  have hcd : codeF x y z top = 0 := codeF_of ht1 ht2 (by omega) (by omega) (by omega) (by omega) hz1 (by omega)
  obtain ⟨n, hn⟩ : ∃ n : Nat, (n : Int) = x * y * z := ⟨_, Int.toNat_of_nonneg (by omega)⟩
  obtain ⟨zs, MK, MO⟩ := make16 n (by omega)
  rw [hn] at MK
  have n0 : 1 ≤ n := by omega
  have n1 : n ≤ 1200 := by omega
  have HMO := hide MO
  have HR := hide hr
  have HX := hide hx
  have HN := hide hn
  have HCD := hide hcd
  obtain ⟨m, hm⟩ : ∃ m, xs.length = m := ⟨_, rfl⟩
  have HM := hide hm
  rw [hm] at hl ⊢
  have hl2 : m ≤ 9223372036854775807 := hl
  clear MO hr hx hn hcd hm hl
  go_enter Tryd.func13, Tryd.ntmps13
  go_wp2
  have O1 := HMO.out w w.heap.size (Nat.le_refl _)
  have HO1 := hide O1
  have HB1 := hide (ba (Below.refl w.heap.size w) (.cells zs 36))
  clear MK HMO O1
  generalize w.alloc (.cells zs 36) = w1 at *
  go_loopw [44] (fun i wr => ∃ k : Nat, k ≤ n ∧ i = .int .i64 (k : Int) ∧ (∃ L : List Int, L.length = n ∧ Hid (∀ q ∈ L, 0 ≤ q ∧ q ≤ top) ∧ OwnI .u16 36 wr w.heap.size (.slice (some ⟨w.heap.size, 0, none⟩) n n) L) ∧ Below w.heap.size w wr) (fun i _ => n - (intOf i).toNat)
  case atStart => exact ⟨0, by omega, rfl, ⟨_, by simp, (fun q hq => by obtain ⟨_, rfl⟩ := List.mem_replicate.1 hq; omega), HO1.out⟩, HB1.out⟩
  case round =>
    clear HO1 HB1
    obtain ⟨k, hk, rfl, ⟨L, hL, hq, ho⟩, hb⟩ := hrel
    have HO := hide ho
    have HB := hide hb
    have HL := hide hL
    clear ho hb hL
    by_cases hlt : k < n
    · by_cases hm0 : m = 0
      · subst hm0
        go_wp2
        go_roundw
        case rel => exact ⟨k + 1, by omega, by go_num, ⟨L, HL.out, hq, HO.out⟩, HB.out⟩
        case measure => simp [intOf]; omega
      · obtain ⟨j, hj, hjm⟩ : ∃ j : Nat, (j : Int) = (k : Int) % (m : Int) ∧ j < m := ⟨k % m, by omega, Nat.mod_lt _ (by omega)⟩
        obtain ⟨b2, off, rfl, hc⟩ := (HR.out).get (show j < xs.length by rw [HM.out]; exact hjm)
        have hu := allK_u16 HX.out (show j < xs.length by rw [HM.out]; exact hjm)
        generalize xs.getD j 0 = u at *
        obtain ⟨q, hq0, hq1⟩ : ∃ q : Int, (k : Int) / (m : Int) = q ∧ (0 ≤ q ∧ q ≤ 1200) := ⟨_, rfl, Int.ediv_nonneg (by omega) (by omega), by
          have := Int.ediv_le_self (m : Int) (show (0 : Int) ≤ (k : Int) by omega)
          omega⟩
        obtain ⟨r, hr0, hr1⟩ : ∃ r : Int, (u + q) % (top + 1) = r ∧ (0 ≤ r ∧ r ≤ top) := ⟨_, rfl, Int.emod_nonneg _ (by omega), by
          have := Int.emod_lt_of_pos (u + q) (show (0 : Int) < top + 1 by omega)
          omega⟩
        have e1 : (k : Int).tmod (m : Int) = (j : Int) := by rw [Int.tmod_eq_emod_of_nonneg (by omega)]; exact hj.symm
        have e1' : (k : Int) % (m : Int) = (j : Int) := hj.symm
        have e2 : (k : Int).tdiv (m : Int) = q := by rw [Int.tdiv_eq_ediv_of_nonneg (by omega)]; exact hq0
        have e2' : (k : Int) / (m : Int) = q := hq0
        have e3 : (u + q).tmod (top + 1) = r := by rw [Int.tmod_eq_emod_of_nonneg (by omega)]; exact hr0
        have e3' : (u + q) % (top + 1) = r := hr0
        have e4 : IntKind.i64.wrap (u + q) = u + q := IntWalk.i64_in _ (by omega)
        have e5 : IntKind.i64.wrap (top + 1) = top + 1 := IntWalk.i64_in _ (by omega)
        have e6 : IntKind.u16.wrap r = r := by rw [IntKind.wrap_u16]; omega
        have hc' := cb HB.out (cell_ltL hc) hc
        have hne : b2 ≠ w.heap.size := Nat.ne_of_lt (cell_ltL hc)
        have hne' : w.heap.size ≠ b2 := hne.symm
        have c1 := HO.out.cellAt HL.out hlt
        have z1 := HO.out.frozenAt HL.out k
        have mz : ((m : Int) == 0) = false := beq_eq_false_iff_ne.2 (by omega)
        have mz' : ((m : Int) != 0) = true := bne_iff_ne.2 (by omega)
        have hj0 : (0 : Int) ≤ (j : Int) := by omega
        have hj1 : (j : Int) < (m : Int) := by omega
        have H5 := hide (And.intro (show (L.set k r).length = n by rw [List.length_set]; exact HL.out) (And.intro (show ∀ q ∈ L.set k r, 0 ≤ q ∧ q ≤ top from fun q' h' => by
          rcases List.mem_or_eq_of_mem_set h' with h' | rfl
          · exact hq.out q' h'
          · exact hr1) (And.intro (HO.out.stored HL.out k r) (bs HB.out (Nat.le_refl _) (b := w.heap.size) (o := k) (.int .u16 r)))))
        clear hj hjm hq0 hr0 hm0
        go_upto_region 8 with fail
        go_region
        all_goals
          go_wp2
          go_roundw
          case rel => exact ⟨k + 1, by omega, by go_num, ⟨_, H5.out.1, H5.out.2.1, H5.out.2.2.1.below (bd (Below.refl _ _))⟩, bd H5.out.2.2.2⟩
          case measure => simp [intOf]; omega
    · obtain rfl : k = n := by omega
      obtain ⟨_, _, hv, _, _, hrow, _, _⟩ := own_row HO.out HL.out n0
      simp only [Value.slice.injEq, Option.some.injEq, Addr.mk.injEq, and_true, true_and] at hv
      obtain ⟨rfl, rfl⟩ := hv
      have hmx : mxTo L k ≤ top := by
        have := (mx_all (xs := L) (by rw [HL.out]; exact n0)).2 (fun x hx => (hq.out x hx).2)
        rw [HL.out] at this
        exact this
      have CO := fun W hr => of_yes x y z top HCD.out L k HL.out (some ⟨w.heap.size, 0, none⟩) k HN.out (fun x hx => ⟨(hq.out x hx).1, by have := (hq.out x hx).2; omega⟩) hmx W hr
      have HRW := hide hrow
      clear hrow HO
      go_wp2_with (go_at_call 22; (with_reducible refine (CO _ HRW.out).mono ?_); rintro e w2 ⟨v, rfl, ⟨g, h, rfl, gB, hB, hi⟩, b2⟩; have HI := hide hi; clear hi)
      have sB := HB.out.size
      go_ret
      exact ⟨_, _, rfl, ⟨g, h, rfl, by omega, by omega, HI.out⟩, hx1.2, hy1.2, HTT.out, bt HB.out b2⟩
theorem draw_any (a b c t : Int) (xs : List Int) (ad : Option Addr) (cap : Nat) (w : World) (a0 : 0 ≤ a) (b0 : 0 ≤ b) (c0 : 0 ≤ c) (t0 : 0 ≤ t) (t1 : t ≤ 65535) (hr : RowAt .u16 w ad xs) (hx : ∀ x ∈ xs, 0 ≤ x ∧ x ≤ 65535) (hl : xs.length ≤ maxLen) :
    Calls Tryd.prog 13 #[.int .u16 a, .int .u16 b, .int .u16 c, .int .u16 t, .slice ad xs.length cap] w fun e w' => ∃ v I, e = .returned v ∧ ImgNew w.heap.size w' v I ∧ I.iw ≤ 20 ∧ I.ih ≤ 20 ∧ Below w.heap.size w w' :=
  (draw_top a b c t xs ad cap w a0 b0 c0 t0 t1 hr hx hl).mono fun _ _ ⟨v, I, h1, h2, h3, h4, _, h6⟩ => ⟨v, I, h1, h2, h3, h4, h6⟩
end Go.Proofs.YtoppojilndnghaaDoor
