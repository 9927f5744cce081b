/- The law on nil images; the law on sizes. -/
import Derived.Test.YtcamllahcjonkaaS09I
namespace Go.Proofs.Ytcamllahcjonkaa
open Go.RowKit

theorem law_RasterNil (a b c t : Int) (xs : List Int) (ad : Option Addr) (cap : Nat) (w : World) (ha : 0 ≤ a ∧ a ≤ 65535) (hb : 0 ≤ b ∧ b ≤ 65535) (hc : 0 ≤ c ∧ c ≤ 65535) (ht : 0 ≤ t ∧ t ≤ 65535) (hr : RowAt .u16 w ad xs) (hx : AllK .u16 xs) (hl : xs.length ≤ maxLen) (_ : ad = none → cap = 0) :
    Calls Try.prog 7 #[.int .u16 a, .int .u16 b, .int .u16 c, .int .u16 t, .slice ad xs.length cap] w fun e w' => e = .returned (.bool true) ∧ Below w.heap.size w w' := by
  have CD := fun w hr => draw_any a b c t xs ad cap w ha.1 hb.1 hc.1 ht.1 ht.2 hr (allU hx) hl
  have HR := hide hr
  have q1 : ∀ (g : Nat) (w : World), (binOp .neq 25 (.pointer (some ⟨g, 0, none⟩)) (.pointer none)).run Try.prog w = .ok (.bool true) w := fun g w => by kernel_rfl
  clear hr hx hl ha hb hc ht
  generalize xs.length = n at *
  go_enter Try.func7, Try.ntmps7
  go_wp2_with (first
    | (go_at_call 8; (with_reducible refine (rlives9 _).mono ?_); rintro e w1 ⟨rfl, b1⟩)
    | (go_at_call 9; (with_reducible refine (CD _ (HR.out.below b1)).mono ?_); rintro e w2 ⟨v, I, rfl, ⟨g, h, rfl, gB, hB, hi⟩, _, _, b2⟩; have HI := hide hi; have CS := img_same hi hi; rw [imSame_self] at CS; clear hi)
    | (go_at_call 29; (with_reducible refine (nil_same_nil _).mono ?_); rintro e w3 ⟨rfl, rfl⟩)
    | (go_at_call 29; (with_reducible refine (nil_same _ _).mono ?_); rintro e w3 ⟨rfl, rfl⟩)
    | (go_at_call 29; (with_reducible refine (same_nil _ _).mono ?_); rintro e w3 ⟨rfl, rfl⟩)
    | (go_at_call 29; (with_reducible refine CS.mono ?_); rintro e w3 ⟨rfl, d3⟩))
  go_ret
  exact ⟨rfl, bt (bt b1 b2) d3.below⟩
theorem law_RasterCodes (a b c t : Int) (w : World) (_ : -9223372036854775808 ≤ a ∧ a ≤ 9223372036854775807) (_ : -9223372036854775808 ≤ b ∧ b ≤ 9223372036854775807) (_ : -9223372036854775808 ≤ c ∧ c ≤ 9223372036854775807) (_ : -9223372036854775808 ≤ t ∧ t ≤ 9223372036854775807) :
    Calls Try.prog 4 #[.int .i64 a, .int .i64 b, .int .i64 c, .int .i64 t] w fun e w' => e = .returned (.bool true) ∧ Below w.heap.size w w' := by
  have C1 := dcode_any a b c t
  have C2 := rfits_any a b c
  have C3 := dfits_any a b c
  have qf : ∀ x : Bool, (x != x) = false := by intro x; cases x <;> rfl
  by_cases h0 : codeF a b c t = 0
  · have CN := new_yes a b c t h0
    obtain ⟨t0, t1, a0, a1, b0, b1, hc, hm⟩ := codeF_zero h0
    obtain ⟨m0, m1⟩ := side_mul a0 a1 b0 b1
    obtain ⟨p0, p1⟩ := side_mul3 a0 a1 b0 b1 hc
    rw [h0] at C1
    by_cases hbig : 5000 < a * b * c
    · clear h0 hc CN
      generalize fitsF a b c = f at *
      go_enter Try.func4, Try.ntmps4
      go_wp2_with (first
        | (go_at_call 8; (with_reducible refine (rlives9 _).mono ?_); rintro e w1 ⟨rfl, b1⟩)
        | (go_at_call 17; (with_reducible refine (C1 _).mono ?_); rintro e w2 ⟨rfl, rfl⟩)
        | (go_at_call 18; (with_reducible refine (C2 _).mono ?_); rintro e w3 ⟨rfl, rfl⟩)
        | (go_at_call 19; (with_reducible refine (C3 _).mono ?_); rintro e w4 ⟨rfl, rfl⟩))
      go_ret
      exact ⟨rfl, b1⟩
    · obtain ⟨n, hn⟩ : ∃ n : Nat, (n : Int) = a * b * c := ⟨_, Int.toNat_of_nonneg (by omega)⟩
      rw [show (a * b * c).toNat = n by omega] at CN
      have HL := hide (List.length_replicate (n := n) (a := (0 : Int)))
      have HZ := hide (fun (k : Nat) (hk : k < n) => show (List.replicate n (0 : Int)).getD k 0 = 0 by rw [List.getD_eq_getElem?_getD, List.getElem?_replicate, if_pos hk]; rfl)
      have n0 : 1 ≤ n := by omega
      have n1 : n ≤ 5000 := by omega
      have qn : ((n : Int) == a * b * c) = true := by rw [hn]; simp
      have qa : (a == a) = true := by simp
      have qb : (b == b) = true := by simp
      have qc : (c == c) = true := by simp
      have qt : (t == t) = true := by simp
      have q1 : ∀ (g : Nat) (w : World), (binOp .eql 25 (.pointer (some ⟨g, 0, none⟩)) (.pointer none)).run Try.prog w = .ok (.bool false) w := fun g w => by kernel_rfl
      generalize List.replicate n (0 : Int) = L at *
      have E0 := hide (show (⟨a, b, c, t, L⟩ : Im).iw = a from rfl)
      have E1 := hide (show (⟨a, b, c, t, L⟩ : Im).ih = b from rfl)
      have E2 := hide (show (⟨a, b, c, t, L⟩ : Im).ic = c from rfl)
      have E3 := hide (show (⟨a, b, c, t, L⟩ : Im).it = t from rfl)
      have E4 := hide (show (⟨a, b, c, t, L⟩ : Im).il = L from rfl)
      obtain ⟨I, hI⟩ : ∃ I, (⟨a, b, c, t, L⟩ : Im) = I := ⟨_, rfl⟩
      rw [hI] at CN E0 E1 E2 E3 E4
      have HN := hide hn
      clear h0 hc hI hn
      generalize fitsF a b c = f at *
      go_enter Try.func4, Try.ntmps4
      go_wp2_with (first
        | (go_at_call 8; (with_reducible refine (rlives9 _).mono ?_); rintro e w1 ⟨rfl, b1⟩)
        | (go_at_call 17; (with_reducible refine (C1 _).mono ?_); rintro e w2 ⟨rfl, rfl⟩)
        | (go_at_call 18; (with_reducible refine (C2 _).mono ?_); rintro e w3 ⟨rfl, rfl⟩)
        | (go_at_call 19; (with_reducible refine (C3 _).mono ?_); rintro e w4 ⟨rfl, rfl⟩)
        | (go_at_call 20; (with_reducible refine (CN _).mono ?_); rintro e w5 ⟨v, rfl, ⟨g, h, rfl, gB, hB, hi⟩, b5⟩; have HI := hide hi; clear hi)
        | (go_at_call 15; (with_reducible refine (img_samples HI.out).mono ?_); rintro e w6 ⟨v2, rfl, own2, b6⟩; rw [E4.out] at own2; obtain ⟨bl, cap2, rfl, _, _, hr2, _, _⟩ := own_row own2 HL.out n0; have HR2 := hide hr2; clear own2 hr2))
      have B6 := hide (bt (bt b1 b5) b6)
      have HI6 := hide (HI.out.below b6)
      clear b1 b5 b6 HI CN C1 C2 C3
      go_loopw [63] (fun i wr => ∃ k : Nat, k ≤ n ∧ i = .int .i64 (k : Int) ∧ wr = w6) (fun i _ => n - (intOf i).toNat)
      case atStart => exact ⟨0, by omega, rfl, rfl⟩
      case round =>
        obtain ⟨k, hk, rfl, rfl⟩ := hrel
        by_cases hlt : k < n
        · have hcell := HR2.out.at (show k < L.length by rw [HL.out]; exact hlt)
          rw [HZ.out k hlt, Nat.zero_add] at hcell
          go_wp2
          go_roundw
          case rel => exact ⟨k + 1, by omega, by go_num, trivial⟩
          case measure => simp [intOf]; omega
        · obtain rfl : k = n := by omega
          clear hlt
          have CW := img_width HI6.out
          have CH := img_height HI6.out
          have CC := img_channels HI6.out
          have CT := img_most HI6.out
          rw [E0.out] at CW
          rw [E1.out] at CH
          rw [E2.out] at CC
          rw [E3.out] at CT
          go_wp2_with (first
            | (go_at_call 16; (with_reducible refine CW.mono ?_); rintro e w7 ⟨rfl, rfl⟩)
            | (go_at_call 10; (with_reducible refine CH.mono ?_); rintro e w7 ⟨rfl, rfl⟩)
            | (go_at_call 13; (with_reducible refine CC.mono ?_); rintro e w7 ⟨rfl, rfl⟩)
            | (go_at_call 21; (with_reducible refine CT.mono ?_); rintro e w7 ⟨rfl, rfl⟩)
            | (go_at_call 15; (with_reducible refine (img_samples HI6.out).mono ?_); rintro e w8 ⟨v2, rfl, own2, b8⟩; rw [E4.out] at own2; obtain ⟨bl2, cap3, rfl, _, _, hr2, _, _⟩ := own_row own2 HL.out n0; clear own2 hr2))
          go_ret
          exact ⟨rfl, bt B6.out b8⟩
  · have CN := new_no a b c t h0
    obtain ⟨k0, k1⟩ := codeF_in a b c t
    generalize codeF a b c t = k at *
    have hk : (k == 0) = false := beq_eq_false_iff_ne.2 h0
    have hk' : (k != 0) = true := bne_iff_ne.2 h0
    have hkk : (k != k) = false := by simp
    have q1 : ∀ (w : World), (binOp .eql 25 (.pointer none) (.pointer none)).run Try.prog w = .ok (.bool true) w := fun w => by kernel_rfl
    clear h0
    generalize fitsF a b c = f at *
    go_enter Try.func4, Try.ntmps4
    go_wp2_with (first
      | (go_at_call 8; (with_reducible refine (rlives9 _).mono ?_); rintro e w1 ⟨rfl, b1⟩)
      | (go_at_call 17; (with_reducible refine (C1 _).mono ?_); rintro e w2 ⟨rfl, rfl⟩)
      | (go_at_call 18; (with_reducible refine (C2 _).mono ?_); rintro e w3 ⟨rfl, rfl⟩)
      | (go_at_call 19; (with_reducible refine (C3 _).mono ?_); rintro e w4 ⟨rfl, rfl⟩)
      | (go_at_call 20; (with_reducible refine (CN _).mono ?_); rintro e w5 ⟨rfl, rfl⟩))
    go_ret
    exact ⟨rfl, b1⟩
end Go.Proofs.Ytcamllahcjonkaa
