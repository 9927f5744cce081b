/- Parts, joined. -/
import Derived.Test.YtaafhjngnjjcmaaGreatDoorJ41
import Derived.Test.YtaafhjngnjjcmaaGreatDoorJ45
import Derived.Test.YtaafhjngnjjcmaaGreatDoorJ40
import Derived.Test.YtaafhjngnjjcmaaGreatDoorJ25
import Derived.Test.YtaafhjngnjjcmaaGreatDoorJ27
import Derived.Test.YtaafhjngnjjcmaaGreatDoorJ38
/- What comes out: the law of stages that don't suit. -/
namespace Go.Proofs.YtaafhjngnjjcmaaGreatDoor
open Go.RowKit

theorem suits_same {I : Im} {W H : Nat} {b : Int} : suitsF I (sameS W H b) = true ↔ (I.iw = (W : Int) ∧ I.ih = (H : Int) ∧ 0 ≤ b ∧ b ≤ 2) := by
  unfold suitsF sameS
  simp only [Bool.and_eq_true, decide_eq_true_eq]
  omega
theorem step_same {I : Im} {W H : Nat} {b : Int} (hI : ImOk I) (h : suitsF I (sameS W H b) = true) : stepC I (sameS W H b) = 0 ∧ applyF I (sameS W H b) = I := by
  obtain ⟨hw, hh, _, _⟩ := suits_same.1 h
  refine ⟨?_, same_out hI h hw hh⟩
  unfold stepC
  have lx : (sameS W H b).lx.length = W := sameTo_len W
  have ly : (sameS W H b).ly.length = H := sameTo_len H
  rw [if_pos h, lx, ly, if_pos]
  obtain ⟨a0, a1, b0, b1, hc, _, _, m, _, _⟩ := hI
  exact fitsF_iff.2 ⟨by omega, by omega, by omega, by omega, hc, by rw [← hw, ← hh]; exact m⟩
theorem step_other {I : Im} {S : Stg} (h : suitsF I S = false) : stepC I S = 6 := by
  unfold stepC
  rw [if_neg (by rw [h]; decide)]
set_option maxHeartbeats 4000000 in
set_option maxRecDepth 100000 in
theorem law_DirectSuits (q : Pic) (pd : Option Addr) (pc : Nat) (a c b : Int) (w : World) (hk : OpK w) (hp : PicAt w q pd pc ∧ PicFits q) (ha : 0 ≤ a ∧ a ≤ 255) (hc : 0 ≤ c ∧ c ≤ 255) (hb : -9223372036854775808 ≤ b ∧ b ≤ 9223372036854775807) :
    Calls Tryz.prog 8 #[picV q pd pc, .int .u8 a, .int .u8 c, .int .i64 b] w fun e w' => e = .returned (.bool true) ∧ Below w.heap.size w w' := by
  have K0 := hide (fun w' (b : Below w.heap.size w w') => opk_below _ _ hk b)
  have CL := fun w' (b : Below w.heap.size w w') => lives15_any w' (K0.out w' b)
  have CD := fun w' (b : Below w.heap.size w w') => pdraw_any q pd pc w' (hp.1.below b) hp.2
  obtain ⟨x, hx, x0, x1⟩ : ∃ x, a % 14 = x ∧ 0 ≤ x ∧ x ≤ 13 := ⟨_, rfl, by omega, by omega⟩
  obtain ⟨y, hy, y0, y1⟩ : ∃ y, c % 14 = y ∧ 0 ≤ y ∧ y ≤ 13 := ⟨_, rfl, by omega, by omega⟩
  obtain ⟨W, hW⟩ : ∃ W : Nat, 1 + x = (W : Int) := ⟨(1 + x).toNat, by omega⟩
  obtain ⟨H, hH⟩ : ∃ H : Nat, 1 + y = (H : Int) := ⟨(1 + y).toNat, by omega⟩
  have ra : a.tmod 14 = x := by rw [Int.tmod_eq_emod_of_nonneg ha.1, hx]
  have rc : c.tmod 14 = y := by rw [Int.tmod_eq_emod_of_nonneg hc.1, hy]
  have u1 : IntKind.u8.wrap x = x := by rw [IntKind.wrap_u8]; omega
  have u2 : IntKind.u8.wrap y = y := by rw [IntKind.wrap_u8]; omega
  have u3 : IntKind.i64.wrap x = x := by rw [IntKind.wrap_i64]; omega
  have u4 : IntKind.i64.wrap y = y := by rw [IntKind.wrap_i64]; omega
  have u5 : IntKind.i64.wrap (W : Int) = W := by rw [IntKind.wrap_i64]; omega
  have u6 : IntKind.i64.wrap (H : Int) = H := by rw [IntKind.wrap_i64]; omega
  have n14 : (14 : Int) ≠ 0 := by decide
  have CS1 := fun w => same_c W w (by omega) (by omega)
  have CS2 := fun w => same_c H w (by omega) (by omega)
  have SM := hide (same_small (W := W) (H := H) (b := b) (by omega))
  have q1 : ∀ (a : Addr) (w : World), (binOp .neq 28 (.pointer (some a)) (.pointer none)).run Tryz.prog w = .ok (.bool true) w := fun a w => by kernel_rfl
  have q2 : ∀ (a : Addr) (w : World), (binOp .eql 28 (.pointer (some a)) (.pointer none)).run Tryz.prog w = .ok (.bool false) w := fun a w => by kernel_rfl
  obtain ⟨pw, ph, pcc, pm, pl⟩ := q
  have P0 := hide (S5.new w 25 (.int .u16 pw) (.int .u16 ph) (.int .u16 pcc) (.int .u16 pm) (.slice pd pl.length pc))
  have B0 := hide (below1 w (.cells #[.int .u16 pw, .int .u16 ph, .int .u16 pcc, .int .u16 pm, .slice pd pl.length pc] 25))
  unfold picV at CD ⊢
  clear hk hp hx hy
  go_enter Tryz.func8, Tryz.ntmps8
  go_upto_region 7 with (first
    | (go_at_call 9; (with_reducible refine (CL _ B0.out).mono ?_); rintro e w1 ⟨rfl, b1⟩; have B1 := hide (bt B0.out b1); obtain ⟨⟨p0, _⟩, ⟨p1, _⟩, ⟨p2, _⟩, ⟨p3, _⟩, ⟨p4, _⟩⟩ := P0.out.below b1)
    | (go_at_call 10; (with_reducible refine (CD _ B1.out).mono ?_); rintro e w2 ⟨v2, I, rfl, ⟨g, h, rfl, gB, hB, hi⟩, i0, i1, b2⟩; have HI := hide hi; have B2 := hide (bt B1.out b2); clear hi)
    | (go_at_call 31; (with_reducible refine (CS1 _).mono ?_); rintro e w3 ⟨v3, rfl, t3, b3⟩; obtain ⟨ax, rfl⟩ := t3.ptr; have T3 := hide t3; have B3 := hide (bt B2.out b3); clear t3)
    | (go_at_call 31; (with_reducible refine (CS2 _).mono ?_); rintro e w4 ⟨v4, rfl, t4, b4⟩; obtain ⟨ay, rfl⟩ := t4.ptr; have T4 := hide t4; have X4 := hide (T3.out.below b4); have B4 := hide (bt B3.out b4); have HI4 := hide ((HI.out.below b3).below b4); clear t4))
  obtain ⟨W5, hW5⟩ : ∃ W5, w4.alloc (.cells #[.pointer (some ax), .pointer (some ay), .int .i64 b] 44) = W5 := ⟨_, rfl⟩
  have S0 := S3.new w4 44 (.pointer (some ax)) (.pointer (some ay)) (.int .i64 b)
  have bb5 := below1 w4 (.cells #[.pointer (some ax), .pointer (some ay), .int .i64 b] 44)
  rw [hW5] at S0 bb5
  have B5 := hide (bt B4.out bb5)
  have HI5 := hide (HI4.out.below bb5)
  have X5 := hide (X4.out.below bb5)
  have Y5 := hide (T4.out.below bb5)
  have S5' := hide S0
  rw [hW5]
  obtain ⟨⟨s0, _⟩, ⟨s1, _⟩, ⟨s2, _⟩⟩ := S0
  have CU := fun w' (bw : Below w.heap.size w w') (D : ImgAt w' g h I) (tx : Tab w' (.pointer (some ax)) (W : Int) (sameTo W)) (ty : Tab w' (.pointer (some ay)) (H : Int) (sameTo H)) => show Calls Tryz.prog 23 #[.pointer (some ⟨g, 0, none⟩), .agg #[.pointer (some ax), .pointer (some ay), .int .i64 b]] w' fun e w'' => e = .returned (.bool (suitsF I (sameS W H b))) ∧ Below w'.heap.size w' w'' from dir_suits (S := sameS W H b) (K0.out w' bw) D tx ty
  have CA := fun w' (bw : Below w.heap.size w w') (D : ImgAt w' g h I) (tx : Tab w' (.pointer (some ax)) (W : Int) (sameTo W)) (ty : Tab w' (.pointer (some ay)) (H : Int) (sameTo H)) => dir_apply (S := sameS W H b) (K0.out w' bw) D tx ty SM.out
  have HOK := hide HI5.out.ok
  clear hW5 bb5 b2 b3 b4
  by_cases hs : I.iw = (W : Int) ∧ I.ih = (H : Int) ∧ 0 ≤ b ∧ b ≤ 2
  · have hz := suits_same.2 hs
    obtain ⟨e1, e2, e3, e4⟩ := hs
    obtain ⟨st, sa⟩ := step_same HOK.out hz
    rw [hz] at CU
    have CA2 : ∀ w', Below w.heap.size w w' → ImgAt w' g h I → Tab w' (.pointer (some ax)) (W : Int) (sameTo W) → Tab w' (.pointer (some ay)) (H : Int) (sameTo H) → Calls Tryz.prog 16 #[.pointer (some ⟨g, 0, none⟩), .agg #[.pointer (some ax), .pointer (some ay), .int .i64 b]] w' fun e w'' => (∃ v, e = .returned (.tuple #[v, .int .i64 0]) ∧ ImgNew w'.heap.size w'' v I) ∧ Below w'.heap.size w' w'' := fun w' b1 b2 b3 b4 => (CA w' b1 b2 b3 b4).mono fun e w'' ⟨hA, hB⟩ => by
      rw [st, sa] at hA
      rcases hA with ⟨_, v, he, hi⟩ | ⟨h0, _⟩
      · exact ⟨⟨v, he, hi⟩, hB⟩
      · exact absurd rfl h0
    have CW : ∀ w', ImgAt w' g h I → Calls Tryz.prog 17 #[.pointer (some ⟨g, 0, none⟩)] w' fun e w'' => e = .returned (.int .i64 (W : Int)) ∧ w' = w'' := fun w' D => by
      have := img_width D
      rw [e1] at this
      exact this
    have CH : ∀ w', ImgAt w' g h I → Calls Tryz.prog 19 #[.pointer (some ⟨g, 0, none⟩)] w' fun e w'' => e = .returned (.int .i64 (H : Int)) ∧ w' = w'' := fun w' D => by
      have := img_height D
      rw [e2] at this
      exact this
    clear CA st sa hz
    go_wp2_with (first
      | (go_at_call 17; (with_reducible refine (CW _ HI5.out).mono ?_); rintro e w9 ⟨rfl, rfl⟩)
      | (go_at_call 19; (with_reducible refine (CH _ HI5.out).mono ?_); rintro e w9 ⟨rfl, rfl⟩)
      | (go_at_call 23; (with_reducible refine (CU _ B5.out HI5.out X5.out Y5.out).mono ?_); rintro e w6 ⟨rfl, b6⟩; have B6 := hide (bt B5.out b6); have HI6 := hide (HI5.out.below b6); have X6 := hide (X5.out.below b6); have Y6 := hide (Y5.out.below b6); have S6 := S5'.out.below b6; obtain ⟨⟨s3, _⟩, ⟨s4, _⟩, ⟨s5, _⟩⟩ := S6)
      | (go_at_call 16; (with_reducible refine (CA2 _ B6.out HI6.out X6.out Y6.out).mono ?_); rintro e w7 ⟨⟨v7, rfl, ⟨g7, h7, rfl, g7B, h7B, hj⟩⟩, b7⟩; have B7 := hide (bt B6.out b7); have HJ7 := hide hj; have HI7 := hide (HI6.out.below b7); clear hj)
      | (go_at_call 15; (with_reducible refine (img_same HJ7.out HI7.out).mono ?_); rintro e w8 ⟨rfl, d8⟩; have B8 := hide (bt B7.out d8.below); rw [imSame_self]))
    go_ret
    exact ⟨rfl, B8.out⟩
  · have hz : suitsF I (sameS W H b) = false := by
      cases e : suitsF I (sameS W H b) with
      | false => rfl
      | true => exact absurd (suits_same.1 e) hs
    have st := step_other hz
    have HZ := hide hz
    rw [hz] at CU
    have CA2 : ∀ w', Below w.heap.size w w' → ImgAt w' g h I → Tab w' (.pointer (some ax)) (W : Int) (sameTo W) → Tab w' (.pointer (some ay)) (H : Int) (sameTo H) → Calls Tryz.prog 16 #[.pointer (some ⟨g, 0, none⟩), .agg #[.pointer (some ax), .pointer (some ay), .int .i64 b]] w' fun e w'' => e = .returned (.tuple #[.pointer none, .int .i64 6]) ∧ Below w'.heap.size w' w'' := fun w' b1 b2 b3 b4 => (CA w' b1 b2 b3 b4).mono fun e w'' ⟨hA, hB⟩ => by
      rw [st] at hA
      rcases hA with ⟨h0, _⟩ | ⟨_, he⟩
      · exact absurd h0 (by decide)
      · exact ⟨he, hB⟩
    have CC2 : ∀ w' blk, Below w.heap.size w w' → ImgAt w' g h I → Tab w' (.pointer (some ax)) (W : Int) (sameTo W) → Tab w' (.pointer (some ay)) (H : Int) (sameTo H) → S3 w' blk (.pointer (some ax)) (.pointer (some ay)) (.int .i64 b) → Calls Tryz.prog 12 #[.pointer (some ⟨g, 0, none⟩), .slice (some ⟨blk, 0, none⟩) 1 1] w' fun e w'' => e = .returned (.tuple #[.pointer none, .int .i64 6]) ∧ Below w'.heap.size w' w'' := fun w' blk b1 b2 b3 b4 b5 =>
      (dir_compose (F := fun _ => sameS W H b) (K0.out w' b1) b2 (.inr ⟨blk, 0, rfl, fun j hj => by
        obtain rfl : j = 0 := by omega
        obtain ⟨⟨r0, _⟩, ⟨r1, _⟩, ⟨r2, _⟩⟩ := b5
        exact ⟨_, _, r0, r1, r2, b3, b4⟩⟩) (by unfold maxLen; omega) (fun _ _ => SM.out)).mono fun e w'' ⟨hA, hB⟩ => by
        have cc : compCode I (stgL (fun _ => sameS W H b) 1) = 6 := by
          show (if stepC I (sameS W H b) = 0 then compCode (applyF I (sameS W H b)) [] else stepC I (sameS W H b)) = 6
          rw [st, if_neg (by decide)]
        rw [cc] at hA
        rcases hA with ⟨h0, _⟩ | ⟨_, he⟩
        · exact absurd h0 (by decide)
        · exact ⟨he, hB⟩
    have CM := fun w' (bw : Below w.heap.size w w') (D : ImgAt w' g h I) (tx : Tab w' (.pointer (some ax)) (W : Int) (sameTo W)) (ty : Tab w' (.pointer (some ay)) (H : Int) (sameTo H)) => show Calls Tryz.prog 25 #[.pointer (some ⟨g, 0, none⟩), .agg #[.pointer (some ax), .pointer (some ay), .int .i64 b], .int .i64 0, .int .i64 0, .int .i64 0] w' fun e w'' => e = .returned (.int .i64 0) ∧ Below w'.heap.size w' w'' from sum_bad (S := sameS W H b) (K0.out w' bw) D tx ty HZ.out 0 0 0
    have CF := fun w' => dfits_any I.iw I.ih I.ic w'
    have fit : fitsF I.iw I.ih I.ic = true := by
      obtain ⟨a0, a1, b0, b1, hc, _, _, m, _, _⟩ := HOK.out
      exact fitsF_iff.2 ⟨a0, a1, b0, b1, hc, m⟩
    rw [fit] at CF
    have hs4 : I.iw ≠ (W : Int) ∨ (I.iw = (W : Int) ∧ I.ih ≠ (H : Int)) ∨ (I.iw = (W : Int) ∧ I.ih = (H : Int) ∧ b < 0) ∨ (I.iw = (W : Int) ∧ I.ih = (H : Int) ∧ 0 ≤ b ∧ 2 < b) := by omega
    have CW := fun w' (D : ImgAt w' g h I) => img_width D
    have CH := fun w' (D : ImgAt w' g h I) => img_height D
    have CC := fun w' (D : ImgAt w' g h I) => img_channels D
    obtain ⟨iw, hiw⟩ : ∃ iw, I.iw = iw := ⟨_, rfl⟩
    obtain ⟨ih, hih⟩ : ∃ ih, I.ih = ih := ⟨_, rfl⟩
    obtain ⟨ic, hic⟩ : ∃ ic, I.ic = ic := ⟨_, rfl⟩
    rw [hiw] at CW CF hs4
    rw [hih] at CH CF hs4
    rw [hic] at CC CF
    clear CA st hz hs fit
    rcases hs4 with e1 | ⟨rfl, e2⟩ | ⟨rfl, rfl, e3⟩ | ⟨rfl, rfl, e3, e4⟩
    all_goals
      go_wp2_with (first
        | (go_at_call 17; (first | with_reducible refine (CW _ HI5.out).mono ?_ | with_reducible refine (CW _ HI10.out).mono ?_); rintro e w9 ⟨rfl, rfl⟩)
        | (go_at_call 19; (first | with_reducible refine (CH _ HI5.out).mono ?_ | with_reducible refine (CH _ HI10.out).mono ?_); rintro e w9 ⟨rfl, rfl⟩)
        | (go_at_call 29; (with_reducible refine (CC _ HI10.out).mono ?_); rintro e w9 ⟨rfl, rfl⟩)
        | (go_at_call 32; (with_reducible refine (CF _).mono ?_); rintro e w9 ⟨rfl, rfl⟩)
        | (go_at_call 23; (with_reducible refine (CU _ B5.out HI5.out X5.out Y5.out).mono ?_); rintro e w6 ⟨rfl, b6⟩; have B6 := hide (bt B5.out b6); have HI6 := hide (HI5.out.below b6); have X6 := hide (X5.out.below b6); have Y6 := hide (Y5.out.below b6); have S6 := hide (S5'.out.below b6); obtain ⟨⟨s3, _⟩, ⟨s4, _⟩, ⟨s5, _⟩⟩ := S6.out)
        | (go_at_call 16; (with_reducible refine (CA2 _ B6.out HI6.out X6.out Y6.out).mono ?_); rintro e w7 ⟨rfl, b7⟩; have B7 := hide (ba (bt B6.out b7) (.cells #[.pointer (some ax), .pointer (some ay), .int .i64 b] 44)); have HI7 := hide ((HI6.out.below b7).below (below1 _ (.cells #[.pointer (some ax), .pointer (some ay), .int .i64 b] 44))); have X7 := hide ((X6.out.below b7).below (below1 _ (.cells #[.pointer (some ax), .pointer (some ay), .int .i64 b] 44))); have Y7 := hide ((Y6.out.below b7).below (below1 _ (.cells #[.pointer (some ax), .pointer (some ay), .int .i64 b] 44))); have S7 := hide (S6.out.below b7); have N7 := hide (S3.new w7 44 (.pointer (some ax)) (.pointer (some ay)) (.int .i64 b)); obtain ⟨⟨s6, _⟩, ⟨s7, _⟩, ⟨s8, _⟩⟩ := S7.out)
        | (go_at_call 12; (with_reducible refine (CC2 _ _ B7.out HI7.out X7.out Y7.out N7.out).mono ?_); rintro e w8 ⟨rfl, b8⟩; have B8 := hide (bt B7.out b8); have HI8 := hide (HI7.out.below b8); have X8 := hide (X7.out.below b8); have Y8 := hide (Y7.out.below b8); have S8 := (S7.out.below (below1 _ (.cells #[.pointer (some ax), .pointer (some ay), .int .i64 b] 44))).below b8; obtain ⟨⟨s9, _⟩, ⟨s10, _⟩, ⟨s11, _⟩⟩ := S8)
        | (go_at_call 25; (with_reducible refine (CM _ B8.out HI8.out X8.out Y8.out).mono ?_); rintro e w10 ⟨rfl, b10⟩; have B10 := hide (bt B8.out b10); have HI9 := hide (HI8.out.below b10))
        | (go_at_call 23; (with_reducible refine dir_lacks.mono ?_); rintro e w11 ⟨rfl, b11⟩; have B11 := hide (bt B10.out b11); have HI10 := hide (HI9.out.below b11)))
      go_ret
      exact ⟨rfl, B11.out⟩
end Go.Proofs.YtaafhjngnjjcmaaGreatDoor
