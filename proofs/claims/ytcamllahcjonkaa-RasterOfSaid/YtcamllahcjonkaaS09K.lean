/- The law on samples that are handed in. Written by gen_XS09K.py. -/
import Derived.Test.YtcamllahcjonkaaS09I
namespace Go.Proofs.Ytcamllahcjonkaa
open Go.RowKit

/-- What is wrong so far. -/
def wantTo (t : Int) (xs : List Int) : Nat → Int
  | 0 => 0
  | k + 1 => if wantTo t xs k = 0 ∧ t < xs.getD k 0 then 4 else wantTo t xs k
theorem wantTo_or (t : Int) (xs : List Int) : ∀ k, wantTo t xs k = 0 ∨ wantTo t xs k = 4
  | 0 => .inl rfl
  | k + 1 => by
    have := wantTo_or t xs k
    show (if wantTo t xs k = 0 ∧ t < xs.getD k 0 then (4 : Int) else wantTo t xs k) = 0 ∨ _
    split
    · exact .inr (by show (if wantTo t xs k = 0 ∧ t < xs.getD k 0 then (4 : Int) else wantTo t xs k) = 4; rw [if_pos (by assumption)])
    · rcases this with e | e
      · exact .inl e
      · exact .inr (by show (if wantTo t xs k = 0 ∧ t < xs.getD k 0 then (4 : Int) else wantTo t xs k) = 4; rw [if_neg (by assumption)]; exact e)
theorem wantTo_zero {t : Int} {xs : List Int} : ∀ k, wantTo t xs k = 0 ↔ ∀ j, j < k → xs.getD j 0 ≤ t
  | 0 => ⟨fun _ _ h => absurd h (Nat.not_lt_zero _), fun _ => rfl⟩
  | k + 1 => by
    have ih := wantTo_zero (t := t) (xs := xs) k
    show (if wantTo t xs k = 0 ∧ t < xs.getD k 0 then (4 : Int) else wantTo t xs k) = 0 ↔ _
    constructor
    · intro h
      split at h
      · omega
      · rename_i hn
        intro j hj
        by_cases e : j = k
        · subst e
          by_cases q : t < xs.getD j 0
          · exact absurd ⟨h, q⟩ hn
          · omega
        · exact ih.1 h j (by omega)
    · intro h
      have h1 := h k (by omega)
      rw [if_neg (by omega)]
      exact ih.2 (fun j hj => h j (by omega))
theorem wantTo_end {t : Int} {xs : List Int} {n : Nat} (h : 1 ≤ n) : wantTo t xs n = if mxTo xs n ≤ t then 0 else 4 := by
  split
  · exact (wantTo_zero n).2 ((mxTo_le n h).1 (by assumption))
  · rename_i q
    rcases wantTo_or t xs n with e | e
    · exact absurd ((mxTo_le n h).2 ((wantTo_zero n).1 e)) q
    · exact e
set_option maxHeartbeats 1000000 in
theorem rasterof_a (a b c t : Int) (xs : List Int) (n : Nat) (hn : xs.length = n) (ad : Option Addr) (cap : Nat) (w : World) (hr : RowAt .u16 w ad xs) (hx : ∀ x ∈ xs, 0 ≤ x ∧ x ≤ 65535) (hz : ad = none → cap = 0) (hs : n ≤ 5000) (h : codeF a b c t ≠ 0) :
    Calls Try.prog 5 #[.int .i64 a, .int .i64 b, .int .i64 c, .int .i64 t, .slice ad n cap] w fun e w' => e = .returned (.bool true) ∧ Below w.heap.size w w' := by
  have C1 := dcode_any a b c t
  have CO := fun (n cap : Nat) ad w => of_no1 a b c t h ad n cap w
  generalize codeF a b c t = v at *
  have hv : (v == 0) = false := beq_eq_false_iff_ne.2 h
  have hv' : (v != 0) = true := bne_iff_ne.2 h
  have hvv : (v != v) = false := by simp
  clear h
  have HR := hide hr
  have HN := hide hn
  have HX := hide hx
  have HZ := hide hz
  obtain ⟨i0, hi, hz0, hz1, hz2⟩ := info_parts infoU16
  have q1 : ∀ (w : World), (binOp .eql 25 (.pointer none) (.pointer none)).run Try.prog w = .ok (.bool true) w := fun w => by kernel_rfl
  clear hr hn hx hz
  go_enter Try.func5, Try.ntmps5
  go_wp2_with (first
    | (go_at_call 8; (with_reducible refine (rlives9 _).mono ?_); rintro e w1 ⟨rfl, b1⟩)
    | (go_at_call 17; (with_reducible refine (C1 _).mono ?_); rintro e w2 ⟨rfl, rfl⟩))
  go_loopw [11, 52] (fun x i wr => ∃ k : Nat, k ≤ n ∧ i = .int .i64 (k : Int) ∧ x = .int .i64 v ∧ w1 = wr) (fun _ i _ => n - (intOf i).toNat)
  case atStart => exact ⟨0, by omega, rfl, rfl, rfl⟩
  case round =>
    obtain ⟨k, hk, rfl, rfl, rfl⟩ := hrel
    by_cases hlt : k < n
    · obtain ⟨b', off, rfl, hc⟩ := (HR.out.below b1).get (show k < xs.length by rw [HN.out]; exact hlt)
      have hu := allK_u16 HX.out (show k < xs.length by rw [HN.out]; exact hlt)
      generalize xs.getD k 0 = u at *
      go_wp2
      go_roundw
      case rel => exact ⟨k + 1, by omega, by go_num, rfl, trivial⟩
      case measure => simp [intOf]; omega
    · obtain rfl : k = n := by omega
      clear hlt
      go_wp2_with (first
        | (at_builtin; refine wpList_append_row .u16 _ rfl _ _ 23 rfl w.heap.size 22 i0 (.int .u16 0) 2 Try.underlying23 hi hz0 hz1 hz2 rfl (.slice (some ⟨w1.heap.size, 0, none⟩) 0 0) [] rfl (own_lit0 _ _ _ _ (b1.size)) ad k cap xs rfl HN.out (HR.out.below (ba b1 _)) HZ.out (by simp; unfold maxLen; omega) (by simp; omega) (by have := b1.size; simp; omega) ?_; intro v3 w3 own3 grow3 _; have b3 := hide (grown_lit b1 grow3); rw [List.nil_append] at own3; have HO3 := hide own3; clear own3 grow3)
        | (go_at_call 22; obtain ⟨ad3, cap3, rfl, hr3, _⟩ := HO3.out.formn HN.out; have HR3 := hide hr3; clear hr3; (with_reducible refine (CO _ _ _ _).mono ?_); rintro e w4 ⟨rfl, rfl⟩))
      go_ret
      exact ⟨rfl, b3.out⟩
set_option maxHeartbeats 1000000 in
theorem rasterof_b (a b c t : Int) (xs : List Int) (n : Nat) (hn : xs.length = n) (ad : Option Addr) (cap : Nat) (w : World) (hr : RowAt .u16 w ad xs) (hx : ∀ x ∈ xs, 0 ≤ x ∧ x ≤ 65535) (hz : ad = none → cap = 0) (hs : n ≤ 5000) (h : codeF a b c t = 0) (hne : (n : Int) ≠ a * b * c) (h5 : a * b * c ≤ 5000) :
    Calls Try.prog 5 #[.int .i64 a, .int .i64 b, .int .i64 c, .int .i64 t, .slice ad n cap] w fun e w' => e = .returned (.bool true) ∧ Below w.heap.size w w' := by
  have C1 := dcode_any a b c t
  rw [h] at C1
  obtain ⟨t0, t1, a0, a1, b0, b1', hc, hm⟩ := codeF_zero h
  obtain ⟨m0, m1⟩ := side_mul a0 a1 b0 b1'
  obtain ⟨p0, p1⟩ := side_mul3 a0 a1 b0 b1' hc
  have CO := fun (cap : Nat) ad w => of_no2 a b c t h ad n cap hne w
  have hq : (a * b * c != (n : Int)) = true := bne_iff_ne.2 (fun e => hne e.symm)
  clear h hne hc
  have HR := hide hr
  have HN := hide hn
  have HX := hide hx
  have HZ := hide hz
  obtain ⟨i0, hi, hz0, hz1, hz2⟩ := info_parts infoU16
  have q1 : ∀ (w : World), (binOp .eql 25 (.pointer none) (.pointer none)).run Try.prog w = .ok (.bool true) w := fun w => by kernel_rfl
  clear hr hn hx hz
  go_enter Try.func5, Try.ntmps5
  go_wp2_with (first
    | (go_at_call 8; (with_reducible refine (rlives9 _).mono ?_); rintro e w1 ⟨rfl, b1⟩)
    | (go_at_call 17; (with_reducible refine (C1 _).mono ?_); rintro e w2 ⟨rfl, rfl⟩))
  go_loopw [11, 52] (fun x i wr => ∃ k : Nat, k ≤ n ∧ i = .int .i64 (k : Int) ∧ x = .int .i64 2 ∧ w1 = wr) (fun _ i _ => n - (intOf i).toNat)
  case atStart => exact ⟨0, by omega, rfl, rfl, rfl⟩
  case round =>
    obtain ⟨k, hk, rfl, rfl, rfl⟩ := hrel
    by_cases hlt : k < n
    · obtain ⟨b', off, rfl, hc⟩ := (HR.out.below b1).get (show k < xs.length by rw [HN.out]; exact hlt)
      have hu := allK_u16 HX.out (show k < xs.length by rw [HN.out]; exact hlt)
      generalize xs.getD k 0 = u at *
      go_wp2
      go_roundw
      case rel => exact ⟨k + 1, by omega, by go_num, rfl, trivial⟩
      case measure => simp [intOf]; omega
    · obtain rfl : k = n := by omega
      clear hlt
      go_wp2_with (first
        | (at_builtin; refine wpList_append_row .u16 _ rfl _ _ 23 rfl w.heap.size 22 i0 (.int .u16 0) 2 Try.underlying23 hi hz0 hz1 hz2 rfl (.slice (some ⟨w1.heap.size, 0, none⟩) 0 0) [] rfl (own_lit0 _ _ _ _ (b1.size)) ad k cap xs rfl HN.out (HR.out.below (ba b1 _)) HZ.out (by simp; unfold maxLen; omega) (by simp; omega) (by have := b1.size; simp; omega) ?_; intro v3 w3 own3 grow3 _; have b3 := hide (grown_lit b1 grow3); rw [List.nil_append] at own3; have HO3 := hide own3; clear own3 grow3)
        | (go_at_call 22; obtain ⟨ad3, cap3, rfl, hr3, _⟩ := HO3.out.formn HN.out; have HR3 := hide hr3; clear hr3; (with_reducible refine (CO _ _ _).mono ?_); rintro e w4 ⟨rfl, rfl⟩))
      go_ret
      exact ⟨rfl, b3.out⟩
set_option maxHeartbeats 1000000 in
theorem rasterof_c (a b c t : Int) (xs : List Int) (n : Nat) (hn : xs.length = n) (ad : Option Addr) (cap : Nat) (w : World) (hr : RowAt .u16 w ad xs) (hx : ∀ x ∈ xs, 0 ≤ x ∧ x ≤ 65535) (hz : ad = none → cap = 0) (hs : n ≤ 5000) (h : codeF a b c t = 0) (he : (n : Int) = a * b * c) (hmx : t < mxTo xs n) :
    Calls Try.prog 5 #[.int .i64 a, .int .i64 b, .int .i64 c, .int .i64 t, .slice ad n cap] w fun e w' => e = .returned (.bool true) ∧ Below w.heap.size w w' := by
  have C1 := dcode_any a b c t
  rw [h] at C1
  obtain ⟨t0, t1, a0, a1, b0, b1', hc, hm⟩ := codeF_zero h
  obtain ⟨m0, m1⟩ := side_mul a0 a1 b0 b1'
  obtain ⟨p0, p1⟩ := side_mul3 a0 a1 b0 b1' hc
  have CO := fun (cap : Nat) ad w hr => of_no3 a b c t h xs n hn ad cap he hx hmx w hr
  have hq : (a * b * c != (n : Int)) = false := by rw [he]; simp
  have HE := hide (show wantTo t xs n = 4 by rw [wantTo_end (by omega), if_neg (by omega)])
  clear h he hc hmx
  have HR := hide hr
  have HN := hide hn
  have HX := hide hx
  have HZ := hide hz
  obtain ⟨i0, hi, hz0, hz1, hz2⟩ := info_parts infoU16
  have q1 : ∀ (w : World), (binOp .eql 25 (.pointer none) (.pointer none)).run Try.prog w = .ok (.bool true) w := fun w => by kernel_rfl
  clear hr hn hx hz
  go_enter Try.func5, Try.ntmps5
  go_wp2_with (first
    | (go_at_call 8; (with_reducible refine (rlives9 _).mono ?_); rintro e w1 ⟨rfl, b1⟩)
    | (go_at_call 17; (with_reducible refine (C1 _).mono ?_); rintro e w2 ⟨rfl, rfl⟩))
  go_loopw [11, 52] (fun x i wr => ∃ k : Nat, k ≤ n ∧ i = .int .i64 (k : Int) ∧ x = .int .i64 (wantTo t xs k) ∧ w1 = wr) (fun _ i _ => n - (intOf i).toNat)
  case atStart => exact ⟨0, by omega, rfl, rfl, rfl⟩
  case round =>
    obtain ⟨k, hk, rfl, rfl, rfl⟩ := hrel
    by_cases hlt : k < n
    · obtain ⟨b', off, rfl, hc⟩ := (HR.out.below b1).get (show k < xs.length by rw [HN.out]; exact hlt)
      have hu := allK_u16 HX.out (show k < xs.length by rw [HN.out]; exact hlt)
      have HW := hide (show wantTo t xs (k + 1) = if wantTo t xs k = 0 ∧ t < xs.getD k 0 then (4 : Int) else wantTo t xs k from rfl)
      generalize xs.getD k 0 = u at *
      rcases wantTo_or t xs k with e | e
      · rw [e] at HW ⊢
        by_cases hq : t < u
        · have HV := hide (show wantTo t xs (k + 1) = 4 by rw [HW.out, if_pos ⟨rfl, hq⟩])
          clear e HW
          go_wp2
          go_roundw
          case rel => exact ⟨k + 1, by omega, by go_num, by rw [HV.out], trivial⟩
          case measure => simp [intOf]; omega
        · have hq' : u ≤ t := by omega
          have HV := hide (show wantTo t xs (k + 1) = 0 by rw [HW.out, if_neg (fun q => hq q.2)])
          clear e HW hq
          go_wp2
          go_roundw
          case rel => exact ⟨k + 1, by omega, by go_num, by rw [HV.out], trivial⟩
          case measure => simp [intOf]; omega
      · rw [e] at HW ⊢
        have HV := hide (show wantTo t xs (k + 1) = 4 by rw [HW.out, if_neg (fun q => absurd q.1 (by decide))])
        clear e HW
        go_wp2
        go_roundw
        case rel => exact ⟨k + 1, by omega, by go_num, by rw [HV.out], trivial⟩
        case measure => simp [intOf]; omega
    · obtain rfl : k = n := by omega
      clear hlt
      rw [HE.out]
      go_wp2_with (first
        | (at_builtin; refine wpList_append_row .u16 _ rfl _ _ 23 rfl w.heap.size 22 i0 (.int .u16 0) 2 Try.underlying23 hi hz0 hz1 hz2 rfl (.slice (some ⟨w1.heap.size, 0, none⟩) 0 0) [] rfl (own_lit0 _ _ _ _ (b1.size)) ad k cap xs rfl HN.out (HR.out.below (ba b1 _)) HZ.out (by simp; unfold maxLen; omega) (by simp; omega) (by have := b1.size; simp; omega) ?_; intro v3 w3 own3 grow3 _; have b3 := hide (grown_lit b1 grow3); rw [List.nil_append] at own3; have HO3 := hide own3; clear own3 grow3)
        | (go_at_call 22; obtain ⟨ad3, cap3, rfl, hr3, _⟩ := HO3.out.formn HN.out; have HR3 := hide hr3; clear hr3; (with_reducible refine (CO _ _ _ HR3.out).mono ?_); rintro e w4 ⟨rfl, rfl⟩))
      go_ret
      exact ⟨rfl, b3.out⟩
set_option maxHeartbeats 2000000 in
theorem rasterof_d (a b c t : Int) (xs : List Int) (n : Nat) (hn : xs.length = n) (ad : Option Addr) (cap : Nat) (w : World) (hr : RowAt .u16 w ad xs) (hx : ∀ x ∈ xs, 0 ≤ x ∧ x ≤ 65535) (hz : ad = none → cap = 0) (hs : n ≤ 5000) (h : codeF a b c t = 0) (he : (n : Int) = a * b * c) (hmx : mxTo xs n ≤ t) :
    Calls Try.prog 5 #[.int .i64 a, .int .i64 b, .int .i64 c, .int .i64 t, .slice ad n cap] w fun e w' => e = .returned (.bool true) ∧ Below w.heap.size w w' := by
  have C1 := dcode_any a b c t
  rw [h] at C1
  obtain ⟨t0, t1, a0, a1, b0, b1', hc, hm⟩ := codeF_zero h
  obtain ⟨m0, m1⟩ := side_mul a0 a1 b0 b1'
  obtain ⟨p0, p1⟩ := side_mul3 a0 a1 b0 b1' hc
  have n0 : 1 ≤ n := by omega
  have CO := fun (cap : Nat) ad w hr => of_yes a b c t h xs n hn ad cap he hx hmx w hr
  have hq : (a * b * c != (n : Int)) = false := by rw [he]; simp
  have HE := hide (show wantTo t xs n = 0 by rw [wantTo_end (by omega), if_pos hmx])
  have CS := fun ad bd cap cap' w hr hq => dsame_any xs xs n n hn hn ad bd cap cap' (by omega) w hr hq
  rw [show decide (xs = xs) = true from decide_eq_true rfl] at CS
  clear h he hc hmx
  have HR := hide hr
  have HN := hide hn
  have HX := hide hx
  have HZ := hide hz
  obtain ⟨i0, hi, hz0, hz1, hz2⟩ := info_parts infoU16
  have q1 : ∀ (g : Nat) (w : World), (binOp .eql 25 (.pointer (some ⟨g, 0, none⟩)) (.pointer none)).run Try.prog w = .ok (.bool false) w := fun g w => by kernel_rfl
  clear hr hn hx hz
  go_enter Try.func5, Try.ntmps5
  go_wp2_with (first
    | (go_at_call 8; (with_reducible refine (rlives9 _).mono ?_); rintro e w1 ⟨rfl, b1⟩)
    | (go_at_call 17; (with_reducible refine (C1 _).mono ?_); rintro e w2 ⟨rfl, rfl⟩))
  go_loopw [11, 52] (fun x i wr => ∃ k : Nat, k ≤ n ∧ i = .int .i64 (k : Int) ∧ x = .int .i64 (wantTo t xs k) ∧ w1 = wr) (fun _ i _ => n - (intOf i).toNat)
  case atStart => exact ⟨0, by omega, rfl, rfl, rfl⟩
  case round =>
    obtain ⟨k, hk, rfl, rfl, rfl⟩ := hrel
    by_cases hlt : k < n
    · obtain ⟨b', off, rfl, hc⟩ := (HR.out.below b1).get (show k < xs.length by rw [HN.out]; exact hlt)
      have hu := allK_u16 HX.out (show k < xs.length by rw [HN.out]; exact hlt)
      have HW := hide (show wantTo t xs (k + 1) = if wantTo t xs k = 0 ∧ t < xs.getD k 0 then (4 : Int) else wantTo t xs k from rfl)
      generalize xs.getD k 0 = u at *
      rcases wantTo_or t xs k with e | e
      · rw [e] at HW ⊢
        by_cases hq : t < u
        · have HV := hide (show wantTo t xs (k + 1) = 4 by rw [HW.out, if_pos ⟨rfl, hq⟩])
          clear e HW
          go_wp2
          go_roundw
          case rel => exact ⟨k + 1, by omega, by go_num, by rw [HV.out], trivial⟩
          case measure => simp [intOf]; omega
        · have hq' : u ≤ t := by omega
          have HV := hide (show wantTo t xs (k + 1) = 0 by rw [HW.out, if_neg (fun q => hq q.2)])
          clear e HW hq
          go_wp2
          go_roundw
          case rel => exact ⟨k + 1, by omega, by go_num, by rw [HV.out], trivial⟩
          case measure => simp [intOf]; omega
      · rw [e] at HW ⊢
        have HV := hide (show wantTo t xs (k + 1) = 4 by rw [HW.out, if_neg (fun q => absurd q.1 (by decide))])
        clear e HW
        go_wp2
        go_roundw
        case rel => exact ⟨k + 1, by omega, by go_num, by rw [HV.out], trivial⟩
        case measure => simp [intOf]; omega
    · obtain rfl : k = n := by omega
      clear hlt
      rw [HE.out]
      have E4 := hide (show (⟨a, b, c, t, xs⟩ : Im).il = xs from rfl)
      obtain ⟨I, hI⟩ : ∃ I, (⟨a, b, c, t, xs⟩ : Im) = I := ⟨_, rfl⟩
      rw [hI] at CO E4
      clear hI
      go_wp2_with (first
        | (at_builtin; refine wpList_append_row .u16 _ rfl _ _ 23 rfl w.heap.size 22 i0 (.int .u16 0) 2 Try.underlying23 hi hz0 hz1 hz2 rfl (.slice (some ⟨w1.heap.size, 0, none⟩) 0 0) [] rfl (own_lit0 _ _ _ _ (b1.size)) ad k cap xs rfl HN.out (HR.out.below (ba b1 _)) HZ.out (by simp; unfold maxLen; omega) (by simp; omega) (by have := b1.size; simp; omega) ?_; intro v3 w3 own3 grow3 _; have b3 := hide (grown_lit b1 grow3); rw [List.nil_append] at own3; have HO3 := hide own3; clear own3 grow3)
        | (go_at_call 22; obtain ⟨bo, cap3, rfl, gbo, lbo, hr3, _, zbo⟩ := own_row HO3.out HN.out n0; have HR3 := hide hr3; clear hr3; (with_reducible refine (CO _ _ _ HR3.out).mono ?_); rintro e w4 ⟨v, rfl, ⟨g, h, rfl, gB, hB, hi4⟩, b4⟩; have HI := hide hi4; clear hi4))
      have HO4 := hide (HO3.out.below b4)
      have B4 := hide (bt b3.out b4)
      have ng : g ≠ bo := by omega
      have nh : h ≠ bo := by omega
      clear HO3 HR3 b3 b4 CO C1
      go_loopw [91] (fun i wr => ∃ j : Nat, j ≤ k ∧ i = .int .i64 (j : Int) ∧ (∃ L : List Int, L.length = k ∧ OwnI .u16 22 wr w.heap.size (.slice (some ⟨bo, 0, none⟩) k cap3) L) ∧ Hid (ImgAt wr g h I) ∧ Below w.heap.size w wr) (fun i _ => k - (intOf i).toNat)
      case atStart => exact ⟨0, by omega, rfl, ⟨_, HN.out, HO4.out⟩, HI, B4.out⟩
      case round =>
        obtain ⟨j, hj, rfl, ⟨L, hL, ho⟩, hi, hb⟩ := hrel
        have HO := hide ho
        have HB := hide hb
        have HL := hide hL
        clear ho hb hL HI HO4 B4
        by_cases hlt : j < k
        · have c1 := HO.out.cellAt HL.out hlt
          have z1 := HO.out.frozenAt HL.out j
          have H5 := hide (fun x => And.intro (HO.out.stored HL.out j x) (And.intro (hi.out.grown (grown_set wr bo j (.int .u16 x)) (fun e => ng (Option.some.inj e)) (fun e => nh (Option.some.inj e))) (bs HB.out gbo (b := bo) (o := j) (.int .u16 x))))
          generalize L.getD j 0 = u at *
          go_wp2
          go_roundw
          case rel => exact ⟨j + 1, by omega, by go_num, ⟨_, (by rw [List.length_set]; exact HL.out), (H5.out _).1⟩, (H5.out _).2.1, (H5.out _).2.2⟩
          case measure => simp [intOf]; omega
        · obtain rfl : j = k := by omega
          clear hlt
          go_upto_region 26 with (go_at_call 15; (with_reducible refine (img_samples hi.out).mono ?_); rintro e w6 ⟨v2, rfl, own2, b6⟩; rw [E4.out] at own2; obtain ⟨s2, cp2, rfl, gs2, ls2, hr2, _, zs2⟩ := own_row own2 HN.out n0)
          have sB := HB.out.size
          have HI6 := hi.out.below b6
          have hlt6 := hi.out.lt
          have c2 := hr2.at (show 0 < xs.length by rw [HN.out]; exact n0)
          rw [Nat.add_zero] at c2
          have z2 := zs2 0
          have H7 := hide (fun x => And.intro (HI6.grown (grown_set w6 s2 0 (.int .u16 x)) (fun e => by have := Option.some.inj e; omega) (fun e => by have := Option.some.inj e; omega)) (bs (bt HB.out b6) (show w.heap.size ≤ s2 by omega) (b := s2) (o := 0) (.int .u16 x)))
          generalize xs.getD 0 0 = u at *
          clear hr2 own2 HI6
          go_wp2_with (first
            | (go_at_call 15; (with_reducible refine (img_samples (H7.out _).1).mono ?_); rintro e w8 ⟨v3, rfl, own3, b8⟩; rw [E4.out] at own3; obtain ⟨s3, cp3, rfl, gs3, ls3, hr3, _, zs3⟩ := own_row own3 HN.out n0; have HR3 := hide hr3; clear hr3 own3)
            | (go_at_call 14; (with_reducible refine (CS _ _ _ _ _ HR3.out (HR.out.below (bt (H7.out _).2 b8))).mono ?_); rintro e w9 ⟨rfl, b9⟩))
          go_ret
          exact ⟨rfl, bt (bt (H7.out _).2 b8) b9⟩
theorem law_RasterOf (a b c t : Int) (xs : List Int) (ad : Option Addr) (cap : Nat) (w : World) (_ : -9223372036854775808 ≤ a ∧ a ≤ 9223372036854775807) (_ : -9223372036854775808 ≤ b ∧ b ≤ 9223372036854775807) (_ : -9223372036854775808 ≤ c ∧ c ≤ 9223372036854775807) (_ : -9223372036854775808 ≤ t ∧ t ≤ 9223372036854775807) (hr : RowAt .u16 w ad xs) (hx : AllK .u16 xs) (hl : xs.length ≤ maxLen) (hz : ad = none → cap = 0) :
    Calls Try.prog 5 #[.int .i64 a, .int .i64 b, .int .i64 c, .int .i64 t, .slice ad xs.length cap] w fun e w' => e = .returned (.bool true) ∧ Below w.heap.size w w' := by
  by_cases hs : xs.length ≤ 5000
  · by_cases h : codeF a b c t = 0
    · by_cases he : (xs.length : Int) = a * b * c
      · by_cases hm : mxTo xs xs.length ≤ t
        · exact rasterof_d a b c t xs _ rfl ad cap w hr (allU hx) hz hs h he hm
        · exact rasterof_c a b c t xs _ rfl ad cap w hr (allU hx) hz hs h he (by omega)
      · by_cases h5 : a * b * c ≤ 5000
        · exact rasterof_b a b c t xs _ rfl ad cap w hr (allU hx) hz hs h he h5
        · have C1 := dcode_any a b c t
          rw [h] at C1
          obtain ⟨t0, t1, a0, a1, b0, b1', hc, hm⟩ := codeF_zero h
          obtain ⟨m0, m1⟩ := side_mul a0 a1 b0 b1'
          obtain ⟨p0, p1⟩ := side_mul3 a0 a1 b0 b1' hc
          generalize xs.length = n at *
          have hq : (a * b * c != (n : Int)) = true := bne_iff_ne.2 (fun e => he e.symm)
          clear h he hc hr hx hz
          go_enter Try.func5, Try.ntmps5
          go_wp2_with (first
            | (go_at_call 8; (with_reducible refine (rlives9 _).mono ?_); rintro e w1 ⟨rfl, b1⟩)
            | (go_at_call 17; (with_reducible refine (C1 _).mono ?_); rintro e w2 ⟨rfl, rfl⟩))
          go_ret
          exact ⟨rfl, b1⟩
    · exact rasterof_a a b c t xs _ rfl ad cap w hr (allU hx) hz hs h
  · have hl2 : xs.length ≤ 9223372036854775807 := hl
    generalize xs.length = n at *
    clear hr hx hz hl
    go_enter Try.func5, Try.ntmps5
    go_wp2_with (first
      | (go_at_call 8; (with_reducible refine (rlives9 w).mono ?_); rintro e w1 ⟨rfl, b1⟩)
      | (go_at_call 8; (with_reducible refine (rlives9 w1).mono ?_); rintro e w2 ⟨rfl, b2⟩))
    go_ret
    exact ⟨rfl, bt b1 b2⟩
end Go.Proofs.Ytcamllahcjonkaa
