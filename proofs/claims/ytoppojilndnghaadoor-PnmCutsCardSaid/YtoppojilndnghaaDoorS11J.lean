/- Images as bytes: the law on any bytes. -/
import Derived.Test.YtoppojilndnghaaDoorS11I
import Derived.Test.YtoppojilndnghaaDoorS09N
namespace Go.Proofs.YtoppojilndnghaaDoor
open Go.RowKit


set_option maxHeartbeats 2000000 in
set_option maxRecDepth 100000 in
theorem pdec_no {K : World → Prop} (hKB : KB K) (CP : HParseC K) (CT : HTextC K) (xs : List Int) (n : Nat) (hn : xs.length = n) (h3 : n ≤ 3000) (ad : Option Addr) (cap : Nat) (w : World) (hk : K w) (hr : RowAt .u8 w ad xs) (hx : ∀ x ∈ xs, 0 ≤ x ∧ x ≤ 255) (hz : ad = none → cap = 0) (hd : (decodeF xs).2 ≠ 0) :
    Calls Tryd.prog 3 #[.slice ad n cap] w fun e w' => e = .returned (.bool true) ∧ Below w.heap.size w w' := by
  have CL := fun w hk => plives hKB CP CT w hk
  have hKB : ∀ w w', K w → Below w.heap.size w w' → K w' := hKB
  have hb := byt_nums hx
  have C1 : ∀ (ad : Option Addr) (cap : Nat) (w : World), n ≤ cap → K w → RowAt .u8 w ad xs → (ad = none → cap = 0) → Calls Tryd.prog 9 #[.slice ad n cap] w fun e w' => e = .returned (.tuple #[.pointer none, .int .i64 (decodeF xs).2]) ∧ Below w.heap.size w w' := fun ad cap w hc hk hr hz =>
    (pdecode_any CP xs n hn (by omega) hx ad cap hc w hk hr hz).mono fun e w' ⟨hA, hB⟩ => by
      rcases hA with ⟨_, he⟩ | ⟨h0, _⟩
      · exact ⟨he, hB⟩
      · exact absurd h0 hd
  have C2 : ∀ w : World, Calls Tryd.prog 10 #[.string (strOfNums xs)] w fun e w' => e = .returned (.tuple #[im0V, .int .i64 (decodeF xs).2]) ∧ Below w.heap.size w w' := fun w =>
    (ddecode_any (strOfNums xs) (by rw [← byt_len, hb, hn]; omega) w).mono fun e w' ⟨hA, hB⟩ => by
      rw [hb] at hA
      rcases hA with ⟨_, he⟩ | ⟨h0, _⟩
      · exact ⟨he, hB⟩
      · exact absurd h0 hd
  generalize (decodeF xs).2 = k at *
  unfold im0V at C2
  have CV := hide (fun (w : World) (ad : Option Addr) (cap : Nat) (hr : RowAt .u8 w ad xs) => conv_run cap hn hr)
  have HR := hide hr
  have HN := hide hn
  have HZ := hide hz
  generalize strOfNums xs = q at *
  obtain ⟨i0, hi0, hz0, hz1, hz2⟩ := info_parts infoU8
  have qk : (k == k) = true := beq_self_eq_true k
  have qk' : (k != k) = false := by simp
  have qz : (k != 0) = true := bne_iff_ne.2 hd
  have q1 : ∀ (w : World), (binOp .eql 24 (.pointer none) (.pointer none)).run Tryd.prog w = .ok (.bool true) w := fun w => by kernel_rfl
  clear hr hn hx hz hb hd CP CT
  go_enter Tryd.func3, Tryd.ntmps3
  go_wp2_with (first
    | (go_at_call 8; (with_reducible refine (CL _ hk).mono ?_); rintro e w1 ⟨rfl, b1⟩)
    | (at_builtin; refine wpList_append_row .u8 _ rfl _ _ 22 rfl w.heap.size 5 i0 (.int .u8 0) 1 Tryd.underlying22 hi0 hz0 hz1 hz2 rfl (.slice (some ⟨w1.heap.size, 0, none⟩) 0 0) [] rfl (own_lit0 _ _ _ _ (b1.size)) ad n cap xs rfl HN.out (HR.out.below (ba b1 _)) HZ.out (by simp; unfold maxLen; omega) (by simp; omega) (by have := b1.size; simp; omega) ?_; intro v3 w3 own3 grow3 _; have b3 := grown_lit b1 grow3; rw [List.nil_append] at own3; obtain ⟨ad3, cap3, rfl, hr3, hz3, _, hc3⟩ := own3.form; rw [HN.out] at hc3 ⊢; have HR3 := hide hr3; have HZ3 := hide (fun e => (hz3 e).2); clear own3 grow3 hr3 hz3)
    | (go_at_call 9; (with_reducible refine (C1 _ _ _ hc3 (hKB _ _ hk b3) HR3.out HZ3.out).mono ?_); rintro e w4 ⟨rfl, b4⟩; have cv4 := CV.out _ _ cap (HR.out.below (bt b3 b4)))
    | (go_at_call 10; (with_reducible refine (C2 _).mono ?_); rintro e w5 ⟨rfl, b5⟩; have cv5 := fun o : Obj => CV.out _ _ cap (HR.out.below (ba (bt (bt b3 b4) b5) o)); have cv6 := fun o : Obj => CV.out _ _ cap3 (HR3.out.below (ba (bt b4 b5) o))))
  go_quiet (fail)
  go_wp2
  go_ret
  exact ⟨rfl, bdN (ba (bt (bt b3 b4) b5) _) _⟩
set_option maxHeartbeats 2000000 in
set_option maxRecDepth 100000 in
theorem pdec_yes {K : World → Prop} (hKB : KB K) (CP : HParseC K) (CT : HTextC K) (xs : List Int) (n : Nat) (hn : xs.length = n) (h3 : n ≤ 3000) (ad : Option Addr) (cap : Nat) (w : World) (hk : K w) (hr : RowAt .u8 w ad xs) (hx : ∀ x ∈ xs, 0 ≤ x ∧ x ≤ 255) (hz : ad = none → cap = 0) (hd : (decodeF xs).2 = 0) :
    Calls Tryd.prog 3 #[.slice ad n cap] w fun e w' => e = .returned (.bool true) ∧ Below w.heap.size w w' := by
  have CL := fun w hk => plives hKB CP CT w hk
  have hKB : ∀ w w', K w → Below w.heap.size w w' → K w' := hKB
  have hb := byt_nums hx
  have C1 : ∀ (ad : Option Addr) (cap : Nat) (w : World), n ≤ cap → K w → RowAt .u8 w ad xs → (ad = none → cap = 0) → Calls Tryd.prog 9 #[.slice ad n cap] w fun e w' => (∃ v, e = .returned (.tuple #[v, .int .i64 0]) ∧ ImgNew w.heap.size w' v (decodeF xs).1) ∧ Below w.heap.size w w' := fun ad cap w hc hk hr hz =>
    (pdecode_any CP xs n hn (by omega) hx ad cap hc w hk hr hz).mono fun e w' ⟨hA, hB⟩ => by
      rcases hA with ⟨h0, _⟩ | ⟨_, he⟩
      · exact absurd hd h0
      · exact ⟨he, hB⟩
  have C2 : ∀ w : World, Calls Tryd.prog 10 #[.string (strOfNums xs)] w fun e w' => (∃ b cap, e = .returned (.tuple #[imV (decodeF xs).1 b (decodeF xs).1.il.length cap, .int .i64 0]) ∧ RowAt .u16 w' (some ⟨b, 0, none⟩) (decodeF xs).1.il) ∧ Below w.heap.size w w' := fun w =>
    (ddecode_any (strOfNums xs) (by rw [← byt_len, hb, hn]; omega) w).mono fun e w' ⟨hA, hB⟩ => by
      rw [hb] at hA
      rcases hA with ⟨h0, _⟩ | ⟨_, b, cp, he, hr', _, _⟩
      · exact absurd hd h0
      · exact ⟨⟨b, cp, he, hr'⟩, hB⟩
  generalize (decodeF xs).1 = I at *
  unfold imV at C2
  obtain ⟨L, hL⟩ : ∃ L, I.il.length = L := ⟨_, rfl⟩
  have HLL := hide hL
  rw [hL] at C2
  have CV := hide (fun (w : World) (ad : Option Addr) (cap : Nat) (hr : RowAt .u8 w ad xs) => conv_run cap hn hr)
  have HR := hide hr
  have HN := hide hn
  have HZ := hide hz
  generalize strOfNums xs = q at *
  obtain ⟨i0, hi0, hz0, hz1, hz2⟩ := info_parts infoU8
  have q1 : ∀ (g : Nat) (w : World), (binOp .eql 24 (.pointer (some ⟨g, 0, none⟩)) (.pointer none)).run Tryd.prog w = .ok (.bool false) w := fun g w => by kernel_rfl
  clear hr hn hx hz hb hd CP CT hL
  go_enter Tryd.func3, Tryd.ntmps3
  go_wp2_with (first
    | (go_at_call 8; (with_reducible refine (CL _ hk).mono ?_); rintro e w1 ⟨rfl, b1⟩)
    | (at_builtin; refine wpList_append_row .u8 _ rfl _ _ 22 rfl w.heap.size 5 i0 (.int .u8 0) 1 Tryd.underlying22 hi0 hz0 hz1 hz2 rfl (.slice (some ⟨w1.heap.size, 0, none⟩) 0 0) [] rfl (own_lit0 _ _ _ _ (b1.size)) ad n cap xs rfl HN.out (HR.out.below (ba b1 _)) HZ.out (by simp; unfold maxLen; omega) (by simp; omega) (by have := b1.size; simp; omega) ?_; intro v3 w3 own3 grow3 _; have b3 := grown_lit b1 grow3; rw [List.nil_append] at own3; obtain ⟨ad3, cap3, rfl, hr3, hz3, _, hc3⟩ := own3.form; rw [HN.out] at hc3 ⊢; have HR3 := hide hr3; have HZ3 := hide (fun e => (hz3 e).2); clear own3 grow3 hr3 hz3)
    | (go_at_call 9; (with_reducible refine (C1 _ _ _ hc3 (hKB _ _ hk b3) HR3.out HZ3.out).mono ?_); rintro e w4 ⟨⟨v4, rfl, g, h, rfl, gB, hB, hi⟩, b4⟩; have HI := hide hi; clear hi; have cv4 := CV.out _ _ cap (HR.out.below (bt b3 b4)))
    | (go_at_call 10; (with_reducible refine (C2 _).mono ?_); rintro e w5 ⟨⟨rb, rcap, rfl, rrow⟩, b5⟩; have HRW := hide rrow; clear rrow; have cv5 := fun o : Obj => CV.out _ _ cap (HR.out.below (ba (bt (bt b3 b4) b5) o)); have cv6 := fun o : Obj => CV.out _ _ cap3 (HR3.out.below (ba (bt b4 b5) o))))
  have l1 := (imOk_len HI.out.ok).2
  have CRf := fun (W : World) (b : Below w4.heap.size w4 W) => dref_any (HI.out.below b)
  have CEq := fun (W : World) (b b' cap cap' : Nat) (hr : RowAt .u16 W (some ⟨b, 0, none⟩) I.il) (hr' : RowAt .u16 W (some ⟨b', 0, none⟩) I.il) => dequal_any I I b b' cap cap' l1 W hr hr'
  unfold imV at CRf CEq
  simp only [HLL.out, imSame_self] at CRf CEq
  have p5 := s5_below (w := w5.alloc (.cells #[.int .i64 I.iw, .int .i64 I.ih, .int .i64 I.ic, .int .i64 I.it, .slice (some ⟨rb, 0, none⟩) L rcap] 30)) (R := w5.heap.size) (y0 := .int .i64 I.iw) (y1 := .int .i64 I.ih) (y2 := .int .i64 I.ic) (y3 := .int .i64 I.it) (y4 := .slice (some ⟨rb, 0, none⟩) L rcap) ⟨by simp, by simp, by simp, by simp, by simp⟩ (bd (Below.refl _ _))
  have HB4 := hide (bd (ba b5 (.cells #[.int .i64 I.iw, .int .i64 I.ih, .int .i64 I.ic, .int .i64 I.it, .slice (some ⟨rb, 0, none⟩) L rcap] 30)))
  have HB0 := hide (bd (ba (bt (bt b3 b4) b5) (.cells #[.int .i64 I.iw, .int .i64 I.ih, .int .i64 I.ic, .int .i64 I.it, .slice (some ⟨rb, 0, none⟩) L rcap] 30)))
  have HRW2 := hide (HRW.out.below (bd (below1 w5 (.cells #[.int .i64 I.iw, .int .i64 I.ih, .int .i64 I.ic, .int .i64 I.it, .slice (some ⟨rb, 0, none⟩) L rcap] 30))))
  generalize I.iw = a at *
  generalize I.ih = b at *
  generalize I.ic = c at *
  generalize I.it = t at *
  generalize w5.alloc (.cells #[.int .i64 a, .int .i64 b, .int .i64 c, .int .i64 t, .slice (some ⟨rb, 0, none⟩) L rcap] 30) = W at *
  generalize w5.heap.size = R at *
  clear b1 b3 b4 b5 cv4 cv5 cv6 HRW HLL C1 C2
  go_region_held3 (fun w' => w'.cell? ⟨R, 0, none⟩ = some (.int .i64 a) ∧ w'.cell? ⟨R, 1, none⟩ = some (.int .i64 b) ∧ w'.cell? ⟨R, 2, none⟩ = some (.int .i64 c) ∧ w'.cell? ⟨R, 3, none⟩ = some (.int .i64 t) ∧ w'.cell? ⟨R, 4, none⟩ = some (.slice (some ⟨rb, 0, none⟩) L rcap)) (first | assumption | go_keep)
    (first
      | (go_at_call 12; (with_reducible refine (CRf _ HB4.out).mono ?_); rintro e w7 ⟨rb7, cap7, rfl, hr7, _, _, _, b7⟩; have q5 := s5_below p5 b7)
      | (go_at_call 11; (with_reducible refine (CEq _ _ _ _ _ hr7 (HRW2.out.below b7)).mono ?_); rintro e w8 ⟨rfl, b8⟩; have r5 := s5_below q5 b8))
  go_wp2
  go_ret
  exact ⟨rfl, bt (bt HB0.out b7) b8⟩
set_option maxRecDepth 100000 in
theorem of_PnmDecodes {K : World → Prop} (hKB : KB K) (CP : HParseC K) (CT : HTextC K) (xs : List Int) (ad : Option Addr) (cap : Nat) (w : World) (hk : K w) (hr : RowAt .u8 w ad xs) (hx : AllK .u8 xs) (hl : xs.length ≤ maxLen) (hz : ad = none → cap = 0) :
    Calls Tryd.prog 3 #[.slice ad xs.length cap] w fun e w' => e = .returned (.bool true) ∧ Below w.heap.size w w' := by
  by_cases h : xs.length ≤ 3000
  · have hx' : ∀ x ∈ xs, 0 ≤ x ∧ x ≤ 255 := fun x hx' => by simpa [Lit.wf, IntKind.min, IntKind.max, IntKind.signed, IntKind.bits] using hx x hx'
    by_cases hd : (decodeF xs).2 = 0
    · exact pdec_yes hKB CP CT xs _ rfl h ad cap w hk hr hx' hz hd
    · exact pdec_no hKB CP CT xs _ rfl h ad cap w hk hr hx' hz hd
  · have hl2 : xs.length ≤ 9223372036854775807 := hl
    have CL := fun w hk => plives hKB CP CT w hk
    have hKB : ∀ w w', K w → Below w.heap.size w w' → K w' := hKB
    generalize xs.length = n at *
    clear hr hx hz hl CP CT
    go_enter Tryd.func3, Tryd.ntmps3
    go_wp2_with (first
      | (go_at_call 8; (with_reducible refine (CL w hk).mono ?_); rintro e w1 ⟨rfl, b1⟩)
      | (go_at_call 8; (with_reducible refine (CL w1 (hKB _ _ hk b1)).mono ?_); rintro e w2 ⟨rfl, b2⟩))
    go_ret
    exact ⟨rfl, bt b1 b2⟩
end Go.Proofs.YtoppojilndnghaaDoor
