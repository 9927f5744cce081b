/- The document's images, as values: a sample is set; an image read as a value; two of them compared. -/
import Derived.Test.YtcamllahcjonkaaS09M
import Derived.Deep.CutBlock
namespace Go.Proofs.Ytcamllahcjonkaa
open Go.RowKit

set_option maxHeartbeats 2000000 in
theorem dset_no (I : Im) (b n cap : Nat) (x y z v : Int) (v0 : 0 ≤ v) (v1 : v ≤ 65535) (hs : setOk I x y z v = false) (w : World) : Calls Try.prog 25 #[imV I b n cap, .int .i64 x, .int .i64 y, .int .i64 z, .int .u16 v] w fun e w' => e = .returned (.tuple #[imV I b n cap, .bool false]) ∧ Below w.heap.size w w' := by
  unfold imV
  have CI := fun w => din_any I (.slice (some ⟨b, 0, none⟩) n cap) x y z w
  cases hh : hasF I x y z with
  | false =>
    rw [hh] at CI
    clear hs hh
    generalize I.iw = a at *
    generalize I.ih = a2 at *
    generalize I.ic = a3 at *
    generalize I.it = a4 at *
    go_enter Try.func25, Try.ntmps25
    go_wp2_with (go_at_call 37; (with_reducible refine (CI _).mono ?_); rintro e w1 ⟨rfl, b1⟩; have p0 := cb b1 (b := w.heap.size) (o := 0) (v := .int .i64 a) (by simp; omega) (by simp); have z0 := fb b1 (b := w.heap.size) (o := 0) (by simp; omega) (by simp); have p1 := cb b1 (b := w.heap.size) (o := 1) (v := .int .i64 a2) (by simp; omega) (by simp); have z1 := fb b1 (b := w.heap.size) (o := 1) (by simp; omega) (by simp); have p2 := cb b1 (b := w.heap.size) (o := 2) (v := .int .i64 a3) (by simp; omega) (by simp); have z2 := fb b1 (b := w.heap.size) (o := 2) (by simp; omega) (by simp); have p3 := cb b1 (b := w.heap.size) (o := 3) (v := .int .i64 a4) (by simp; omega) (by simp); have z3 := fb b1 (b := w.heap.size) (o := 3) (by simp; omega) (by simp); have p4 := cb b1 (b := w.heap.size) (o := 4) (v := .slice (some ⟨b, 0, none⟩) n cap) (by simp; omega) (by simp); have z4 := fb b1 (b := w.heap.size) (o := 4) (by simp; omega) (by simp); have c0 := cb b1 (b := w.heap.size + 1) (o := 0) (v := .int .i64 0) (by simp) (by simp); have y0 := fb b1 (b := w.heap.size + 1) (o := 0) (by simp) (by simp); have c1 := cb b1 (b := w.heap.size + 1) (o := 1) (v := .int .i64 0) (by simp) (by simp); have y1 := fb b1 (b := w.heap.size + 1) (o := 1) (by simp) (by simp); have c2 := cb b1 (b := w.heap.size + 1) (o := 2) (v := .int .i64 0) (by simp) (by simp); have y2 := fb b1 (b := w.heap.size + 1) (o := 2) (by simp) (by simp); have c3 := cb b1 (b := w.heap.size + 1) (o := 3) (v := .int .i64 0) (by simp) (by simp); have y3 := fb b1 (b := w.heap.size + 1) (o := 3) (by simp) (by simp); have c4 := cb b1 (b := w.heap.size + 1) (o := 4) (v := .slice none 0 0) (by simp) (by simp); have y4 := fb b1 (b := w.heap.size + 1) (o := 4) (by simp) (by simp))
    exact bodyPost_ret (v := .tuple #[.agg #[.int .i64 a, .int .i64 a2, .int .i64 a3, .int .i64 a4, .slice (some ⟨b, 0, none⟩) n cap], .bool false]) (by simp [results, Try.results25, go_sem, c0, c1, c2, c3, c4]) rfl ⟨rfl, (by repeat (first | exact Below.refl _ _ | assumption | (with_reducible refine bt ?_ (by assumption)) | with_reducible refine bd ?_ | with_reducible refine ba ?_ _ | (with_reducible refine bs ?_ (by omega) _)))⟩
  | true =>
    rw [hh] at CI
    have ht : I.it < v := by
      unfold setOk at hs
      rw [hh, Bool.true_and, decide_eq_false_iff_not] at hs
      omega
    clear hs hh
    generalize I.iw = a at *
    generalize I.ih = a2 at *
    generalize I.ic = a3 at *
    generalize I.it = a4 at *
    go_enter Try.func25, Try.ntmps25
    go_wp2_with (go_at_call 37; (with_reducible refine (CI _).mono ?_); rintro e w1 ⟨rfl, b1⟩; have p0 := cb b1 (b := w.heap.size) (o := 0) (v := .int .i64 a) (by simp; omega) (by simp); have z0 := fb b1 (b := w.heap.size) (o := 0) (by simp; omega) (by simp); have p1 := cb b1 (b := w.heap.size) (o := 1) (v := .int .i64 a2) (by simp; omega) (by simp); have z1 := fb b1 (b := w.heap.size) (o := 1) (by simp; omega) (by simp); have p2 := cb b1 (b := w.heap.size) (o := 2) (v := .int .i64 a3) (by simp; omega) (by simp); have z2 := fb b1 (b := w.heap.size) (o := 2) (by simp; omega) (by simp); have p3 := cb b1 (b := w.heap.size) (o := 3) (v := .int .i64 a4) (by simp; omega) (by simp); have z3 := fb b1 (b := w.heap.size) (o := 3) (by simp; omega) (by simp); have p4 := cb b1 (b := w.heap.size) (o := 4) (v := .slice (some ⟨b, 0, none⟩) n cap) (by simp; omega) (by simp); have z4 := fb b1 (b := w.heap.size) (o := 4) (by simp; omega) (by simp); have c0 := cb b1 (b := w.heap.size + 1) (o := 0) (v := .int .i64 0) (by simp) (by simp); have y0 := fb b1 (b := w.heap.size + 1) (o := 0) (by simp) (by simp); have c1 := cb b1 (b := w.heap.size + 1) (o := 1) (v := .int .i64 0) (by simp) (by simp); have y1 := fb b1 (b := w.heap.size + 1) (o := 1) (by simp) (by simp); have c2 := cb b1 (b := w.heap.size + 1) (o := 2) (v := .int .i64 0) (by simp) (by simp); have y2 := fb b1 (b := w.heap.size + 1) (o := 2) (by simp) (by simp); have c3 := cb b1 (b := w.heap.size + 1) (o := 3) (v := .int .i64 0) (by simp) (by simp); have y3 := fb b1 (b := w.heap.size + 1) (o := 3) (by simp) (by simp); have c4 := cb b1 (b := w.heap.size + 1) (o := 4) (v := .slice none 0 0) (by simp) (by simp); have y4 := fb b1 (b := w.heap.size + 1) (o := 4) (by simp) (by simp))
    exact bodyPost_ret (v := .tuple #[.agg #[.int .i64 a, .int .i64 a2, .int .i64 a3, .int .i64 a4, .slice (some ⟨b, 0, none⟩) n cap], .bool false]) (by simp [results, Try.results25, go_sem, c0, c1, c2, c3, c4]) rfl ⟨rfl, (by repeat (first | exact Below.refl _ _ | assumption | (with_reducible refine bt ?_ (by assumption)) | with_reducible refine bd ?_ | with_reducible refine ba ?_ _ | (with_reducible refine bs ?_ (by omega) _)))⟩
set_option maxHeartbeats 1000000 in
theorem dset_yes (I : Im) (b cap : Nat) (hI : ImOk I) (x y z v : Int) (v0 : 0 ≤ v) (v1 : v ≤ 65535) (hs : setOk I x y z v = true) (w : World) (hr : RowAt .u16 w (some ⟨b, 0, none⟩) I.il) : Calls Try.prog 25 #[imV I b I.il.length cap, .int .i64 x, .int .i64 y, .int .i64 z, .int .u16 v] w fun e w' => ∃ b' cap', e = .returned (.tuple #[imV (imSet I x y z v) b' I.il.length cap', .bool true]) ∧ RowAt .u16 w' (some ⟨b', 0, none⟩) (imSet I x y z v).il ∧ w.heap.size ≤ b' ∧ I.il.length ≤ cap' ∧ Below w.heap.size w w' := by
  have e : imSet I x y z v = { I with il := I.il.set (imPlace I x y z).toNat v } := by unfold imSet; rw [if_pos hs]
  rw [e]
  unfold imV
  have hs' := hs
  unfold setOk at hs'
  rw [Bool.and_eq_true, decide_eq_true_iff] at hs'
  obtain ⟨hh, ht⟩ := hs'
  have CI := fun w => din_any I (.slice (some ⟨b, 0, none⟩) I.il.length cap) x y z w
  rw [hh] at CI
  obtain ⟨l0, l1⟩ := imOk_len hI
  obtain ⟨k, ek, hk, hp, m0, m1, m2, m3, m4, m5, m6, m7⟩ := place_parts hI hh
  rw [hp]
  obtain ⟨i0, hi0, hz0, hz1, hz2⟩ := info_parts infoU16
  have HR := hide hr
  have HL := hide (show I.il.length = I.il.length from rfl)
  clear hr hI hh hp hs e
  obtain ⟨a, a2, a3, a4, xs⟩ := I
  replace CI : ∀ w : World, Calls Try.prog 37 #[.agg #[.int .i64 a, .int .i64 a2, .int .i64 a3, .int .i64 a4, .slice (some ⟨b, 0, none⟩) xs.length cap], .int .i64 x, .int .i64 y, .int .i64 z] w fun e w' => e = .returned (.bool true) ∧ Below w.heap.size w w' := CI
  replace HR : Hid (RowAt .u16 w (some ⟨b, 0, none⟩) xs) := HR
  obtain ⟨n, hn⟩ : ∃ n, xs.length = n := ⟨_, rfl⟩
  have HN := hide hn
  simp only at l0 l1 ek hk m0 m1 m2 m3 m4 m5 ht ⊢
  rw [hn] at l0 l1 hk CI
  simp only [hn]
  clear HL hn
  go_enter Try.func25, Try.ntmps25
  go_upto_region 4 with (first
    | (go_at_call 37; (with_reducible refine (CI _).mono ?_); rintro e w1 ⟨rfl, b1⟩; have p0 := cb b1 (b := w.heap.size) (o := 0) (v := .int .i64 a) (by simp; omega) (by simp); have z0 := fb b1 (b := w.heap.size) (o := 0) (by simp; omega) (by simp); have p1 := cb b1 (b := w.heap.size) (o := 1) (v := .int .i64 a2) (by simp; omega) (by simp); have z1 := fb b1 (b := w.heap.size) (o := 1) (by simp; omega) (by simp); have p2 := cb b1 (b := w.heap.size) (o := 2) (v := .int .i64 a3) (by simp; omega) (by simp); have z2 := fb b1 (b := w.heap.size) (o := 2) (by simp; omega) (by simp); have p3 := cb b1 (b := w.heap.size) (o := 3) (v := .int .i64 a4) (by simp; omega) (by simp); have z3 := fb b1 (b := w.heap.size) (o := 3) (by simp; omega) (by simp); have p4 := cb b1 (b := w.heap.size) (o := 4) (v := .slice (some ⟨b, 0, none⟩) n cap) (by simp; omega) (by simp); have z4 := fb b1 (b := w.heap.size) (o := 4) (by simp; omega) (by simp); have c0 := cb b1 (b := w.heap.size + 1) (o := 0) (v := .int .i64 0) (by simp) (by simp); have y0 := fb b1 (b := w.heap.size + 1) (o := 0) (by simp) (by simp); have c1 := cb b1 (b := w.heap.size + 1) (o := 1) (v := .int .i64 0) (by simp) (by simp); have y1 := fb b1 (b := w.heap.size + 1) (o := 1) (by simp) (by simp); have c2 := cb b1 (b := w.heap.size + 1) (o := 2) (v := .int .i64 0) (by simp) (by simp); have y2 := fb b1 (b := w.heap.size + 1) (o := 2) (by simp) (by simp); have c3 := cb b1 (b := w.heap.size + 1) (o := 3) (v := .int .i64 0) (by simp) (by simp); have y3 := fb b1 (b := w.heap.size + 1) (o := 3) (by simp) (by simp); have c4 := cb b1 (b := w.heap.size + 1) (o := 4) (v := .slice none 0 0) (by simp) (by simp); have y4 := fb b1 (b := w.heap.size + 1) (o := 4) (by simp) (by simp); have hB := b1.size; simp at hB; have hB0 : w.heap.size < w1.heap.size := (by omega); have hB1 : w.heap.size + 1 < w1.heap.size := (by omega); have bw1 := bt (ba (ba (Below.refl _ w) _) _) b1)
    | (at_builtin; refine wpList_append_row .u16 _ rfl _ _ 23 rfl w1.heap.size 22 i0 (.int .u16 0) 2 Try.underlying23 hi0 hz0 hz1 hz2 rfl (.slice (some ⟨w1.heap.size, 0, none⟩) 0 0) [] rfl (own_lit0 _ _ _ _ (Nat.le_refl _)) (some ⟨b, 0, none⟩) n cap xs rfl HN.out (HR.out.below (ba bw1 _)) (fun e => by cases e) (by simp; unfold maxLen; omega) (by simp; omega) (by simp) ?_; intro v3 w2 own2 grow2 _; have bw2 := grown_lit (Below.refl _ _) grow2; rw [List.nil_append] at own2; replace p0 := cb bw2 hB0 p0; replace z0 := fb bw2 hB0 z0; replace c0 := cb bw2 hB1 c0; replace y0 := fb bw2 hB1 y0; replace p1 := cb bw2 hB0 p1; replace z1 := fb bw2 hB0 z1; replace c1 := cb bw2 hB1 c1; replace y1 := fb bw2 hB1 y1; replace p2 := cb bw2 hB0 p2; replace z2 := fb bw2 hB0 z2; replace c2 := cb bw2 hB1 c2; replace y2 := fb bw2 hB1 y2; replace p3 := cb bw2 hB0 p3; replace z3 := fb bw2 hB0 z3; replace c3 := cb bw2 hB1 c3; replace y3 := fb bw2 hB1 y3; replace p4 := cb bw2 hB0 p4; replace z4 := fb bw2 hB0 z4; replace c4 := cb bw2 hB1 c4; replace y4 := fb bw2 hB1 y4))
  obtain ⟨b', cp, rfl, hb0, hb1, hr2, hcp, hz2'⟩ := own_row own2 HN.out l0
  have hf := hr2.put k (by rw [HN.out]; exact hk) v
  rw [Nat.zero_add] at hf
  have hf2 := (((((hf.grown (grown_set _ w.heap.size 4 (.slice (some ⟨b', 0, none⟩) n cp)) (fun e => by have := Option.some.inj e; omega)).grown (grown_set _ (w.heap.size + 1) 0 (.int .i64 a)) (fun e => by have := Option.some.inj e; omega)).grown (grown_set _ (w.heap.size + 1) 1 (.int .i64 a2)) (fun e => by have := Option.some.inj e; omega)).grown (grown_set _ (w.heap.size + 1) 2 (.int .i64 a3)) (fun e => by have := Option.some.inj e; omega)).grown (grown_set _ (w.heap.size + 1) 3 (.int .i64 a4)) (fun e => by have := Option.some.inj e; omega)).grown (grown_set _ (w.heap.size + 1) 4 (.slice (some ⟨b', 0, none⟩) n cp)) (fun e => by have := Option.some.inj e; omega)
  have HF := hide hf2
  clear hf hf2
  have d1 := hr2.at (show k < xs.length by rw [HN.out]; exact hk)
  rw [Nat.zero_add] at d1
  have d2 := hz2' k
  have g0 : b' ≠ w.heap.size := by omega
  have g1 : b' ≠ w.heap.size + 1 := by omega
  have g0' : w.heap.size ≠ b' := g0.symm
  have g1' : w.heap.size + 1 ≠ b' := g1.symm
  generalize xs.getD k 0 = u at *
  have HBW := hide (bs (bs (bs (bs (bs (bs (bs (bt bw1 bw2) (b := b') (o := k) (by omega) (.int .u16 v)) (b := w.heap.size) (o := 4) (by omega) (.slice (some ⟨b', 0, none⟩) n cp)) (b := w.heap.size + 1) (o := 0) (by omega) (.int .i64 a)) (b := w.heap.size + 1) (o := 1) (by omega) (.int .i64 a2)) (b := w.heap.size + 1) (o := 2) (by omega) (.int .i64 a3)) (b := w.heap.size + 1) (o := 3) (by omega) (.int .i64 a4)) (b := w.heap.size + 1) (o := 4) (by omega) (.slice (some ⟨b', 0, none⟩) n cp))
  clear own2 grow2 hr2 bw1 bw2 hz2' b1 CI
  go_wp2
  exact bodyPost_ret (v := .tuple #[.agg #[.int .i64 a, .int .i64 a2, .int .i64 a3, .int .i64 a4, .slice (some ⟨b', 0, none⟩) n cp], .bool true]) (by simp [results, Try.results25, go_sem, c0, c1, c2, c3, c4]) rfl ⟨b', cp, rfl, HF.out, by omega, hcp, HBW.out⟩
theorem dset_any (I : Im) (b cap : Nat) (hI : ImOk I) (x y z v : Int) (v0 : 0 ≤ v) (v1 : v ≤ 65535) (w : World) (hr : RowAt .u16 w (some ⟨b, 0, none⟩) I.il) : Calls Try.prog 25 #[imV I b I.il.length cap, .int .i64 x, .int .i64 y, .int .i64 z, .int .u16 v] w fun e w' => ∃ b' cap', e = .returned (.tuple #[imV (imSet I x y z v) b' I.il.length cap', .bool (setOk I x y z v)]) ∧ RowAt .u16 w' (some ⟨b', 0, none⟩) (imSet I x y z v).il ∧ ((b' = b ∧ cap' = cap) ∨ (w.heap.size ≤ b' ∧ I.il.length ≤ cap')) ∧ Below w.heap.size w w' := by
  cases hs : setOk I x y z v with
  | true =>
    refine (dset_yes I b cap hI x y z v v0 v1 hs w hr).mono ?_
    rintro e w' ⟨b', cap', rfl, h1, h2, h2', h3⟩
    exact ⟨b', cap', rfl, h1, .inr ⟨h2, h2'⟩, h3⟩
  | false =>
    have e : imSet I x y z v = I := by unfold imSet; rw [if_neg (by rw [hs]; decide)]
    rw [e]
    refine (dset_no I b I.il.length cap x y z v v0 v1 hs w).mono ?_
    rintro e w' ⟨rfl, h3⟩
    exact ⟨b, cap, rfl, hr.below h3, .inl ⟨rfl, rfl⟩, h3⟩
theorem img_set_any {w : World} {g h : Nat} {I : Im} (H : ImgAt w g h I) (x y z v : Int) (v0 : 0 ≤ v) (v1 : v ≤ 65535) : Calls Try.prog 26 #[.pointer (some ⟨g, 0, none⟩), .int .i64 x, .int .i64 y, .int .i64 z, .int .u16 v] w fun e w' => e = .returned (.bool (setOk I x y z v)) ∧ ImgAt w' g h (imSet I x y z v) ∧ w.grownBy w' (some h) := by
  cases hs : setOk I x y z v with
  | true => exact img_set_yes H x y z v v0 v1 hs
  | false =>
    have e : imSet I x y z v = I := by unfold imSet; rw [if_neg (by rw [hs]; decide)]
    rw [e]
    refine (img_set_no H x y z v v0 v1 hs).mono ?_
    rintro e w' ⟨rfl, rfl⟩
    exact ⟨rfl, H, World.grownBy.refl _ _⟩
set_option maxHeartbeats 400000 in
/-- An image read as a value. -/
theorem dref_any {w : World} {g h : Nat} {I : Im} (H : ImgAt w g h I) : Calls Try.prog 23 #[.pointer (some ⟨g, 0, none⟩)] w fun e w' => ∃ b cap, e = .returned (imV I b I.il.length cap) ∧ RowAt .u16 w' (some ⟨b, 0, none⟩) I.il ∧ w.heap.size ≤ b ∧ b < w'.heap.size ∧ I.il.length ≤ cap ∧ Below w.heap.size w w' := by
  unfold imV
  have HI := hide (H.below (below1 w (.cells #[.int .i64 0, .int .i64 0, .int .i64 0, .int .i64 0, .slice none 0 0] 43)))
  have CW := img_width HI.out
  have CH := img_height HI.out
  have CC := img_channels HI.out
  have CT := img_most HI.out
  have CS := img_samples HI.out
  obtain ⟨l0, l1⟩ := imOk_len H.ok
  obtain ⟨n, hn⟩ : ∃ n, I.il.length = n := ⟨_, rfl⟩
  have HN := hide hn
  rw [hn] at l0 l1 ⊢
  clear H HI hn
  generalize I.iw = a at *
  generalize I.ih = a2 at *
  generalize I.ic = a3 at *
  generalize I.it = a4 at *
  go_enter Try.func23, Try.ntmps23
  go_wp2_with (first
    | (go_at_call 16; (with_reducible refine CW.mono ?_); rintro e w1 ⟨rfl, rfl⟩)
    | (go_at_call 10; (with_reducible refine CH.mono ?_); rintro e w1 ⟨rfl, rfl⟩)
    | (go_at_call 13; (with_reducible refine CC.mono ?_); rintro e w1 ⟨rfl, rfl⟩)
    | (go_at_call 21; (with_reducible refine CT.mono ?_); rintro e w1 ⟨rfl, rfl⟩)
    | (go_at_call 15; (with_reducible refine CS.mono ?_); rintro e w1 ⟨v, rfl, own, b1⟩; obtain ⟨b', cp, rfl, hb0, hb1, hr2, hcp, _⟩ := own_row own HN.out l0; have HR2 := hide hr2; have c0 := cb b1 (b := w.heap.size) (o := 0) (v := .int .i64 0) (by simp) (by simp); have y0 := fb b1 (b := w.heap.size) (o := 0) (by simp) (by simp); have c1 := cb b1 (b := w.heap.size) (o := 1) (v := .int .i64 0) (by simp) (by simp); have y1 := fb b1 (b := w.heap.size) (o := 1) (by simp) (by simp); have c2 := cb b1 (b := w.heap.size) (o := 2) (v := .int .i64 0) (by simp) (by simp); have y2 := fb b1 (b := w.heap.size) (o := 2) (by simp) (by simp); have c3 := cb b1 (b := w.heap.size) (o := 3) (v := .int .i64 0) (by simp) (by simp); have y3 := fb b1 (b := w.heap.size) (o := 3) (by simp) (by simp); have c4 := cb b1 (b := w.heap.size) (o := 4) (v := .slice none 0 0) (by simp) (by simp); have y4 := fb b1 (b := w.heap.size) (o := 4) (by simp) (by simp)))
  have g0 : b' ≠ w.heap.size := by simp at hb0; omega
  have g1 : w.heap.size ≤ b' := by simp at hb0; omega
  have ne : some b' ≠ some w.heap.size := fun e => g0 (Option.some.inj e)
  have HF := hide (((((HR2.out.grown (grown_set _ w.heap.size 0 (.int .i64 a)) ne).grown (grown_set _ w.heap.size 1 (.int .i64 a2)) ne).grown (grown_set _ w.heap.size 2 (.int .i64 a3)) ne).grown (grown_set _ w.heap.size 3 (.int .i64 a4)) ne).grown (grown_set _ w.heap.size 4 (.slice (some ⟨b', 0, none⟩) n cp)) ne)
  have HB := hide (bs (bs (bs (bs (bs (bt (below1 w _) b1) (b := w.heap.size) (o := 0) (Nat.le_refl _) (.int .i64 a)) (b := w.heap.size) (o := 1) (Nat.le_refl _) (.int .i64 a2)) (b := w.heap.size) (o := 2) (Nat.le_refl _) (.int .i64 a3)) (b := w.heap.size) (o := 3) (Nat.le_refl _) (.int .i64 a4)) (b := w.heap.size) (o := 4) (Nat.le_refl _) (.slice (some ⟨b', 0, none⟩) n cp))
  have sz := HB.out.size
  have HZ := hide (show b' < w1.heap.size from hb1)
  clear CS HR2 hr2 own b1 hb0 hb1 sz
  exact bodyPost_ret (v := .agg #[.int .i64 a, .int .i64 a2, .int .i64 a3, .int .i64 a4, .slice (some ⟨b', 0, none⟩) n cp]) (by simp [results, Try.results23, go_sem, c0, c1, c2, c3, c4]) rfl ⟨b', cp, rfl, HF.out, g1, (by simp [World.setCell]; exact HZ.out), hcp, HB.out⟩
end Go.Proofs.Ytcamllahcjonkaa
