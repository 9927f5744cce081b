/- Images as bytes: the document's Decode, behind a head. Written by gen_XS11H.py. -/
import Derived.Test.YtoppojilndnghaaDoorS11G
namespace Go.Proofs.YtoppojilndnghaaDoor
open Go.RowKit


set_option maxHeartbeats 4000000 in
set_option maxRecDepth 100000 in
theorem ddec_one (s : ByteArray) (hs : s.size ≤ 1048576) (c a b t : Int) (z : Nat) (hP : parseF (byt s) = (⟨c, a, b, t, (z : Int)⟩, 0)) (hcd : codeF a b c t = 0) (hzs : z ≤ s.size) (ht : t ≤ 255) (w : World) :
    Calls Tryd.prog 10 #[.string s] w fun e w' => DecRef w.heap.size e w' (decodeF (byt s)) ∧ Below w.heap.size w w' := by
  have C1 := fun w => dparse_any s hs w
  have hdec := decode_yes (xs := byt s) (by rw [hP])
  rw [hP] at C1 hdec
  simp only at C1 hdec
  unfold hdV at C1
  rw [Int.toNat_natCast, ← byt_cut] at hdec
  obtain ⟨t0, t1, a0, a1, b0, b1, hc, hmm⟩ := codeF_zero hcd
  obtain ⟨m10, m11⟩ := side_mul a0 a1 b0 b1
  obtain ⟨m20, m21⟩ := side_mul3 a0 a1 b0 b1 hc
  obtain ⟨N, hN, N0, N1, hzz, hzn⟩ := size_in hcd
  unfold bodyI at hdec
  simp only at hdec
  rw [hzz, Int.toNat_natCast, widthN_one ht, byt_len] at hdec
  obtain ⟨r, hr⟩ : ∃ r, s.extract z s.size = r := ⟨_, rfl⟩
  have hrs : r.size = s.size - z := by rw [← byt_len, ← hr, byt_cut, List.length_drop, byt_len]
  rw [hr] at hdec
  obtain ⟨m, hm⟩ : ∃ m, r.size = m := ⟨_, rfl⟩
  rw [hm] at hdec hrs
  have hmb : m ≤ 1048576 := by omega
  have e3 : a * b * c = (N : Int) := hN.symm
  have z5 := z5_new w 30
  by_cases hshort : m < N
  · rw [if_pos (by omega)] at hdec
    rw [hdec]
    have HD := hide (fun (w' : World) => show DecRef w.heap.size (.returned (.tuple #[im0V, .int .i64 3])) w' (im0, 3) from .inl ⟨by decide, rfl⟩)
    clear hs hP hdec hcd hc hmm hzz hzn hN a0 a1 b0 b1 hrs
    go_enter Tryd.func10, Tryd.ntmps10
    go_wp2_with (go_at_call 27; (with_reducible refine (C1 _).mono ?_); rintro e w1 ⟨rfl, b1⟩; have z6 := z5.below b1; have z7 := hide z6; obtain ⟨⟨p0, z0⟩, ⟨p1, z1⟩, ⟨p2, z2⟩, ⟨p3, z3⟩, ⟨p4, z4⟩⟩ := z6; have lR := cell_ltL p0)
    have hz := (z7.out.nought).below (below1 _ (.cells #[.int .i64 c, .int .i64 a, .int .i64 b, .int .i64 t, .int .i64 (z : Int)] 56))
    have hb := ba (below_nought (bt (below1 w _) b1) (Nat.le_refl _)) (.cells #[.int .i64 c, .int .i64 a, .int .i64 b, .int .i64 t, .int .i64 (z : Int)] 56)
    generalize (((((w1.setCell ⟨w.heap.size, 0, none⟩ (.int .i64 0)).setCell ⟨w.heap.size, 1, none⟩ (.int .i64 0)).setCell ⟨w.heap.size, 2, none⟩ (.int .i64 0)).setCell ⟨w.heap.size, 3, none⟩ (.int .i64 0)).setCell ⟨w.heap.size, 4, none⟩ (.slice none 0 0)).alloc (.cells #[.int .i64 c, .int .i64 a, .int .i64 b, .int .i64 t, .int .i64 (z : Int)] 56) = W at hz hb ⊢
    obtain ⟨⟨q0, _⟩, ⟨q1, _⟩, ⟨q2, _⟩, ⟨q3, _⟩, ⟨q4, _⟩⟩ := hz
    exact bodyPost_ret (v := .tuple #[.agg #[.int .i64 0, .int .i64 0, .int .i64 0, .int .i64 0, .slice none 0 0], .int .i64 3]) (by simp [results, Tryd.results10, go_sem, q0, q1, q2, q3, q4]) rfl ⟨HD.out _, hb⟩
  · rw [if_neg (by omega)] at hdec
    have hin := byt_in r
    have hbl := byt_len r
    rw [hm] at hbl
    have hlt' : ((byt r).take (N * 1)).length = N * 1 := by rw [List.length_take, hbl]; omega
    have hU := unpackF_len (t := t) (n := N) (l := (byt r).take (N * 1)) (by rw [hlt', widthN_one ht])
    have hUA : ∀ k, k < N → (unpackF t ((byt r).take (N * 1))).getD k 0 = (byt r).getD k 0 := by
      intro k hk
      rw [unpack_one ht, List.getD_eq_getElem?_getD, List.getElem?_take, if_pos (by omega), ← List.getD_eq_getElem?_getD]
    generalize unpackF t ((byt r).take (N * 1)) = U at *
    have HU := hide hU
    have HUA := hide hUA
    have HIN := hide (fun (k : Nat) (hk : k < m) => byte_at hin (show k < (byt r).length by rw [hbl]; exact hk))
    have HNo := hide (fun (w' : World) (k : Nat) (hk : k < N) (hx : t < U.getD k 0) => show DecRef w.heap.size (.returned (.tuple #[im0V, .int .i64 4])) w' (decodeF (byt s)) by
      rw [hdec, if_neg (by
        intro q
        have := q (U.getD k 0) (by rw [List.getD_eq_getElem?_getD, List.getElem?_eq_getElem (by rw [hU]; exact hk)]; exact List.getElem_mem _)
        omega)]
      exact .inl ⟨by decide, rfl⟩)
    have HYes := hide (fun (w' : World) (g cp : Nat) (hx : ∀ k, k < N → U.getD k 0 ≤ t) (hr : RowAt .u16 w' (some ⟨g, 0, none⟩) U) (hg : w.heap.size ≤ g) (hcp : N ≤ cp) => show DecRef w.heap.size (.returned (.tuple #[.agg #[.int .i64 a, .int .i64 b, .int .i64 c, .int .i64 t, .slice (some ⟨g, 0, none⟩) N cp], .int .i64 0])) w' (decodeF (byt s)) by
      rw [hdec, if_pos (by
        intro x hx'
        obtain ⟨j, hj, rfl⟩ := List.mem_iff_getElem.1 hx'
        have := hx j (by rw [← hU]; exact hj)
        rw [List.getD_eq_getElem?_getD, List.getElem?_eq_getElem hj] at this
        exact this)]
      exact .inr ⟨rfl, g, cp, by rw [← hU]; rfl, hr, hg, by rw [hU]; exact hcp⟩)
    have hdec' := hdec
    obtain ⟨D, hD⟩ : ∃ D, decodeF (byt s) = D := ⟨_, rfl⟩
    rw [hD] at HNo HYes ⊢
    have HBA := hide (fun (k : Nat) (hk : k < r.size) => byt_at (s := r) hk)
    obtain ⟨i0, hi0, hz0, hz1, hz2⟩ := info_parts infoU16
    have hd9 : decide (m < N) = false := decide_eq_false (by omega)
    clear hs hP hdec hdec' hcd hc hmm hzz hzn hN a0 a1 b0 b1 hrs hU hUA hin hbl hlt' hD
    go_enter Tryd.func10, Tryd.ntmps10
    go_wp2_with (go_at_call 27; (with_reducible refine (C1 _).mono ?_); rintro e w1 ⟨rfl, b1⟩; have z6 := z5.below b1; have z7 := hide z6; obtain ⟨⟨p0, z0⟩, ⟨p1, z1⟩, ⟨p2, z2⟩, ⟨p3, z3⟩, ⟨p4, z4⟩⟩ := z6; have lR := cell_ltL p0)
    have HW1 := hide (bt (below1 w _) b1)
    have hW1 := b1.size
    have hD0 : DSt 36 (w1.heap.size + 2) w.heap.size w1.heap.size (w1.heap.size + 1) a b c t w ((w1.alloc (.cells #[.int .i64 c, .int .i64 a, .int .i64 b, .int .i64 t, .int .i64 (z : Int)] 56)).alloc (.cells #[.int .i64 a, .int .i64 b, .int .i64 c, .int .i64 t, .slice none 0 0] 30)) (.slice none 0 0) (U.take 0) := {
      own := by rw [List.take_zero]; exact OwnI.nil _ _ _ _
      z5 := (z7.out.below (below1 _ (.cells #[.int .i64 c, .int .i64 a, .int .i64 b, .int .i64 t, .int .i64 (z : Int)] 56))).below (below1 _ (.cells #[.int .i64 a, .int .i64 b, .int .i64 c, .int .i64 t, .slice none 0 0] 30))
      c4 := by simp
      d0 := by simp
      d1 := by simp
      d2 := by simp
      d3 := by simp
      d4 := by simp
      f4 := by simp
      below := ba (ba HW1.out _) _
      bw := by simp
      r0 := lR
      r4 := by omega
      r9 := by omega
      w9 := Nat.le_refl _ }
    have HD0 := hide hD0
    clear hD0 z5 z7 p0 p1 p2 p3 p4 z0 z1 z2 z3 z4 b1 C1 hW1 HW1 m10 m11 m20 m21 e3 hr
    generalize (w1.alloc (.cells #[.int .i64 c, .int .i64 a, .int .i64 b, .int .i64 t, .int .i64 (z : Int)] 56)).alloc (.cells #[.int .i64 a, .int .i64 b, .int .i64 c, .int .i64 t, .slice none 0 0] 30) = W2 at *
    generalize w1.heap.size = R4 at *
    go_loopw [53] (fun i wr => ∃ (k : Nat) (v : Value), k ≤ N ∧ i = .int .i64 (k : Int) ∧ Hid (∀ j, j < k → U.getD j 0 ≤ t) ∧ DSt 36 (R4 + 2) w.heap.size R4 (R4 + 1) a b c t w wr v (U.take k)) (fun i _ => N - (intOf i).toNat)
    case atStart => exact ⟨0, _, by omega, rfl, hide (fun j hj => absurd hj (by omega)), HD0.out⟩
    case round =>
      clear HD0
      obtain ⟨k, v, hk, rfl, hall, hd⟩ := hrel
      have HDS := hide hd
      by_cases hlt : k < N
      · obtain ⟨own, z5, c4, d0, d1, d2, d3, d4, f4, bl, bw, r0, r4, r9, w9⟩ := hd
        have HUA1 := hide (HUA.out k hlt)
        have tk := take_step U (show k < U.length by rw [HU.out]; exact hlt)
        have HTK := hide tk
        have hL : (U.take k).length = k := by rw [List.length_take, HU.out]; omega
        have hkr : k < r.size := by omega
        have hq := HBA.out k hkr
        obtain ⟨y0, y1⟩ := HIN.out k (by omega)
        generalize (byt r).getD k 0 = x at *
        clear tk z5 d0 d1 d2 d3
        by_cases hxt : x ≤ t
        · have hdc : decide (t < x) = false := decide_eq_false (by omega)
          go_wp2_with (at_builtin; refine wpList_append_own _ rfl _ _ 28 rfl (R4 + 2) 36 i0 (.int .u16 0) 1 2 Tryd.underlying28 hi0 hz0 hz1 hz2 rfl (by decide) v _ _ rfl (own.alloc _) ⟨wr.heap.size, 0, none⟩ 1 1 [.int .u16 x] rfl rfl (new_one _ _ _) (one_int _ _) (by rw [hL]; unfold maxLen; omega) (by rw [hL]; omega) (by simp; omega) ?_; intro v3 w3 own3 grow3 _; obtain ⟨D3, e9, f9⟩ := HDS.out.more own3 grow3; obtain ⟨ad3, cap3, rfl, _, _⟩ := D3.own.formn (n := k + 1) (by rw [List.length_append, hL]; rfl); have HD3 := hide D3; clear D3)
          go_roundw
          case rel => exact ⟨k + 1, _, by omega, by go_num, hide (fun j hj => by
            by_cases e : j = k
            · subst e; rw [HUA1.out]; exact hxt
            · exact hall.out j (by omega)), by rw [HTK.out, HUA1.out]; exact HD3.out⟩
          case measure => simp [intOf]; omega
        · have hdc : decide (t < x) = true := decide_eq_true (by omega)
          have HN4 := hide (fun w' => HNo.out w' k hlt (by rw [HUA1.out]; omega))
          have z7 := HDS.out.z5
          have hz := z7.nought
          have hb := below_nought (R := w.heap.size) bl (Nat.le_refl _)
          obtain ⟨⟨p0, z0⟩, ⟨p1, z1⟩, ⟨p2, z2⟩, ⟨p3, z3⟩, ⟨p4, z4⟩⟩ := z7
          go_wp2
          generalize (((((wr.setCell ⟨w.heap.size, 0, none⟩ (.int .i64 0)).setCell ⟨w.heap.size, 1, none⟩ (.int .i64 0)).setCell ⟨w.heap.size, 2, none⟩ (.int .i64 0)).setCell ⟨w.heap.size, 3, none⟩ (.int .i64 0)).setCell ⟨w.heap.size, 4, none⟩ (.slice none 0 0)) = W at hz hb ⊢
          obtain ⟨⟨q0, _⟩, ⟨q1, _⟩, ⟨q2, _⟩, ⟨q3, _⟩, ⟨q4, _⟩⟩ := hz
          exact bodyPost_ret (v := .tuple #[.agg #[.int .i64 0, .int .i64 0, .int .i64 0, .int .i64 0, .slice none 0 0], .int .i64 4]) (by simp [results, Tryd.results10, go_sem, q0, q1, q2, q3, q4]) rfl ⟨HN4.out _, hb⟩
      · obtain rfl : k = N := by omega
        obtain ⟨own, z5, c4, d0, d1, d2, d3, d4, f4, bl, bw, r0, r4, r9, w9⟩ := hd
        rw [List.take_of_length_le (by rw [HU.out]; exact Nat.le_refl _)] at own
        obtain ⟨g, cp, rfl, hg, hl, hrow, hcp, _⟩ := own_row own HU.out N0
        have ne : some g ≠ some w.heap.size := fun e => by have := Option.some.inj e; omega
        have HF := hide (((((hrow.grown (grown_set _ w.heap.size 0 (.int .i64 a)) ne).grown (grown_set _ w.heap.size 1 (.int .i64 b)) ne).grown (grown_set _ w.heap.size 2 (.int .i64 c)) ne).grown (grown_set _ w.heap.size 3 (.int .i64 t)) ne).grown (grown_set _ w.heap.size 4 (.slice (some ⟨g, 0, none⟩) k cp)) ne)
        have HB := hide (bs (bs (bs (bs (bs bl (b := w.heap.size) (o := 0) (Nat.le_refl _) (.int .i64 a)) (b := w.heap.size) (o := 1) (Nat.le_refl _) (.int .i64 b)) (b := w.heap.size) (o := 2) (Nat.le_refl _) (.int .i64 c)) (b := w.heap.size) (o := 3) (Nat.le_refl _) (.int .i64 t)) (b := w.heap.size) (o := 4) (Nat.le_refl _) (.slice (some ⟨g, 0, none⟩) k cp))
        obtain ⟨⟨p0, z0⟩, ⟨p1, z1⟩, ⟨p2, z2⟩, ⟨p3, z3⟩, ⟨p4, z4⟩⟩ := z5
        have HY := hide (fun w' hr => HYes.out w' g cp hall.out hr (by omega) hcp)
        clear own hrow hall HDS
        go_wp2
        exact bodyPost_ret (v := .tuple #[.agg #[.int .i64 a, .int .i64 b, .int .i64 c, .int .i64 t, .slice (some ⟨g, 0, none⟩) k cp], .int .i64 0]) (by simp [results, Tryd.results10, go_sem, p0, p1, p2, p3, p4]) rfl ⟨HY.out _ HF.out, HB.out⟩
set_option maxHeartbeats 4000000 in
set_option maxRecDepth 100000 in
theorem ddec_two (s : ByteArray) (hs : s.size ≤ 1048576) (c a b t : Int) (z : Nat) (hP : parseF (byt s) = (⟨c, a, b, t, (z : Int)⟩, 0)) (hcd : codeF a b c t = 0) (hzs : z ≤ s.size) (ht : ¬ t ≤ 255) (w : World) :
    Calls Tryd.prog 10 #[.string s] w fun e w' => DecRef w.heap.size e w' (decodeF (byt s)) ∧ Below w.heap.size w w' := by
  have C1 := fun w => dparse_any s hs w
  have hdec := decode_yes (xs := byt s) (by rw [hP])
  rw [hP] at C1 hdec
  simp only at C1 hdec
  unfold hdV at C1
  rw [Int.toNat_natCast, ← byt_cut] at hdec
  obtain ⟨t0, t1, a0, a1, b0, b1, hc, hmm⟩ := codeF_zero hcd
  obtain ⟨m10, m11⟩ := side_mul a0 a1 b0 b1
  obtain ⟨m20, m21⟩ := side_mul3 a0 a1 b0 b1 hc
  obtain ⟨N, hN, N0, N1, hzz, hzn⟩ := size_in hcd
  unfold bodyI at hdec
  simp only at hdec
  rw [hzz, Int.toNat_natCast, widthN_two ht, byt_len] at hdec
  obtain ⟨r, hr⟩ : ∃ r, s.extract z s.size = r := ⟨_, rfl⟩
  have hrs : r.size = s.size - z := by rw [← byt_len, ← hr, byt_cut, List.length_drop, byt_len]
  rw [hr] at hdec
  obtain ⟨m, hm⟩ : ∃ m, r.size = m := ⟨_, rfl⟩
  rw [hm] at hdec hrs
  have hmb : m ≤ 1048576 := by omega
  have e3 : a * b * c = (N : Int) := hN.symm
  have z5 := z5_new w 30
  by_cases hshort : m < N * 2
  · rw [if_pos (by omega)] at hdec
    rw [hdec]
    have HD := hide (fun (w' : World) => show DecRef w.heap.size (.returned (.tuple #[im0V, .int .i64 3])) w' (im0, 3) from .inl ⟨by decide, rfl⟩)
    clear hs hP hdec hcd hc hmm hzz hzn hN a0 a1 b0 b1 hrs
    go_enter Tryd.func10, Tryd.ntmps10
    go_wp2_with (go_at_call 27; (with_reducible refine (C1 _).mono ?_); rintro e w1 ⟨rfl, b1⟩; have z6 := z5.below b1; have z7 := hide z6; obtain ⟨⟨p0, z0⟩, ⟨p1, z1⟩, ⟨p2, z2⟩, ⟨p3, z3⟩, ⟨p4, z4⟩⟩ := z6; have lR := cell_ltL p0)
    have hz := (z7.out.nought).below (below1 _ (.cells #[.int .i64 c, .int .i64 a, .int .i64 b, .int .i64 t, .int .i64 (z : Int)] 56))
    have hb := ba (below_nought (bt (below1 w _) b1) (Nat.le_refl _)) (.cells #[.int .i64 c, .int .i64 a, .int .i64 b, .int .i64 t, .int .i64 (z : Int)] 56)
    generalize (((((w1.setCell ⟨w.heap.size, 0, none⟩ (.int .i64 0)).setCell ⟨w.heap.size, 1, none⟩ (.int .i64 0)).setCell ⟨w.heap.size, 2, none⟩ (.int .i64 0)).setCell ⟨w.heap.size, 3, none⟩ (.int .i64 0)).setCell ⟨w.heap.size, 4, none⟩ (.slice none 0 0)).alloc (.cells #[.int .i64 c, .int .i64 a, .int .i64 b, .int .i64 t, .int .i64 (z : Int)] 56) = W at hz hb ⊢
    obtain ⟨⟨q0, _⟩, ⟨q1, _⟩, ⟨q2, _⟩, ⟨q3, _⟩, ⟨q4, _⟩⟩ := hz
    exact bodyPost_ret (v := .tuple #[.agg #[.int .i64 0, .int .i64 0, .int .i64 0, .int .i64 0, .slice none 0 0], .int .i64 3]) (by simp [results, Tryd.results10, go_sem, q0, q1, q2, q3, q4]) rfl ⟨HD.out _, hb⟩
  · rw [if_neg (by omega)] at hdec
    have hin := byt_in r
    have hbl := byt_len r
    rw [hm] at hbl
    have hlt' : ((byt r).take (N * 2)).length = N * 2 := by rw [List.length_take, hbl]; omega
    have hU := unpackF_len (t := t) (n := N) (l := (byt r).take (N * 2)) (by rw [hlt', widthN_two ht])
    have hUA : ∀ k, k < N → (unpackF t ((byt r).take (N * 2))).getD k 0 = 256 * (byt r).getD (k * 2) 0 + (byt r).getD (k * 2 + 1) 0 := by
      intro k hk
      rw [unpack_two ht (by rw [hlt']; omega)]
      rw [List.getD_eq_getElem?_getD, List.getD_eq_getElem?_getD, List.getElem?_take, List.getElem?_take, if_pos (by omega), if_pos (by omega), ← List.getD_eq_getElem?_getD, ← List.getD_eq_getElem?_getD]
    generalize unpackF t ((byt r).take (N * 2)) = U at *
    have HU := hide hU
    have HUA := hide hUA
    have HIN := hide (fun (k : Nat) (hk : k < m) => byte_at hin (show k < (byt r).length by rw [hbl]; exact hk))
    have HNo := hide (fun (w' : World) (k : Nat) (hk : k < N) (hx : t < U.getD k 0) => show DecRef w.heap.size (.returned (.tuple #[im0V, .int .i64 4])) w' (decodeF (byt s)) by
      rw [hdec, if_neg (by
        intro q
        have := q (U.getD k 0) (by rw [List.getD_eq_getElem?_getD, List.getElem?_eq_getElem (by rw [hU]; exact hk)]; exact List.getElem_mem _)
        omega)]
      exact .inl ⟨by decide, rfl⟩)
    have HYes := hide (fun (w' : World) (g cp : Nat) (hx : ∀ k, k < N → U.getD k 0 ≤ t) (hr : RowAt .u16 w' (some ⟨g, 0, none⟩) U) (hg : w.heap.size ≤ g) (hcp : N ≤ cp) => show DecRef w.heap.size (.returned (.tuple #[.agg #[.int .i64 a, .int .i64 b, .int .i64 c, .int .i64 t, .slice (some ⟨g, 0, none⟩) N cp], .int .i64 0])) w' (decodeF (byt s)) by
      rw [hdec, if_pos (by
        intro x hx'
        obtain ⟨j, hj, rfl⟩ := List.mem_iff_getElem.1 hx'
        have := hx j (by rw [← hU]; exact hj)
        rw [List.getD_eq_getElem?_getD, List.getElem?_eq_getElem hj] at this
        exact this)]
      exact .inr ⟨rfl, g, cp, by rw [← hU]; rfl, hr, hg, by rw [hU]; exact hcp⟩)
    have hdec' := hdec
    obtain ⟨D, hD⟩ : ∃ D, decodeF (byt s) = D := ⟨_, rfl⟩
    rw [hD] at HNo HYes ⊢
    have HBA := hide (fun (k : Nat) (hk : k < r.size) => byt_at (s := r) hk)
    obtain ⟨i0, hi0, hz0, hz1, hz2⟩ := info_parts infoU16
    have hd9 : decide ((m : Int) < (N : Int) * 2) = false := decide_eq_false (by omega)
    clear hs hP hdec hdec' hcd hc hmm hzz hzn hN a0 a1 b0 b1 hrs hU hUA hin hbl hlt' hD
    go_enter Tryd.func10, Tryd.ntmps10
    go_wp2_with (go_at_call 27; (with_reducible refine (C1 _).mono ?_); rintro e w1 ⟨rfl, b1⟩; have z6 := z5.below b1; have z7 := hide z6; obtain ⟨⟨p0, z0⟩, ⟨p1, z1⟩, ⟨p2, z2⟩, ⟨p3, z3⟩, ⟨p4, z4⟩⟩ := z6; have lR := cell_ltL p0)
    have HW1 := hide (bt (below1 w _) b1)
    have hW1 := b1.size
    have hD0 : DSt 36 (w1.heap.size + 2) w.heap.size w1.heap.size (w1.heap.size + 1) a b c t w ((w1.alloc (.cells #[.int .i64 c, .int .i64 a, .int .i64 b, .int .i64 t, .int .i64 (z : Int)] 56)).alloc (.cells #[.int .i64 a, .int .i64 b, .int .i64 c, .int .i64 t, .slice none 0 0] 30)) (.slice none 0 0) (U.take 0) := {
      own := by rw [List.take_zero]; exact OwnI.nil _ _ _ _
      z5 := (z7.out.below (below1 _ (.cells #[.int .i64 c, .int .i64 a, .int .i64 b, .int .i64 t, .int .i64 (z : Int)] 56))).below (below1 _ (.cells #[.int .i64 a, .int .i64 b, .int .i64 c, .int .i64 t, .slice none 0 0] 30))
      c4 := by simp
      d0 := by simp
      d1 := by simp
      d2 := by simp
      d3 := by simp
      d4 := by simp
      f4 := by simp
      below := ba (ba HW1.out _) _
      bw := by simp
      r0 := lR
      r4 := by omega
      r9 := by omega
      w9 := Nat.le_refl _ }
    have HD0 := hide hD0
    clear hD0 z5 z7 p0 p1 p2 p3 p4 z0 z1 z2 z3 z4 b1 C1 hW1 HW1 m10 m11 m20 m21 e3 hr
    generalize (w1.alloc (.cells #[.int .i64 c, .int .i64 a, .int .i64 b, .int .i64 t, .int .i64 (z : Int)] 56)).alloc (.cells #[.int .i64 a, .int .i64 b, .int .i64 c, .int .i64 t, .slice none 0 0] 30) = W2 at *
    generalize w1.heap.size = R4 at *
    go_loopw [53] (fun i wr => ∃ (k : Nat) (v : Value), k ≤ N ∧ i = .int .i64 (k : Int) ∧ Hid (∀ j, j < k → U.getD j 0 ≤ t) ∧ DSt 36 (R4 + 2) w.heap.size R4 (R4 + 1) a b c t w wr v (U.take k)) (fun i _ => N - (intOf i).toNat)
    case atStart => exact ⟨0, _, by omega, rfl, hide (fun j hj => absurd hj (by omega)), HD0.out⟩
    case round =>
      clear HD0
      obtain ⟨k, v, hk, rfl, hall, hd⟩ := hrel
      have HDS := hide hd
      by_cases hlt : k < N
      · obtain ⟨own, z5, c4, d0, d1, d2, d3, d4, f4, bl, bw, r0, r4, r9, w9⟩ := hd
        have HUA1 := hide (HUA.out k hlt)
        have tk := take_step U (show k < U.length by rw [HU.out]; exact hlt)
        have HTK := hide tk
        have hL : (U.take k).length = k := by rw [List.length_take, HU.out]; omega
        have hk0 : k * 2 < r.size := by omega
        have hk1 : 2 * k + 1 < r.size := by omega
        have hq0 := HBA.out _ hk0
        have hq1 := HBA.out _ hk1
        rw [show (byt r).getD (2 * k + 1) 0 = (byt r).getD (k * 2 + 1) 0 by rw [Nat.mul_comm]] at hq1
        obtain ⟨y0, y1⟩ := HIN.out (k * 2) (by omega)
        obtain ⟨y2, y3⟩ := HIN.out (k * 2 + 1) (by omega)
        generalize (byt r).getD (k * 2) 0 = x0 at *
        generalize (byt r).getD (k * 2 + 1) 0 = x1 at *
        obtain ⟨x, hx, x00, x65⟩ : ∃ x, 256 * x0 + x1 = x ∧ 0 ≤ x ∧ x ≤ 65535 := ⟨_, rfl, by omega, by omega⟩
        rw [hx] at HUA1
        clear tk z5 d0 d1 d2 d3
        by_cases hxt : x ≤ t
        · have hdc : decide (t < x) = false := decide_eq_false (by omega)
          go_wp2_with (at_builtin; refine wpList_append_own _ rfl _ _ 28 rfl (R4 + 2) 36 i0 (.int .u16 0) 1 2 Tryd.underlying28 hi0 hz0 hz1 hz2 rfl (by decide) v _ _ rfl (own.alloc _) ⟨wr.heap.size, 0, none⟩ 1 1 [.int .u16 x] rfl rfl (new_one _ _ _) (one_int _ _) (by rw [hL]; unfold maxLen; omega) (by rw [hL]; omega) (by simp; omega) ?_; intro v3 w3 own3 grow3 _; obtain ⟨D3, e9, f9⟩ := HDS.out.more own3 grow3; obtain ⟨ad3, cap3, rfl, _, _⟩ := D3.own.formn (n := k + 1) (by rw [List.length_append, hL]; rfl); have HD3 := hide D3; clear D3)
          go_roundw
          case rel => exact ⟨k + 1, _, by omega, by go_num, hide (fun j hj => by
            by_cases e : j = k
            · subst e; rw [HUA1.out]; exact hxt
            · exact hall.out j (by omega)), by rw [HTK.out, HUA1.out]; exact HD3.out⟩
          case measure => simp [intOf]; omega
        · have hdc : decide (t < x) = true := decide_eq_true (by omega)
          have HN4 := hide (fun w' => HNo.out w' k hlt (by rw [HUA1.out]; omega))
          have z7 := HDS.out.z5
          have hz := z7.nought
          have hb := below_nought (R := w.heap.size) bl (Nat.le_refl _)
          obtain ⟨⟨p0, z0⟩, ⟨p1, z1⟩, ⟨p2, z2⟩, ⟨p3, z3⟩, ⟨p4, z4⟩⟩ := z7
          go_wp2
          generalize (((((wr.setCell ⟨w.heap.size, 0, none⟩ (.int .i64 0)).setCell ⟨w.heap.size, 1, none⟩ (.int .i64 0)).setCell ⟨w.heap.size, 2, none⟩ (.int .i64 0)).setCell ⟨w.heap.size, 3, none⟩ (.int .i64 0)).setCell ⟨w.heap.size, 4, none⟩ (.slice none 0 0)) = W at hz hb ⊢
          obtain ⟨⟨q0, _⟩, ⟨q1, _⟩, ⟨q2, _⟩, ⟨q3, _⟩, ⟨q4, _⟩⟩ := hz
          exact bodyPost_ret (v := .tuple #[.agg #[.int .i64 0, .int .i64 0, .int .i64 0, .int .i64 0, .slice none 0 0], .int .i64 4]) (by simp [results, Tryd.results10, go_sem, q0, q1, q2, q3, q4]) rfl ⟨HN4.out _, hb⟩
      · obtain rfl : k = N := by omega
        obtain ⟨own, z5, c4, d0, d1, d2, d3, d4, f4, bl, bw, r0, r4, r9, w9⟩ := hd
        rw [List.take_of_length_le (by rw [HU.out]; exact Nat.le_refl _)] at own
        obtain ⟨g, cp, rfl, hg, hl, hrow, hcp, _⟩ := own_row own HU.out N0
        have ne : some g ≠ some w.heap.size := fun e => by have := Option.some.inj e; omega
        have HF := hide (((((hrow.grown (grown_set _ w.heap.size 0 (.int .i64 a)) ne).grown (grown_set _ w.heap.size 1 (.int .i64 b)) ne).grown (grown_set _ w.heap.size 2 (.int .i64 c)) ne).grown (grown_set _ w.heap.size 3 (.int .i64 t)) ne).grown (grown_set _ w.heap.size 4 (.slice (some ⟨g, 0, none⟩) k cp)) ne)
        have HB := hide (bs (bs (bs (bs (bs bl (b := w.heap.size) (o := 0) (Nat.le_refl _) (.int .i64 a)) (b := w.heap.size) (o := 1) (Nat.le_refl _) (.int .i64 b)) (b := w.heap.size) (o := 2) (Nat.le_refl _) (.int .i64 c)) (b := w.heap.size) (o := 3) (Nat.le_refl _) (.int .i64 t)) (b := w.heap.size) (o := 4) (Nat.le_refl _) (.slice (some ⟨g, 0, none⟩) k cp))
        obtain ⟨⟨p0, z0⟩, ⟨p1, z1⟩, ⟨p2, z2⟩, ⟨p3, z3⟩, ⟨p4, z4⟩⟩ := z5
        have HY := hide (fun w' hr => HYes.out w' g cp hall.out hr (by omega) hcp)
        clear own hrow hall HDS
        go_wp2
        exact bodyPost_ret (v := .tuple #[.agg #[.int .i64 a, .int .i64 b, .int .i64 c, .int .i64 t, .slice (some ⟨g, 0, none⟩) k cp], .int .i64 0]) (by simp [results, Tryd.results10, go_sem, p0, p1, p2, p3, p4]) rfl ⟨HY.out _ HF.out, HB.out⟩
theorem ddecode_any (s : ByteArray) (hs : s.size ≤ 1048576) (w : World) :
    Calls Tryd.prog 10 #[.string s] w fun e w' => DecRef w.heap.size e w' (decodeF (byt s)) ∧ Below w.heap.size w w' := by
  by_cases hp : (parseF (byt s)).2 = 0
  · obtain ⟨hcd, h0, h1⟩ := parse_zero hp
    obtain ⟨⟨⟨c, a, b, t, s'⟩, k⟩, hP⟩ : ∃ r, parseF (byt s) = r := ⟨_, rfl⟩
    rw [hP] at hp hcd h0 h1
    simp only at hp hcd h0 h1
    subst hp
    obtain ⟨z, rfl⟩ : ∃ z : Nat, s' = (z : Int) := ⟨s'.toNat, by omega⟩
    rw [byt_len] at h1
    by_cases ht : t ≤ 255
    · exact ddec_one s hs c a b t z hP hcd (by omega) ht w
    · exact ddec_two s hs c a b t z hP hcd (by omega) ht w
  · exact ddec_bad s hs hp w
end Go.Proofs.YtoppojilndnghaaDoor
