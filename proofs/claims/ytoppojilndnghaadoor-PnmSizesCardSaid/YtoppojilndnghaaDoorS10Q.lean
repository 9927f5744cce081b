/- The program's heads: a whole head. -/
import Derived.Test.YtoppojilndnghaaDoorS10P
namespace Go.Proofs.YtoppojilndnghaaDoor
open Go.RowKit


theorem tailF_check (len c a b t : Int) (rest : List Int) (h : rest ≠ []) (hb : blankF (rest.getD 0 0) = true) :
    tailF len c a b t rest = if checkF a b c t = 0 then (⟨c, a, b, t, len - (rest.length : Int) + 1⟩, 0) else (hd0, checkF a b c t) := by
  unfold tailF checkF
  rw [if_neg h, if_neg (by rw [hb]; decide)]
  by_cases hz : a = 0 ∨ b = 0 ∨ t = 0 ∨ 65535 < t
  · rw [if_pos hz, if_pos hz, if_neg (by decide)]
  · rw [if_neg hz, if_neg hz]
    by_cases hf : fitsF a b c = false
    · rw [if_pos hf, if_pos hf, if_neg (by decide)]
    · rw [if_neg hf, if_neg hf, if_pos rfl]
theorem numF_bound (l : List Int) : 0 ≤ (numF l).2.1 ∧ (numF l).2.1 ≤ 1000000000 := by
  unfold numF
  split
  · exact ⟨by decide, by decide⟩
  · split
    · exact digits_bound _ 0 (by omega) (by omega)
    · exact ⟨by decide, by decide⟩
theorem parseF_magic {xs : List Int} (h : magicF xs = 0) : parseF xs = (hd0, 1) := by
  unfold magicF at h
  unfold parseF
  split at h
  · split at h <;> omega
  · rename_i g
    rw [if_neg g]
theorem parseF_body {xs : List Int} (h : magicF xs ≠ 0) : parseF xs = bodyF xs.length (magicF xs) (xs.drop 2) ∧ 2 ≤ xs.length := by
  unfold magicF at h ⊢
  unfold parseF
  split at h
  · rename_i g
    rw [if_pos g, if_pos g]
    exact ⟨rfl, g.1⟩
  · exact absurd rfl h
set_option maxHeartbeats 4000000 in
set_option maxRecDepth 100000 in
theorem hparse_any : HParseC (fun _ => True) := by
  intro xs n ad cap w _ hn h9 hx hr _
  have CM := fun w hr => hmagic_any xs n hn h9 ad cap w hr
  by_cases hm : magicF xs = 0
  · rw [parseF_magic hm]
    rw [hm] at CM
    have HR := hide hr
    have HB := hide (below1 w (.cells #[.int .i64 0, .int .i64 0, .int .i64 0, .int .i64 0, .int .i64 0] 47))
    show Calls _ _ _ _ fun e w' => e = .returned (.tuple #[.agg #[.int .i64 0, .int .i64 0, .int .i64 0, .int .i64 0, .int .i64 0], .int .i64 1]) ∧ _
    clear hm hn hx hr
    go_enter Tryd.func25, Tryd.ntmps25
    go_wp2_with (go_at_call 42; (with_reducible refine (CM _ (HR.out.below HB.out)).mono ?_); rintro e w2 ⟨rfl, rfl⟩)
    exact bodyPost_ret (v := .tuple #[.agg #[.int .i64 0, .int .i64 0, .int .i64 0, .int .i64 0, .int .i64 0], .int .i64 1]) (by simp [results, Tryd.results25, go_sem]) rfl ⟨rfl, HB.out⟩
  · obtain ⟨hP, h2⟩ := parseF_body hm
    rw [hP]
    have CX := fun w hr j hj => hnext_any xs n hn h9 hx ad cap w hr j hj
    obtain ⟨K, hK⟩ : ∃ K, bodyF xs.length (magicF xs) (xs.drop 2) = K := ⟨_, rfl⟩
    rw [hK]
    rw [← stK_body _ _ (fun _ => 0), hn] at hK
    have HK := hide hK
    have HN := hide hn
    have HR := hide hr
    obtain ⟨c, hc⟩ : ∃ c, magicF xs = c := ⟨_, rfl⟩
    rw [hc] at hm HK CM
    have hc3 : c = 1 ∨ c = 3 := by
      rw [← hc] at hm ⊢
      unfold magicF at hm ⊢
      split at hm
      · split at hm
        · rename_i g g'; rw [if_pos g, if_pos g']; exact .inr rfl
        · rename_i g g'; rw [if_pos g, if_neg g']; exact .inl rfl
      · exact absurd rfl hm
    rw [hn] at h2
    have HX := hide hx
    have hm0 : (c == 0) = false := beq_eq_false_iff_ne.2 hm
    clear hK hP hn hr hc hm hx
    have HB := hide (below1 w (.cells #[.int .i64 0, .int .i64 0, .int .i64 0, .int .i64 0, .int .i64 0] 47))
    go_enter Tryd.func25, Tryd.ntmps25
    go_wp2_with (go_at_call 42; (with_reducible refine (CM _ (HR.out.below HB.out)).mono ?_); rintro e w2 ⟨rfl, rfl⟩)
    have A0 : Arr3 ((w.alloc (.cells #[.int .i64 0, .int .i64 0, .int .i64 0, .int .i64 0, .int .i64 0] 47)).alloc (.cells #[.int .i64 0, .int .i64 0, .int .i64 0] 72)) (w.heap.size + 1) (fun _ => 0) := by
      intro i hi
      match i, hi with
      | 0, _ => exact ⟨by simp, by simp⟩
      | 1, _ => exact ⟨by simp, by simp⟩
      | 2, _ => exact ⟨by simp, by simp⟩
    have Z0 : Zero5 ((w.alloc (.cells #[.int .i64 0, .int .i64 0, .int .i64 0, .int .i64 0, .int .i64 0] 47)).alloc (.cells #[.int .i64 0, .int .i64 0, .int .i64 0] 72)) w.heap.size :=
      ⟨⟨by simp, by simp, by simp, by simp, by simp⟩, ⟨by simp, by simp, by simp, by simp, by simp⟩⟩
    have HA0 := hide A0
    have HZ0 := hide Z0
    have HB0 := hide (ba HB.out (.cells #[.int .i64 0, .int .i64 0, .int .i64 0] 72))
    clear A0 Z0 HB CM
    generalize (w.alloc (.cells #[.int .i64 0, .int .i64 0, .int .i64 0, .int .i64 0, .int .i64 0] 47)).alloc (.cells #[.int .i64 0, .int .i64 0, .int .i64 0] 72) = w1 at *
    obtain ⟨R, hR⟩ : ∃ R, w.heap.size = R := ⟨_, rfl⟩
    have HRR := hide hR
    rw [hR] at HA0 HZ0
    simp only [hR]
    clear hR
    have nRB : (R : Nat) ≠ R + 1 := by omega
    go_loopw [6, 16] (fun a b wr => ∃ (j k p : Nat) (v : Nat → Int), j + k = 3 ∧ a = .int .i64 (p : Int) ∧ b = .int .i64 (j : Int) ∧ p ≤ n ∧ (∀ i, 0 ≤ v i ∧ v i ≤ 1000000000) ∧ Hid (stK n c k v (xs.drop p) = K) ∧ Hid (Arr3 wr (R + 1) v) ∧ Hid (Zero5 wr R) ∧ Hid (Below w.heap.size w wr)) (fun _ b _ => 3 - (intOf b).toNat)
    case atStart => exact ⟨0, 3, 2, fun _ => 0, rfl, rfl, rfl, h2, (fun _ => ⟨by show (0 : Int) ≤ 0; omega, by show (0 : Int) ≤ 1000000000; omega⟩), HK, HA0, HZ0, HB0⟩
    case round =>
      clear HA0 HZ0 HB0 HK
      obtain ⟨j, k, p, v, hjk, rfl, rfl, hp, hv, hst, hA, hZ, hB⟩ := hrel
      have HV := hide hv
      clear hv
      obtain ⟨⟨c0, c1, c2, c3, c4⟩, ⟨z0, z1, z2, z3, z4⟩⟩ := hZ.out
      have HR0 : w.heap.size ≤ R := Nat.le_of_eq HRR.out
      by_cases hlt : j < 3
      · obtain ⟨k, rfl⟩ : ∃ k', k = k' + 1 := ⟨k - 1, by omega⟩
        have h1 := hst.out
        replace h1 : (if (numF (xs.drop p)).1 ≠ 0 then (hd0, (numF (xs.drop p)).1) else stK n c k (fun i => if i = 2 - k then (numF (xs.drop p)).2.1 else v i) (numF (xs.drop p)).2.2) = K := h1
        have hbd := numF_bound (xs.drop p)
        have CN := fun w hr => CX w hr p hp
        obtain ⟨⟨mc, mv, ml⟩, hM⟩ : ∃ M, numF (xs.drop p) = M := ⟨_, rfl⟩
        rw [hM] at h1 hbd CN
        replace hbd : 0 ≤ mv ∧ mv ≤ 1000000000 := hbd
        simp only at CN
        obtain ⟨q1, q2⟩ := hA.out j hlt
        by_cases hmc : mc = 0
        · subst hmc
          replace h1 : stK n c k (fun i => if i = 2 - k then mv else v i) ml = K := h1
          have HE := hide h1
          clear h1 hM hst CX c0 c1 c2 c3 c4 z0 z1 z2 z3 z4
          go_wp2_with (go_at_call 43; (with_reducible refine (CN _ (HR.out.below hB.out)).mono ?_); rintro e w2 ⟨q, rfl, hq, rfl⟩; obtain ⟨hpq, hqn, hqd⟩ := hq rfl; have HQ := hide hqd; clear hqd hq)
          go_roundw
          case rel =>
            have ej : 2 - k = j := by omega
            refine ⟨j + 1, k, q, _, by omega, rfl, by go_num, hqn, ?_, (by rw [HQ.out]; exact HE), ?_, hide (hZ.out.grown (grown_set _ (R + 1) j _) (fun e => nRB (Option.some.inj e))), hide (bs hB.out (b := R + 1) (o := j) (by omega) _)⟩
            · intro i
              show 0 ≤ (if i = 2 - k then mv else v i) ∧ (if i = 2 - k then mv else v i) ≤ 1000000000
              split
              · exact hbd
              · exact HV.out i
            · rw [ej]
              exact hide (hA.out.put hlt mv)
          case measure => simp [intOf]; omega
        · have hne : (mc != 0) = true := bne_iff_ne.2 hmc
          replace h1 : (if mc ≠ 0 then (hd0, mc) else stK n c k (fun i => if i = 2 - k then mv else v i) ml) = K := h1
          rw [if_pos hmc] at h1
          have HE := hide h1
          have hZ2 := hZ.out.grown (grown_set _ (R + 1) j (.int .i64 mv)) (fun e => nRB (Option.some.inj e))
          obtain ⟨⟨e0, e1, e2, e3, e4⟩, ⟨f0, f1, f2, f3, f4⟩⟩ := hZ2
          have HB2 := hide (bs hB.out (b := R + 1) (o := j) (by omega) (.int .i64 mv))
          clear h1 hM hst CX hmc
          go_wp2_with (go_at_call 43; (with_reducible refine (CN _ (HR.out.below hB.out)).mono ?_); rintro e w2 ⟨q, rfl, _, rfl⟩)
          exact bodyPost_ret (v := .tuple #[.agg #[.int .i64 0, .int .i64 0, .int .i64 0, .int .i64 0, .int .i64 0], .int .i64 mc]) (by simp [results, Tryd.results25, go_sem, e0, e1, e2, e3, e4]) rfl ⟨by rw [← HE.out]; rfl, bs (bs (bs (bs (bs HB2.out (b := R) (o := 0) HR0 _) (b := R) (o := 1) HR0 _) (b := R) (o := 2) HR0 _) (b := R) (o := 3) HR0 _) (b := R) (o := 4) HR0 _⟩
      · obtain rfl : 3 = j := by omega
        obtain rfl : 0 = k := by omega
        have h1 := hst.out
        replace h1 : tailF n c (v 0) (v 1) (v 2) (xs.drop p) = K := h1
        obtain ⟨q0, _⟩ := hA.out 0 (by omega)
        obtain ⟨q1, _⟩ := hA.out 1 (by omega)
        obtain ⟨q2, _⟩ := hA.out 2 (by omega)
        obtain ⟨v00, v01⟩ := HV.out 0
        obtain ⟨v10, v11⟩ := HV.out 1
        obtain ⟨v20, v21⟩ := HV.out 2
        clear hlt hst hA CX HV hjk
        generalize v 0 = x0 at *
        generalize v 1 = x1 at *
        generalize v 2 = x2 at *
        have HBB := hB
        by_cases hpn : p < n
        · have hne : ((p : Int) == (n : Int)) = false := beq_eq_false_iff_ne.2 (by omega)
          obtain ⟨b, off, rfl, cx⟩ := (HR.out.below hB.out).get (j := p) (by rw [HN.out]; exact hpn)
          have CB := fun w => hblank_any (xs.getD p 0) w
          have hdr := drop_cons (xs := xs) (k := p) (by rw [HN.out]; exact hpn)
          have hdl : ((xs.drop p).length : Int) = (n : Int) - (p : Int) := by rw [List.length_drop, HN.out]; omega
          cases hbl : blankF (xs.getD p 0) with
          | false =>
            rw [hbl] at CB
            unfold tailF at h1
            rw [if_neg (by rw [hdr]; simp), if_pos (by rw [hdr]; exact hbl)] at h1
            have HE := hide h1
            clear h1 hbl hdr hdl
            generalize xs.getD p 0 = x at *
            go_wp2_with (go_at_call 44; (with_reducible refine (CB _).mono ?_); rintro e w2 ⟨rfl, rfl⟩)
            exact bodyPost_ret (v := .tuple #[.agg #[.int .i64 0, .int .i64 0, .int .i64 0, .int .i64 0, .int .i64 0], .int .i64 2]) (by simp [results, Tryd.results25, go_sem, c0, c1, c2, c3, c4]) rfl ⟨by rw [← HE.out]; rfl, bs (bs (bs (bs (bs HBB.out (b := R) (o := 0) HR0 _) (b := R) (o := 1) HR0 _) (b := R) (o := 2) HR0 _) (b := R) (o := 3) HR0 _) (b := R) (o := 4) HR0 _⟩
          | true =>
            rw [hbl] at CB
            rw [tailF_check _ _ _ _ _ _ (by rw [hdr]; simp) (by rw [hdr]; exact hbl), hdl] at h1
            have CK := fun w => hcheck_any c x0 x1 x2 ((p : Int) + 1) v00 v10 v20 w
            obtain ⟨kc, hkc⟩ : ∃ kc, checkF x0 x1 c x2 = kc := ⟨_, rfl⟩
            rw [hkc] at h1 CK
            clear hbl hdr hdl hkc
            generalize xs.getD p 0 = x at *
            by_cases hk0 : kc = 0
            · subst hk0
              rw [if_pos rfl, show (n : Int) - ((n : Int) - (p : Int)) + 1 = (p : Int) + 1 by omega] at h1
              have HE := hide h1
              clear h1
              go_wp2_with (first
                | (go_at_call 44; (with_reducible refine (CB _).mono ?_); rintro e w2 ⟨rfl, rfl⟩)
                | (go_at_call 45; (with_reducible refine (CK _).mono ?_); rintro e w3 ⟨rfl, b3⟩; have p0 := cb b3 (b := wr.heap.size) (o := 0) (v := .int .i64 c) (by simp) (by simp); have p1 := cb b3 (b := wr.heap.size) (o := 1) (v := .int .i64 x0) (by simp) (by simp); have p2 := cb b3 (b := wr.heap.size) (o := 2) (v := .int .i64 x1) (by simp) (by simp); have p3 := cb b3 (b := wr.heap.size) (o := 3) (v := .int .i64 x2) (by simp) (by simp); have p4 := cb b3 (b := wr.heap.size) (o := 4) (v := .int .i64 ((p : Int) + 1)) (by simp) (by simp); have HB3 := hide (bt (ba HBB.out _) b3); obtain ⟨⟨e0, e1, e2, e3, e4⟩, ⟨f0, f1, f2, f3, f4⟩⟩ := (hZ.out.grown (grown_below (below1 _ _) none) (fun e => by cases e)).grown (grown_below b3 none) (fun e => by cases e); have hB5 : wr.heap.size < w3.heap.size := (by have := b3.size; simp at this; omega); have hRw : R < wr.heap.size := cell_ltL c0))
              exact bodyPost_ret (v := .tuple #[.agg #[.int .i64 c, .int .i64 x0, .int .i64 x1, .int .i64 x2, .int .i64 ((p : Int) + 1)], .int .i64 0]) (by simp [results, Tryd.results25, go_sem, e0, e1, e2, e3, e4]) rfl ⟨by rw [← HE.out]; rfl, bs (bs (bs (bs (bs HB3.out (b := R) (o := 0) HR0 _) (b := R) (o := 1) HR0 _) (b := R) (o := 2) HR0 _) (b := R) (o := 3) HR0 _) (b := R) (o := 4) HR0 _⟩
            · have hkn : (kc != 0) = true := bne_iff_ne.2 hk0
              rw [if_neg hk0] at h1
              have HE := hide h1
              clear h1 hk0
              go_wp2_with (first
                | (go_at_call 44; (with_reducible refine (CB _).mono ?_); rintro e w2 ⟨rfl, rfl⟩)
                | (go_at_call 45; (with_reducible refine (CK _).mono ?_); rintro e w3 ⟨rfl, b3⟩; have p0 := cb b3 (b := wr.heap.size) (o := 0) (v := .int .i64 c) (by simp) (by simp); have p1 := cb b3 (b := wr.heap.size) (o := 1) (v := .int .i64 x0) (by simp) (by simp); have p2 := cb b3 (b := wr.heap.size) (o := 2) (v := .int .i64 x1) (by simp) (by simp); have p3 := cb b3 (b := wr.heap.size) (o := 3) (v := .int .i64 x2) (by simp) (by simp); have p4 := cb b3 (b := wr.heap.size) (o := 4) (v := .int .i64 ((p : Int) + 1)) (by simp) (by simp); have HB3 := hide (bt (ba HBB.out _) b3); obtain ⟨⟨e0, e1, e2, e3, e4⟩, ⟨f0, f1, f2, f3, f4⟩⟩ := (hZ.out.grown (grown_below (below1 _ _) none) (fun e => by cases e)).grown (grown_below b3 none) (fun e => by cases e); have hB5 : wr.heap.size < w3.heap.size := (by have := b3.size; simp at this; omega); have hRw : R < wr.heap.size := cell_ltL c0))
              exact bodyPost_ret (v := .tuple #[.agg #[.int .i64 0, .int .i64 0, .int .i64 0, .int .i64 0, .int .i64 0], .int .i64 kc]) (by simp [results, Tryd.results25, go_sem, e0, e1, e2, e3, e4]) rfl ⟨by rw [← HE.out]; rfl, bs (bs (bs (bs (bs HB3.out (b := R) (o := 0) HR0 _) (b := R) (o := 1) HR0 _) (b := R) (o := 2) HR0 _) (b := R) (o := 3) HR0 _) (b := R) (o := 4) HR0 _⟩
        · obtain rfl : p = n := by omega
          have hne : ((p : Int) == (p : Int)) = true := beq_self_eq_true _
          unfold tailF at h1
          rw [if_pos (List.drop_eq_nil_of_le (by rw [HN.out]; exact Nat.le_refl _))] at h1
          have HE := hide h1
          clear h1 hpn
          go_wp2
          exact bodyPost_ret (v := .tuple #[.agg #[.int .i64 0, .int .i64 0, .int .i64 0, .int .i64 0, .int .i64 0], .int .i64 3]) (by simp [results, Tryd.results25, go_sem, c0, c1, c2, c3, c4]) rfl ⟨by rw [← HE.out]; rfl, bs (bs (bs (bs (bs HBB.out (b := R) (o := 0) HR0 _) (b := R) (o := 1) HR0 _) (b := R) (o := 2) HR0 _) (b := R) (o := 3) HR0 _) (b := R) (o := 4) HR0 _⟩
end Go.Proofs.YtoppojilndnghaaDoor
