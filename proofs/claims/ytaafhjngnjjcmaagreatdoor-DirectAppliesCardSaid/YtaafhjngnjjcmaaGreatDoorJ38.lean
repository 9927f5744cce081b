/- Parts, joined. -/
import Derived.Test.YtaafhjngnjjcmaaGreatDoorJ29
import Derived.Test.YtaafhjngnjjcmaaGreatDoorJ37
/- The program's images: a copy, the same. -/
namespace Go.Proofs.YtaafhjngnjjcmaaGreatDoor
open Go.RowKit


set_option maxHeartbeats 1000000 in
theorem img_copy {w : World} {g h : Nat} {I : Im} (H : ImgAt w g h I) : Calls Tryz.prog 43 #[.pointer (some ⟨g, 0, none⟩)] w fun e w' => ∃ v, e = .returned v ∧ ImgNew w.heap.size w' v I ∧ Below w.heap.size w w' := by
  have hk := H.ok
  obtain ⟨l0, l1⟩ := imOk_len hk
  obtain ⟨cap, c0, c1, c2, c3, c4, hr, hz, hcap, -⟩ := H
  obtain ⟨n, hn⟩ : ∃ n, I.il.length = n := ⟨_, rfl⟩
  have HN := hide hn
  have CC := fun w hr => clone16 I.il n hn h 0 cap (by omega) w hr
  have HR := hide hr
  have HOK := hide hk
  rw [hn] at l0 l1 c4 hcap
  obtain ⟨a, b, c, t, xs⟩ := I
  replace c0 : w.cell? ⟨g, 0, none⟩ = some (.int .i64 a) := c0
  replace c1 : w.cell? ⟨g, 1, none⟩ = some (.int .i64 b) := c1
  replace c2 : w.cell? ⟨g, 2, none⟩ = some (.int .i64 c) := c2
  replace c3 : w.cell? ⟨g, 3, none⟩ = some (.int .i64 t) := c3
  replace CC : ∀ w, RowAt .u16 w (some ⟨h, 0, none⟩) xs → Calls Tryz.prog 44 #[.slice (some ⟨h, 0, none⟩) n cap] w fun e w' => ∃ v, e = .returned v ∧ OwnI .u16 22 w' w.heap.size v xs ∧ Below w.heap.size w w' := CC
  replace HR : Hid (RowAt .u16 w (some ⟨h, 0, none⟩) xs) := HR
  replace HN : Hid (xs.length = n) := HN
  have gl := cell_ltL c0
  clear hr hz hk hn hcap
  go_enter Tryz.func43, Tryz.ntmps43
  go_upto_region 1 with fail
  go_region_held3 (fun w' => w'.cell? ⟨g, 0, none⟩ = some (.int .i64 a) ∧ w'.cell? ⟨g, 1, none⟩ = some (.int .i64 b) ∧ w'.cell? ⟨g, 2, none⟩ = some (.int .i64 c) ∧ w'.cell? ⟨g, 3, none⟩ = some (.int .i64 t) ∧ w'.cell? ⟨g, 4, none⟩ = some (.slice (some ⟨h, 0, none⟩) n cap)) (go_keep)
    (first | (go_at_call 44; (with_reducible refine (CC _ (HR.out.below (by repeat (first | exact Below.refl _ _ | (with_reducible refine bdN ?_ _) | (with_reducible refine bd ?_))))).mono ?_); rintro e w2 ⟨v, rfl, own, b2⟩; obtain ⟨g2, cp, rfl, hg, hlt, hr, hcp, hz⟩ := own_row own HN.out l0; clear own; have d0 := cb b2 gl c0; have d1 := cb b2 gl c1; have d2 := cb b2 gl c2; have d3 := cb b2 gl c3; have d4 := cb b2 gl c4))
  all_goals go_wp2
  all_goals
    have hi := ImgAt.new (T := 84) hr hz (by rw [HN.out]; exact hcp) HOK.out
    have s2 := b2.size
    replace hi : ImgAt (w2.alloc (.cells #[.int .i64 a, .int .i64 b, .int .i64 c, .int .i64 t, .slice (some ⟨g2, 0, none⟩) xs.length cp] 84)) w2.heap.size g2 ⟨a, b, c, t, xs⟩ := hi
    rw [HN.out] at hi
    exact bodyPost_ret (v := .pointer (some ⟨w2.heap.size, 0, none⟩)) (by simp [results, Tryz.results43, go_sem]) rfl ⟨_, rfl, ⟨w2.heap.size, g2, rfl, s2, hg, hi⟩, ba (bt (bd (Below.refl _ _)) b2) _⟩
/-- The same image? -/
def imSame (I J : Im) : Bool := decide (I.iw = J.iw ∧ I.ih = J.ih ∧ I.ic = J.ic ∧ I.it = J.it ∧ I.il = J.il)
theorem imSame_self (I : Im) : imSame I I = true := decide_eq_true ⟨rfl, rfl, rfl, rfl, rfl⟩
theorem imSame_no {I J : Im} (h : ¬(I.iw = J.iw ∧ I.ih = J.ih ∧ I.ic = J.ic ∧ I.it = J.it)) : imSame I J = false := decide_eq_false fun ⟨a, b, c, d, _⟩ => h ⟨a, b, c, d⟩
theorem imSame_yes {I J : Im} (h : I.iw = J.iw ∧ I.ih = J.ih ∧ I.ic = J.ic ∧ I.it = J.it) : imSame I J = decide (I.il = J.il) := decide_eq_decide.2 ⟨fun q => q.2.2.2.2, fun q => ⟨h.1, h.2.1, h.2.2.1, h.2.2.2, q⟩⟩
set_option maxHeartbeats 2000000 in
theorem img_same {w : World} {g h g' h' : Nat} {I J : Im} (H : ImgAt w g h I) (H' : ImgAt w g' h' J) : Calls Tryz.prog 15 #[.pointer (some ⟨g, 0, none⟩), .pointer (some ⟨g', 0, none⟩)] w fun e w' => e = .returned (.bool (imSame I J)) ∧ Drew w w' := by
  obtain ⟨l0, l1⟩ := imOk_len H.ok
  obtain ⟨l2, l3⟩ := imOk_len H'.ok
  obtain ⟨cap, c0, c1, c2, c3, c4, hr, hz, hcap, -⟩ := H
  obtain ⟨cap', d0, d1, d2, d3, d4, hr', hz', hcap', -⟩ := H'
  have CE := fun k => equal16 I.il J.il _ _ rfl rfl (some ⟨h, 0, none⟩) (some ⟨h', 0, none⟩) cap cap' l1 (w.drewN k) (hr.below (bdN (Below.refl _ _) k)) (hr'.below (bdN (Below.refl _ _) k))
  by_cases hs : I.iw = J.iw ∧ I.ih = J.ih ∧ I.ic = J.ic ∧ I.it = J.it
  · rw [imSame_yes hs]
    obtain ⟨e0, e1, e2, e3⟩ := hs
    rw [← e0] at d0
    rw [← e1] at d1
    rw [← e2] at d2
    rw [← e3] at d3
    generalize decide (I.il = J.il) = r at *
    generalize I.il.length = n at *
    generalize J.il.length = m at *
    generalize I.iw = a at *
    generalize I.ih = b at *
    generalize I.ic = c at *
    generalize I.it = t at *
    have q0 : (a == a) = true := beq_self_eq_true a
    have q1 : (b == b) = true := beq_self_eq_true b
    have q2 : (c == c) = true := beq_self_eq_true c
    have q3 : (t == t) = true := beq_self_eq_true t
    clear e0 e1 e2 e3 hr hr' hz hz' hcap hcap' l0 l1 l2 l3
    go_enter Tryz.func15, Tryz.ntmps15
    go_wp2_with fail
    go_quiet ((go_at_call 45; with_reducible exact calmD (CE _)))
    go_wp2
    go_ret
    exact ⟨rfl, (Drew.refl _).more _⟩
  · rw [imSame_no hs]
    generalize decide (I.il = J.il) = r at *
    generalize I.il.length = n at *
    generalize J.il.length = m at *
    generalize I.iw = a at *
    generalize I.ih = b at *
    generalize I.ic = c at *
    generalize I.it = t at *
    generalize J.iw = a' at *
    generalize J.ih = b' at *
    generalize J.ic = c' at *
    generalize J.it = t' at *
    clear hr hr' hz hz' hcap hcap' l0 l1 l2 l3 CE c4 d4
    by_cases e0 : a = a'
    · subst e0
      have q0 : (a == a) = true := beq_self_eq_true a
      by_cases e1 : b = b'
      · subst e1
        have q1 : (b == b) = true := beq_self_eq_true b
        by_cases e2 : c = c'
        · subst e2
          have q2 : (c == c) = true := beq_self_eq_true c
          have q3 : (t == t') = false := beq_eq_false_iff_ne.2 (fun e => hs ⟨rfl, rfl, rfl, e⟩)
          clear hs
          go_enter Tryz.func15, Tryz.ntmps15
          go_wp2_with fail
          go_quiet (fail)
          go_wp2
          go_ret
          exact ⟨rfl, (Drew.refl _).more _⟩
        · have q2 : (c == c') = false := beq_eq_false_iff_ne.2 e2
          clear hs e2
          go_enter Tryz.func15, Tryz.ntmps15
          go_wp2_with fail
          go_quiet (fail)
          go_wp2
          go_ret
          exact ⟨rfl, (Drew.refl _).more _⟩
      · have q1 : (b == b') = false := beq_eq_false_iff_ne.2 e1
        clear hs e1
        go_enter Tryz.func15, Tryz.ntmps15
        go_wp2_with fail
        go_quiet (fail)
        go_wp2
        go_ret
        exact ⟨rfl, (Drew.refl _).more _⟩
    · have q0 : (a == a') = false := beq_eq_false_iff_ne.2 e0
      clear hs e0
      go_enter Tryz.func15, Tryz.ntmps15
      go_wp2_with fail
      go_quiet (fail)
      go_wp2
      go_ret
      exact ⟨rfl, (Drew.refl _).more _⟩
theorem nil_same (g : Nat) (w : World) : Calls Tryz.prog 15 #[.pointer none, .pointer (some ⟨g, 0, none⟩)] w fun e w' => e = .returned (.bool false) ∧ w = w' := by
  have q1 : ∀ w : World, (binOp .eql 28 (.pointer none) (.pointer (some ⟨g, 0, none⟩))).run Tryz.prog w = .ok (.bool false) w := fun w => by kernel_rfl
  have q2 : ∀ w : World, (binOp .eql 28 (.pointer (some ⟨g, 0, none⟩)) (.pointer none)).run Tryz.prog w = .ok (.bool false) w := fun w => by kernel_rfl
  go_enter Tryz.func15, Tryz.ntmps15
  go_wp2
  go_ret
  exact ⟨rfl, rfl⟩
end Go.Proofs.YtaafhjngnjjcmaaGreatDoor

/- What comes out: stage by stage (Compose). -/
namespace Go.Proofs.YtaafhjngnjjcmaaGreatDoor
open Go.RowKit

theorem comp_later (I : Im) (F : Nat → Stg) {k : Nat} (h : compCode I (stgL F (k + 1)) ≠ 0) {n : Nat} (hk : k < n) : compCode I (stgL F n) = compCode I (stgL F (k + 1)) := by
  induction n with
  | zero => omega
  | succ n ih =>
    by_cases e : k = n
    · rw [e]
    · have := ih (by omega)
      rw [stgL_snoc, comp_stays _ _ _ (by rw [this]; exact h), this]
set_option maxHeartbeats 4000000 in
set_option maxRecDepth 100000 in
theorem dir_compose {w : World} {g h : Nat} {I : Im} {ad : Option Addr} {n cap : Nat} {F : Nat → Stg} (hk : OpK w) (H : ImgAt w g h I) (hs : StgsAt w ad n F) (hn : n ≤ maxLen) (hF : ∀ j, j < n → SmallS (F j)) :
    Calls Tryz.prog 12 #[.pointer (some ⟨g, 0, none⟩), .slice ad n cap] w fun e w' => ApplyAns w.heap.size e w' (compCode I (stgL F n)) (composeF I (stgL F n)) ∧ Below w.heap.size w w' := by
  have hm : n ≤ 9223372036854775807 := hn
  by_cases h0 : n = 0
  · subst h0
    have HA := hide (fun (w' : World) (v : Value) (q : ImgNew w.heap.size w' v I) => show ApplyAns w.heap.size (.returned (.tuple #[v, .int .i64 0])) w' (compCode I (stgL F 0)) (composeF I (stgL F 0)) from .inl ⟨rfl, v, rfl, q⟩)
    have CC := img_copy H
    clear H hs hF hn hk
    go_enter Tryz.func12, Tryz.ntmps12
    go_wp2_with (go_at_call 43; (with_reducible refine CC.mono ?_); rintro e w1 ⟨v, rfl, ⟨g1, h1, rfl, hq⟩, b1⟩; have HQ := hide hq; have HB := hide b1; clear hq b1)
    exact bodyPost_ret (v := .tuple #[.pointer (some ⟨g1, 0, none⟩), .int .i64 0]) (by simp [results, Tryz.results12, go_sem]) rfl ⟨HA.out _ _ ⟨g1, h1, rfl, HQ.out⟩, HB.out⟩
  · have hne : ((n : Int) == 0) = false := by simp; omega
    have HS := hide hs
    have HH := hide H
    have HF := hide hF
    have CA := hide (fun w' (b : Below w.heap.size w w') g' h' J k x y (q : ImgAt w' g' h' J) (tx : Tab w' x (F k).fx (F k).lx) (ty : Tab w' y (F k).fy (F k).ly) (hkn : k < n) => dir_apply (opk_below _ _ hk b) q tx ty (hF k hkn))
    have HYes := hide (fun (w' : World) (v : Value) (q : ImgNew w.heap.size w' v (composeF I (stgL F n))) (hc : compCode I (stgL F n) = 0) => show ApplyAns w.heap.size (.returned (.tuple #[v, .int .i64 0])) w' (compCode I (stgL F n)) (composeF I (stgL F n)) from .inl ⟨hc, v, rfl, q⟩)
    have HNo := hide (fun (w' : World) (k : Nat) (hkn : k < n) (hc : compCode I (stgL F (k + 1)) ≠ 0) => show ApplyAns w.heap.size (.returned (.tuple #[.pointer none, .int .i64 (compCode I (stgL F (k + 1)))])) w' (compCode I (stgL F n)) (composeF I (stgL F n)) from .inr (by rw [comp_later I F hc hkn]; exact ⟨hc, rfl⟩))
    clear H hs hF hn hk
    go_enter Tryz.func12, Tryz.ntmps12
    go_wp2
    go_loopg [0, 17] n (fun r mm i wr => ∃ k : Nat, k + r = n ∧ i = .int .i64 (k : Int) ∧ Hid (compCode I (stgL F k) = 0) ∧ (∃ g' h', mm = .pointer (some ⟨g', 0, none⟩) ∧ ImgAt wr g' h' (composeF I (stgL F k)) ∧ (k ≠ 0 → w.heap.size ≤ g' ∧ w.heap.size ≤ h')) ∧ Below w.heap.size w wr)
    case atStart => exact ⟨0, by omega, rfl, hide rfl, ⟨g, h, rfl, HH.out, fun e => absurd rfl e⟩, Below.refl _ _⟩
    case round =>
      obtain ⟨k, hkk, rfl, hcc, ⟨g', h', rfl, hq, hold⟩, hb⟩ := hrel
      have HK := hide hkk
      have HQ := hide hq
      have HB := hide hb
      have HOLD := hide hold
      clear hkk hq hb hold
      by_cases hlt : k < n
      · obtain ⟨b, off, rfl, x, y, c0, c1, c2, tx, ty⟩ := (HS.out.below HB.out).get hlt
        obtain ⟨ax, rfl⟩ := tx.ptr
        obtain ⟨ay, rfl⟩ := ty.ptr
        obtain ⟨W1, hW1⟩ : ∃ W1, wr.alloc (.cells #[.pointer (some ax), .pointer (some ay), .int .i64 (F k).sb] 44) = W1 := ⟨_, rfl⟩
        have B1 := hide (show Below wr.heap.size wr W1 by rw [← hW1]; exact below1 _ _)
        have T1 := hide (show S3 W1 wr.heap.size (.pointer (some ax)) (.pointer (some ay)) (.int .i64 (F k).sb) by rw [← hW1]; exact S3.new wr 44 _ _ _)
        have CA1 := CA.out W1 (bt HB.out B1.out) g' h' _ k _ _ (HQ.out.below B1.out) (tx.below B1.out) (ty.below B1.out) hlt
        have HCS := hide (show compCode I (stgL F (k + 1)) = stepC (composeF I (stgL F k)) (F k) by rw [stgL_snoc]; exact comp_snoc _ _ _ hcc.out)
        have HCM := hide (show composeF I (stgL F (k + 1)) = applyF (composeF I (stgL F k)) (F k) by rw [stgL_snoc, compose_snoc])
        clear tx ty
        by_cases hz : stepC (composeF I (stgL F k)) (F k) = 0
        · have CA2 : Calls Tryz.prog 16 #[.pointer (some ⟨g', 0, none⟩), .agg #[.pointer (some ax), .pointer (some ay), .int .i64 (F k).sb]] W1 fun e w' => (∃ g1 h1, e = .returned (.tuple #[.pointer (some ⟨g1, 0, none⟩), .int .i64 0]) ∧ W1.heap.size ≤ g1 ∧ W1.heap.size ≤ h1 ∧ ImgAt w' g1 h1 (composeF I (stgL F (k + 1)))) ∧ Below W1.heap.size W1 w' :=
            CA1.mono fun e w' ⟨hA, hB⟩ => by
              rcases hA with ⟨_, v, he, g1, h1, rfl, l1, l2, q⟩ | ⟨hn, _⟩
              · exact ⟨⟨g1, h1, he, l1, l2, by rw [HCM.out]; exact q⟩, hB⟩
              · exact absurd hz hn
          have HC2 := hide (HCS.out.trans hz)
          clear CA1 hz HCS HCM
          generalize (F k).sb = sb at *
          go_upto_region 6 with fail
          clear hW1
          obtain ⟨⟨t0, _⟩, ⟨t1, _⟩, ⟨t2, _⟩⟩ := T1.out
          go_wp2_with (go_at_call 16; (with_reducible refine CA2.mono ?_); rintro e w2 ⟨⟨g1, h1, rfl, l1, l2, q⟩, b2⟩; have HQ2 := hide q; have HL := hide (And.intro l1 l2); have B2 := hide (bt (bt HB.out B1.out) b2); clear q l1 l2 b2)
          go_roundg (gk - 1)
          case measure => have := HK.out; omega
          case rel => exact ⟨k + 1, by have := HK.out; omega, by go_num, HC2, ⟨g1, h1, rfl, HQ2.out, fun _ => by have a := HL.out.1; have b := HL.out.2; have c := HB.out.size; have d := B1.out.size; exact ⟨by omega, by omega⟩⟩, B2.out⟩
        · have HN2 := hide (fun w' => HNo.out w' k hlt (by rw [HCS.out]; exact hz))
          obtain ⟨Z, hZ⟩ : ∃ Z, compCode I (stgL F (k + 1)) = Z := ⟨_, rfl⟩
          rw [hZ] at HN2 HCS
          have CA2 : Calls Tryz.prog 16 #[.pointer (some ⟨g', 0, none⟩), .agg #[.pointer (some ax), .pointer (some ay), .int .i64 (F k).sb]] W1 fun e w' => e = .returned (.tuple #[.pointer none, .int .i64 Z]) ∧ Below W1.heap.size W1 w' :=
            CA1.mono fun e w' ⟨hA, hB⟩ => by
              rcases hA with ⟨hn, _⟩ | ⟨_, he⟩
              · exact absurd hn hz
              · rw [← HCS.out] at he
                exact ⟨he, hB⟩
          have hZ0 : (Z != 0) = true := by rw [HCS.out]; exact bne_iff_ne.2 hz
          clear CA1 hz HCS HCM hZ
          generalize (F k).sb = sb at *
          go_upto_region 6 with fail
          clear hW1
          obtain ⟨⟨t0, _⟩, ⟨t1, _⟩, ⟨t2, _⟩⟩ := T1.out
          go_wp2_with (go_at_call 16; (with_reducible refine CA2.mono ?_); rintro e w2 ⟨rfl, b2⟩; have B2 := hide (bt (bt HB.out B1.out) b2); clear b2)
          exact bodyPost_ret (v := .tuple #[.pointer none, .int .i64 Z]) (by simp [results, Tryz.results12, go_sem]) rfl ⟨HN2.out _, B2.out⟩
      · obtain rfl : n = k := by have := HK.out; omega
        have hg := HOLD.out h0
        clear hlt
        go_wp2
        exact bodyPost_ret (v := .tuple #[.pointer (some ⟨g', 0, none⟩), .int .i64 0]) (by simp [results, Tryz.results12, go_sem]) rfl ⟨HYes.out _ _ ⟨g', h', rfl, hg.1, hg.2, HQ.out⟩ hcc.out, HB.out⟩
end Go.Proofs.YtaafhjngnjjcmaaGreatDoor
