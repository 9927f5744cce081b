/- The program's images: a copy, the same. -/
import Derived.Test.YtcamllahcjonkaaS09F
namespace Go.Proofs.Ytcamllahcjonkaa
open Go.RowKit

set_option maxHeartbeats 1000000 in
theorem img_copy {w : World} {g h : Nat} {I : Im} (H : ImgAt w g h I) : Calls Try.prog 24 #[.pointer (some ⟨g, 0, none⟩)] w fun e w' => ∃ v, e = .returned v ∧ ImgNew w.heap.size w' v I ∧ Below w.heap.size w w' := by
  have hk := H.ok
  obtain ⟨l0, l1⟩ := imOk_len hk
  obtain ⟨cap, c0, c1, c2, c3, c4, hr, hz, hcap, -⟩ := H
  obtain ⟨n, hn⟩ : ∃ n, I.il.length = n := ⟨_, rfl⟩
  have HN := hide hn
  have CC := fun w hr => clone16 I.il n hn h 0 cap (by omega) w hr
  have HR := hide hr
  have HOK := hide hk
  rw [hn] at l0 l1 c4 hcap
  obtain ⟨a, b, c, t, xs⟩ := I
  replace c0 : w.cell? ⟨g, 0, none⟩ = some (.int .i64 a) := c0
  replace c1 : w.cell? ⟨g, 1, none⟩ = some (.int .i64 b) := c1
  replace c2 : w.cell? ⟨g, 2, none⟩ = some (.int .i64 c) := c2
  replace c3 : w.cell? ⟨g, 3, none⟩ = some (.int .i64 t) := c3
  replace CC : ∀ w, RowAt .u16 w (some ⟨h, 0, none⟩) xs → Calls Try.prog 31 #[.slice (some ⟨h, 0, none⟩) n cap] w fun e w' => ∃ v, e = .returned v ∧ OwnI .u16 22 w' w.heap.size v xs ∧ Below w.heap.size w w' := CC
  replace HR : Hid (RowAt .u16 w (some ⟨h, 0, none⟩) xs) := HR
  replace HN : Hid (xs.length = n) := HN
  have gl := cell_ltL c0
  clear hr hz hk hn hcap
  go_enter Try.func24, Try.ntmps24
  go_upto_region 1 with fail
  go_region_held3 (fun w' => w'.cell? ⟨g, 0, none⟩ = some (.int .i64 a) ∧ w'.cell? ⟨g, 1, none⟩ = some (.int .i64 b) ∧ w'.cell? ⟨g, 2, none⟩ = some (.int .i64 c) ∧ w'.cell? ⟨g, 3, none⟩ = some (.int .i64 t) ∧ w'.cell? ⟨g, 4, none⟩ = some (.slice (some ⟨h, 0, none⟩) n cap)) (go_keep)
    (first | (go_at_call 31; (with_reducible refine (CC _ (HR.out.below (by repeat (first | exact Below.refl _ _ | (with_reducible refine bdN ?_ _) | (with_reducible refine bd ?_))))).mono ?_); rintro e w2 ⟨v, rfl, own, b2⟩; obtain ⟨g2, cp, rfl, hg, hlt, hr, hcp, hz⟩ := own_row own HN.out l0; clear own; have d0 := cb b2 gl c0; have d1 := cb b2 gl c1; have d2 := cb b2 gl c2; have d3 := cb b2 gl c3; have d4 := cb b2 gl c4))
  all_goals go_wp2
  all_goals
    have hi := ImgAt.new (T := 56) hr hz (by rw [HN.out]; exact hcp) HOK.out
    have s2 := b2.size
    replace hi : ImgAt (w2.alloc (.cells #[.int .i64 a, .int .i64 b, .int .i64 c, .int .i64 t, .slice (some ⟨g2, 0, none⟩) xs.length cp] 56)) w2.heap.size g2 ⟨a, b, c, t, xs⟩ := hi
    rw [HN.out] at hi
    exact bodyPost_ret (v := .pointer (some ⟨w2.heap.size, 0, none⟩)) (by simp [results, Try.results24, go_sem]) rfl ⟨_, rfl, ⟨w2.heap.size, g2, rfl, s2, hg, hi⟩, ba (bt (bd (Below.refl _ _)) b2) _⟩

/-- The same image? -/
def imSame (I J : Im) : Bool := decide (I.iw = J.iw ∧ I.ih = J.ih ∧ I.ic = J.ic ∧ I.it = J.it ∧ I.il = J.il)
theorem imSame_self (I : Im) : imSame I I = true := decide_eq_true ⟨rfl, rfl, rfl, rfl, rfl⟩
theorem imSame_no {I J : Im} (h : ¬(I.iw = J.iw ∧ I.ih = J.ih ∧ I.ic = J.ic ∧ I.it = J.it)) : imSame I J = false := decide_eq_false fun ⟨a, b, c, d, _⟩ => h ⟨a, b, c, d⟩
theorem imSame_yes {I J : Im} (h : I.iw = J.iw ∧ I.ih = J.ih ∧ I.ic = J.ic ∧ I.it = J.it) : imSame I J = decide (I.il = J.il) := decide_eq_decide.2 ⟨fun q => q.2.2.2.2, fun q => ⟨h.1, h.2.1, h.2.2.1, h.2.2.2, q⟩⟩
set_option maxHeartbeats 2000000 in
theorem img_same {w : World} {g h g' h' : Nat} {I J : Im} (H : ImgAt w g h I) (H' : ImgAt w g' h' J) : Calls Try.prog 29 #[.pointer (some ⟨g, 0, none⟩), .pointer (some ⟨g', 0, none⟩)] w fun e w' => e = .returned (.bool (imSame I J)) ∧ Drew w w' := by
  obtain ⟨l0, l1⟩ := imOk_len H.ok
  obtain ⟨l2, l3⟩ := imOk_len H'.ok
  obtain ⟨cap, c0, c1, c2, c3, c4, hr, hz, hcap, -⟩ := H
  obtain ⟨cap', d0, d1, d2, d3, d4, hr', hz', hcap', -⟩ := H'
  have CE := fun k => equal16 I.il J.il _ _ rfl rfl (some ⟨h, 0, none⟩) (some ⟨h', 0, none⟩) cap cap' l1 (w.drewN k) (hr.below (bdN (Below.refl _ _) k)) (hr'.below (bdN (Below.refl _ _) k))
  by_cases hs : I.iw = J.iw ∧ I.ih = J.ih ∧ I.ic = J.ic ∧ I.it = J.it
  · rw [imSame_yes hs]
    obtain ⟨e0, e1, e2, e3⟩ := hs
    rw [← e0] at d0
    rw [← e1] at d1
    rw [← e2] at d2
    rw [← e3] at d3
    generalize decide (I.il = J.il) = r at *
    generalize I.il.length = n at *
    generalize J.il.length = m at *
    generalize I.iw = a at *
    generalize I.ih = b at *
    generalize I.ic = c at *
    generalize I.it = t at *
    have q0 : (a == a) = true := beq_self_eq_true a
    have q1 : (b == b) = true := beq_self_eq_true b
    have q2 : (c == c) = true := beq_self_eq_true c
    have q3 : (t == t) = true := beq_self_eq_true t
    clear e0 e1 e2 e3 hr hr' hz hz' hcap hcap' l0 l1 l2 l3
    go_enter Try.func29, Try.ntmps29
    go_wp2_with fail
    go_quiet ((go_at_call 38; with_reducible exact calmD (CE _)))
    go_wp2
    go_ret
    exact ⟨rfl, (Drew.refl _).more _⟩
  · rw [imSame_no hs]
    generalize decide (I.il = J.il) = r at *
    generalize I.il.length = n at *
    generalize J.il.length = m at *
    generalize I.iw = a at *
    generalize I.ih = b at *
    generalize I.ic = c at *
    generalize I.it = t at *
    generalize J.iw = a' at *
    generalize J.ih = b' at *
    generalize J.ic = c' at *
    generalize J.it = t' at *
    clear hr hr' hz hz' hcap hcap' l0 l1 l2 l3 CE c4 d4
    by_cases e0 : a = a'
    · subst e0
      have q0 : (a == a) = true := beq_self_eq_true a
      by_cases e1 : b = b'
      · subst e1
        have q1 : (b == b) = true := beq_self_eq_true b
        by_cases e2 : c = c'
        · subst e2
          have q2 : (c == c) = true := beq_self_eq_true c
          have q3 : (t == t') = false := beq_eq_false_iff_ne.2 (fun e => hs ⟨rfl, rfl, rfl, e⟩)
          clear hs
          go_enter Try.func29, Try.ntmps29
          go_wp2_with fail
          go_quiet (fail)
          go_wp2
          go_ret
          exact ⟨rfl, (Drew.refl _).more _⟩
        · have q2 : (c == c') = false := beq_eq_false_iff_ne.2 e2
          clear hs e2
          go_enter Try.func29, Try.ntmps29
          go_wp2_with fail
          go_quiet (fail)
          go_wp2
          go_ret
          exact ⟨rfl, (Drew.refl _).more _⟩
      · have q1 : (b == b') = false := beq_eq_false_iff_ne.2 e1
        clear hs e1
        go_enter Try.func29, Try.ntmps29
        go_wp2_with fail
        go_quiet (fail)
        go_wp2
        go_ret
        exact ⟨rfl, (Drew.refl _).more _⟩
    · have q0 : (a == a') = false := beq_eq_false_iff_ne.2 e0
      clear hs e0
      go_enter Try.func29, Try.ntmps29
      go_wp2_with fail
      go_quiet (fail)
      go_wp2
      go_ret
      exact ⟨rfl, (Drew.refl _).more _⟩
theorem nil_same_nil (w : World) : Calls Try.prog 29 #[.pointer none, .pointer none] w fun e w' => e = .returned (.bool true) ∧ w = w' := by
  have q : ∀ w : World, (binOp .eql 25 (.pointer none) (.pointer none)).run Try.prog w = .ok (.bool true) w := fun w => by kernel_rfl
  go_enter Try.func29, Try.ntmps29
  go_wp2
  exact bodyPost_ret (v := .bool true) (by simp [results, Try.results29, go_sem]) rfl ⟨rfl, rfl⟩
theorem nil_same (g : Nat) (w : World) : Calls Try.prog 29 #[.pointer none, .pointer (some ⟨g, 0, none⟩)] w fun e w' => e = .returned (.bool false) ∧ w = w' := by
  have q1 : ∀ w : World, (binOp .eql 25 (.pointer none) (.pointer (some ⟨g, 0, none⟩))).run Try.prog w = .ok (.bool false) w := fun w => by kernel_rfl
  have q2 : ∀ w : World, (binOp .eql 25 (.pointer (some ⟨g, 0, none⟩)) (.pointer none)).run Try.prog w = .ok (.bool false) w := fun w => by kernel_rfl
  go_enter Try.func29, Try.ntmps29
  go_wp2
  go_ret
  exact ⟨rfl, rfl⟩
theorem same_nil (g : Nat) (w : World) : Calls Try.prog 29 #[.pointer (some ⟨g, 0, none⟩), .pointer none] w fun e w' => e = .returned (.bool false) ∧ w = w' := by
  have q1 : ∀ w : World, (binOp .eql 25 (.pointer none) (.pointer (some ⟨g, 0, none⟩))).run Try.prog w = .ok (.bool false) w := fun w => by kernel_rfl
  have q2 : ∀ w : World, (binOp .eql 25 (.pointer (some ⟨g, 0, none⟩)) (.pointer none)).run Try.prog w = .ok (.bool false) w := fun w => by kernel_rfl
  go_enter Try.func29, Try.ntmps29
  go_wp2
  go_ret
  exact ⟨rfl, rfl⟩
end Go.Proofs.Ytcamllahcjonkaa
