/- The program's images: a copy, the same. -/
import Derived.Test.YtoppojilndnghaaDoorS09F
namespace Go.Proofs.YtoppojilndnghaaDoor
open Go.RowKit

/-- The same image? -/
def imSame (I J : Im) : Bool := decide (I.iw = J.iw ∧ I.ih = J.ih ∧ I.ic = J.ic ∧ I.it = J.it ∧ I.il = J.il)
theorem imSame_self (I : Im) : imSame I I = true := decide_eq_true ⟨rfl, rfl, rfl, rfl, rfl⟩
theorem imSame_no {I J : Im} (h : ¬(I.iw = J.iw ∧ I.ih = J.ih ∧ I.ic = J.ic ∧ I.it = J.it)) : imSame I J = false := decide_eq_false fun ⟨a, b, c, d, _⟩ => h ⟨a, b, c, d⟩
theorem imSame_yes {I J : Im} (h : I.iw = J.iw ∧ I.ih = J.ih ∧ I.ic = J.ic ∧ I.it = J.it) : imSame I J = decide (I.il = J.il) := decide_eq_decide.2 ⟨fun q => q.2.2.2.2, fun q => ⟨h.1, h.2.1, h.2.2.1, h.2.2.2, q⟩⟩
set_option maxHeartbeats 2000000 in
theorem img_same {w : World} {g h g' h' : Nat} {I J : Im} (H : ImgAt w g h I) (H' : ImgAt w g' h' J) : Calls Tryd.prog 16 #[.pointer (some ⟨g, 0, none⟩), .pointer (some ⟨g', 0, none⟩)] w fun e w' => e = .returned (.bool (imSame I J)) ∧ Drew w w' := by
  obtain ⟨l0, l1⟩ := imOk_len H.ok
  obtain ⟨l2, l3⟩ := imOk_len H'.ok
  obtain ⟨cap, c0, c1, c2, c3, c4, hr, hz, hcap, -⟩ := H
  obtain ⟨cap', d0, d1, d2, d3, d4, hr', hz', hcap', -⟩ := H'
  have CE := fun k => equal16 I.il J.il _ _ rfl rfl (some ⟨h, 0, none⟩) (some ⟨h', 0, none⟩) cap cap' l1 (w.drewN k) (hr.below (bdN (Below.refl _ _) k)) (hr'.below (bdN (Below.refl _ _) k))
  by_cases hs : I.iw = J.iw ∧ I.ih = J.ih ∧ I.ic = J.ic ∧ I.it = J.it
  · rw [imSame_yes hs]
    obtain ⟨e0, e1, e2, e3⟩ := hs
    rw [← e0] at d0
    rw [← e1] at d1
    rw [← e2] at d2
    rw [← e3] at d3
    generalize decide (I.il = J.il) = r at *
    generalize I.il.length = n at *
    generalize J.il.length = m at *
    generalize I.iw = a at *
    generalize I.ih = b at *
    generalize I.ic = c at *
    generalize I.it = t at *
    have q0 : (a == a) = true := beq_self_eq_true a
    have q1 : (b == b) = true := beq_self_eq_true b
    have q2 : (c == c) = true := beq_self_eq_true c
    have q3 : (t == t) = true := beq_self_eq_true t
    clear e0 e1 e2 e3 hr hr' hz hz' hcap hcap' l0 l1 l2 l3
    go_enter Tryd.func16, Tryd.ntmps16
    go_wp2_with fail
    go_quiet ((go_at_call 34; with_reducible exact calmD (CE _)))
    go_wp2
    go_ret
    exact ⟨rfl, (Drew.refl _).more _⟩
  · rw [imSame_no hs]
    generalize decide (I.il = J.il) = r at *
    generalize I.il.length = n at *
    generalize J.il.length = m at *
    generalize I.iw = a at *
    generalize I.ih = b at *
    generalize I.ic = c at *
    generalize I.it = t at *
    generalize J.iw = a' at *
    generalize J.ih = b' at *
    generalize J.ic = c' at *
    generalize J.it = t' at *
    clear hr hr' hz hz' hcap hcap' l0 l1 l2 l3 CE c4 d4
    by_cases e0 : a = a'
    · subst e0
      have q0 : (a == a) = true := beq_self_eq_true a
      by_cases e1 : b = b'
      · subst e1
        have q1 : (b == b) = true := beq_self_eq_true b
        by_cases e2 : c = c'
        · subst e2
          have q2 : (c == c) = true := beq_self_eq_true c
          have q3 : (t == t') = false := beq_eq_false_iff_ne.2 (fun e => hs ⟨rfl, rfl, rfl, e⟩)
          clear hs
          go_enter Tryd.func16, Tryd.ntmps16
          go_wp2_with fail
          go_quiet (fail)
          go_wp2
          go_ret
          exact ⟨rfl, (Drew.refl _).more _⟩
        · have q2 : (c == c') = false := beq_eq_false_iff_ne.2 e2
          clear hs e2
          go_enter Tryd.func16, Tryd.ntmps16
          go_wp2_with fail
          go_quiet (fail)
          go_wp2
          go_ret
          exact ⟨rfl, (Drew.refl _).more _⟩
      · have q1 : (b == b') = false := beq_eq_false_iff_ne.2 e1
        clear hs e1
        go_enter Tryd.func16, Tryd.ntmps16
        go_wp2_with fail
        go_quiet (fail)
        go_wp2
        go_ret
        exact ⟨rfl, (Drew.refl _).more _⟩
    · have q0 : (a == a') = false := beq_eq_false_iff_ne.2 e0
      clear hs e0
      go_enter Tryd.func16, Tryd.ntmps16
      go_wp2_with fail
      go_quiet (fail)
      go_wp2
      go_ret
      exact ⟨rfl, (Drew.refl _).more _⟩
end Go.Proofs.YtoppojilndnghaaDoor
