/- The document's images, as values: two of them compared. -/
import Derived.Test.YtoppojilndnghaaDoorS09M
namespace Go.Proofs.YtoppojilndnghaaDoor
open Go.RowKit

set_option maxHeartbeats 2000000 in
theorem dequal_any (I J : Im) (b b' cap cap' : Nat) (l1 : I.il.length ≤ 268435456) (w : World) (hr : RowAt .u16 w (some ⟨b, 0, none⟩) I.il) (hr' : RowAt .u16 w (some ⟨b', 0, none⟩) J.il) : Calls Tryd.prog 11 #[imV I b I.il.length cap, imV J b' J.il.length cap'] w fun e w' => e = .returned (.bool (imSame I J)) ∧ Below w.heap.size w w' := by
  unfold imV
  have CE := fun w hr hr' => dsame_any I.il J.il _ _ rfl rfl (some ⟨b, 0, none⟩) (some ⟨b', 0, none⟩) cap cap' l1 w hr hr'
  have HR := hide hr
  have HR' := hide hr'
  by_cases hs : I.iw = J.iw ∧ I.ih = J.ih ∧ I.ic = J.ic ∧ I.it = J.it
  · rw [imSame_yes hs]
    obtain ⟨e0, e1, e2, e3⟩ := hs
    rw [← e0, ← e1, ← e2, ← e3]
    generalize decide (I.il = J.il) = r at *
    generalize I.il.length = n at *
    generalize J.il.length = m at *
    generalize I.iw = a at *
    generalize I.ih = a2 at *
    generalize I.ic = a3 at *
    generalize I.it = a4 at *
    have q0 : (a == a) = true := beq_self_eq_true a
    have q1 : (a2 == a2) = true := beq_self_eq_true a2
    have q2 : (a3 == a3) = true := beq_self_eq_true a3
    have q3 : (a4 == a4) = true := beq_self_eq_true a4
    clear e0 e1 e2 e3 hr hr' l1
    go_enter Tryd.func11, Tryd.ntmps11
    go_wp2_with (go_at_call 28; (with_reducible refine (CE _ (HR.out.below (ba (below1 _ _) _)) (HR'.out.below (ba (below1 _ _) _))).mono ?_); rintro e w1 ⟨rfl, b1⟩)
    go_ret
    exact ⟨rfl, bt (ba (below1 _ _) _) b1⟩
  · rw [imSame_no hs]
    generalize I.il.length = n at *
    generalize J.il.length = m at *
    generalize I.iw = a at *
    generalize I.ih = a2 at *
    generalize I.ic = a3 at *
    generalize I.it = a4 at *
    generalize J.iw = c at *
    generalize J.ih = c2 at *
    generalize J.ic = c3 at *
    generalize J.it = c4 at *
    clear hr hr' HR HR' CE l1
    by_cases e0 : a = c
    · subst e0
      have q0 : (a == a) = true := beq_self_eq_true a
      by_cases e1 : a2 = c2
      · subst e1
        have q1 : (a2 == a2) = true := beq_self_eq_true a2
        by_cases e2 : a3 = c3
        · subst e2
          have q2 : (a3 == a3) = true := beq_self_eq_true a3
          have q3 : (a4 == c4) = false := beq_eq_false_iff_ne.2 (fun e => hs ⟨rfl, rfl, rfl, e⟩)
          clear hs
          go_enter Tryd.func11, Tryd.ntmps11
          go_wp2
          go_ret
          exact ⟨rfl, ba (below1 _ _) _⟩
        · have q2 : (a3 == c3) = false := beq_eq_false_iff_ne.2 e2
          clear hs e2
          go_enter Tryd.func11, Tryd.ntmps11
          go_wp2
          go_ret
          exact ⟨rfl, ba (below1 _ _) _⟩
      · have q1 : (a2 == c2) = false := beq_eq_false_iff_ne.2 e1
        clear hs e1
        go_enter Tryd.func11, Tryd.ntmps11
        go_wp2
        go_ret
        exact ⟨rfl, ba (below1 _ _) _⟩
    · have q0 : (a == c) = false := beq_eq_false_iff_ne.2 e0
      clear hs e0
      go_enter Tryd.func11, Tryd.ntmps11
      go_wp2
      go_ret
      exact ⟨rfl, ba (below1 _ _) _⟩
end Go.Proofs.YtoppojilndnghaaDoor
