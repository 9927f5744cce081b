/- Parts, joined. -/
import Derived.Test.YtjmjgokgjeankaaDoorJ03
import Derived.Test.YtjmjgokgjeankaaDoorJ01
import Derived.Test.YtjmjgokgjeankaaDoorJ07
import Derived.Test.YtjmjgokgjeankaaDoorJ06
import Derived.Test.YtjmjgokgjeankaaDoorJ05
import Derived.Test.YtjmjgokgjeankaaDoorJ02
import Derived.IntWalk
import Derived.Deep.DeepCutAuto
import Derived.Deep.RegionHeld3
/- The program's and the document's exponential function: what each call answers. -/
namespace Go.Proofs.YtjmjgokgjeankaaDoor
open Go.RowKit

set_option maxHeartbeats 1000000 in
theorem series_any (r : Int) (h0 : 0 ≤ r) (h1 : r ≤ 1099511627776) (w : World) :
    Calls Tryd.prog 74 #[.int .i64 r] w fun e w' => e = .returned (.int .i64 (sumE r 16)) ∧ Below w.heap.size w w' := by
  go_enter Tryd.func74, Tryd.ntmps74
  go_wp2
  go_loopw [3, 4, 5] (fun s t i wr => ∃ k : Nat, k ≤ 16 ∧ s = .int .i64 (sumE r k) ∧ t = .int .i64 (termE r k) ∧ i = .int .i64 ((k : Int) + 1) ∧ Below w.heap.size w wr) (fun _ _ i _ => 17 - (intOf i).toNat)
  case atStart => exact ⟨0, by omega, rfl, rfl, rfl, Below.refl _ _⟩
  case round =>
    obtain ⟨k, hk, rfl, rfl, rfl, hb⟩ := hrel
    have HB := hide hb
    clear hb
    have t := termE_in h0 h1 k
    have s := sumE_in h0 h1 k
    obtain ⟨t0, t1⟩ := t
    obtain ⟨s0, s1⟩ := s
    by_cases hlt : k < 16
    · have u := termE_in h0 h1 (k + 1)
      obtain ⟨u0, u1⟩ := u
      have CM := muldiv_to (termE r k) r (((k : Int) + 1) * 1099511627776) (termE r (k + 1)) rfl (by omega) (by omega) (by omega) (by omega) (by omega) (by omega)
      have hs : sumE r (k + 1) = if k % 2 = 0 then sumE r k - termE r (k + 1) else sumE r k + termE r (k + 1) := rfl
      have HS := hide hs
      clear hs
      by_cases hp : k % 2 = 0
      · have tst : (((k : Int) + 1) % 2 == 1) = true := beq_iff_eq.2 (by omega)
        have HP := hide hp
        clear hp
        go_wp2_with (go_at_call 37; (with_reducible refine (CM _).mono ?_); rintro e w1 ⟨rfl, b1⟩)
        go_roundw
        case rel => exact ⟨k + 1, by omega, by rw [HS.out, if_pos HP.out], rfl, by go_num, bt HB.out b1⟩
        case measure => simp [intOf]; omega
      · have tst : (((k : Int) + 1) % 2 == 1) = false := beq_eq_false_iff_ne.2 (by omega)
        have HP := hide hp
        clear hp
        go_wp2_with (go_at_call 37; (with_reducible refine (CM _).mono ?_); rintro e w1 ⟨rfl, b1⟩)
        go_roundw
        case rel => exact ⟨k + 1, by omega, by rw [HS.out, if_neg HP.out], rfl, by go_num, bt HB.out b1⟩
        case measure => simp [intOf]; omega
    · obtain rfl : k = 16 := by omega
      go_wp2
      go_ret
      exact ⟨rfl, HB.out⟩
set_option maxHeartbeats 1000000 in
theorem exp_any (t : Int) (_h0 : -9223372036854775808 ≤ t) (h1 : t ≤ 9223372036854775807) (w : World) :
    Calls Tryd.prog 59 #[.int .i64 t] w fun e w' => e = .returned (.int .i64 (expoF t)) ∧ Below w.heap.size w w' := by
  have p := exp_parts (posI0 t) (posI1 h1)
  obtain ⟨p0, p1, p2, p3⟩ := p
  have s := sum16_in p0 p1
  obtain ⟨s0, s1⟩ := s
  have CS := series_any (posI t % 762123384786) p0 (by omega)
  have CH := fixshift_any (sumE (posI t % 762123384786) 16) (posI t / 762123384786) (by omega) (by omega) (by omega) (by omega)
  unfold expoF
  generalize hS : sumE (posI t % 762123384786) 16 = S at *
  clear hS
  have x0 : 0 ≤ max t 0 := posI0 t
  have x1 : max t 0 ≤ 9223372036854775807 := posI1 h1
  unfold posI at *
  go_enter Tryd.func59, Tryd.ntmps59
  go_wp2_with (first
    | (go_at_call 74; (with_reducible refine (CS _).mono ?_); rintro e w1 ⟨rfl, b1⟩)
    | (go_at_call 58; (with_reducible refine (CH _).mono ?_); rintro e w2 ⟨rfl, b2⟩))
  go_ret
  exact ⟨rfl, bt b1 b2⟩
set_option maxHeartbeats 1000000 in
theorem ratio_any (d s : Int) (h0 : -9223372036854775808 ≤ d) (h1 : d ≤ 9223372036854775807) (k0 : -9223372036854775808 ≤ s) (k1 : s ≤ 9223372036854775807) (w : World) :
    Calls Tryd.prog 60 #[.int .i64 d, .int .i64 s] w fun e w' => e = .returned (.int .i64 (ratioF d s)) ∧ Below w.heap.size w w' := by
  by_cases hg : s < 1 ∨ 4194304 < s ∨ d < -16384 ∨ 16384 < d
  · rw [show ratioF d s = 9223372036854775807 from if_pos hg]
    by_cases g1 : s < 1
    · clear hg
      go_enter Tryd.func60, Tryd.ntmps60
      go_wp2
      go_ret
      exact ⟨rfl, Below.refl _ _⟩
    by_cases g2 : 4194304 < s
    · clear hg
      go_enter Tryd.func60, Tryd.ntmps60
      go_wp2
      go_ret
      exact ⟨rfl, Below.refl _ _⟩
    by_cases g3 : d < -16384
    · clear hg
      go_enter Tryd.func60, Tryd.ntmps60
      go_wp2
      go_ret
      exact ⟨rfl, Below.refl _ _⟩
    have g4 : 16384 < d := by omega
    clear hg
    go_enter Tryd.func60, Tryd.ntmps60
    go_wp2
    go_ret
    exact ⟨rfl, Below.refl _ _⟩
  rw [show ratioF d s = divF (d * d * 2147483648 * 1099511627776) (s * s) from if_neg hg]
  have a := sq_in (s := d) (by omega) (by omega)
  have b := sq_in (s := s) (by omega) (by omega)
  have a4 : d * d ≤ 268435456 := by
    have q := abs_sq d
    have b0 : 0 ≤ absI d := absI0 d
    have b1 : absI d ≤ 16384 := by unfold absI; split <;> omega
    rw [q]
    exact Int.mul_le_mul b1 b1 b0 (by omega)
  obtain ⟨a0, a1⟩ := a
  obtain ⟨b0, b1⟩ := b
  have CM := muldiv_full (d * d * 2147483648) 1099511627776 (s * s) (by omega) (by omega) (by omega) (by omega) (by omega) (by omega)
  have g1 : decide (s < 1) = false := decide_eq_false (by omega)
  have g2 : decide (4194304 < s) = false := decide_eq_false (by omega)
  have g3 : decide (d < -16384) = false := decide_eq_false (by omega)
  have g4 : decide (16384 < d) = false := decide_eq_false (by omega)
  clear hg
  go_enter Tryd.func60, Tryd.ntmps60
  go_wp2_with (go_at_call 37; (with_reducible refine (CM _).mono ?_); rintro e w1 ⟨rfl, b1⟩)
  go_ret
  exact ⟨rfl, b1⟩
theorem gauss_any (d s : Int) (h0 : -9223372036854775808 ≤ d) (h1 : d ≤ 9223372036854775807) (k0 : -9223372036854775808 ≤ s) (k1 : s ≤ 9223372036854775807) (w : World) :
    Calls Tryd.prog 39 #[.int .i64 d, .int .i64 s] w fun e w' => e = .returned (.int .i64 (gaussF d s)) ∧ Below w.heap.size w w' := by
  have C1 := ratio_any d s h0 h1 k0 k1
  obtain ⟨r0, r1⟩ := ratioF_in d s
  have C2 := exp_any (ratioF d s) r0 r1
  obtain ⟨x0, x1⟩ := expoF_in r1
  have C3 := fixshift_any (expoF (ratioF d s)) 10 x0 x1 (by omega) (by omega)
  unfold gaussF
  generalize shiftF (expoF (ratioF d s)) 10 = z at *
  generalize expoF (ratioF d s) = y at *
  generalize ratioF d s = x at *
  go_enter Tryd.func39, Tryd.ntmps39
  go_wp2_with (first
    | (go_at_call 60; (with_reducible refine (C1 _).mono ?_); rintro e w1 ⟨rfl, b1⟩)
    | (go_at_call 59; (with_reducible refine (C2 _).mono ?_); rintro e w2 ⟨rfl, b2⟩)
    | (go_at_call 58; (with_reducible refine (C3 _).mono ?_); rintro e w3 ⟨rfl, b3⟩))
  go_ret
  exact ⟨rfl, bt (bt b1 b2) b3⟩
end Go.Proofs.YtjmjgokgjeankaaDoor

/- Weights that come to one: the document's small calls. -/
namespace Go.Proofs.YtjmjgokgjeankaaDoor
open Go.RowKit

/-- Numbers that are int64's. -/
def All64 (xs : List Int) : Prop := ∀ j, j < xs.length → -9223372036854775808 ≤ xs.getD j 0 ∧ xs.getD j 0 ≤ 9223372036854775807
end Go.Proofs.YtjmjgokgjeankaaDoor

/- Lines of a table: plain lists. No number of the program stands in it. -/
namespace Go.Proofs.YtjmjgokgjeankaaDoor


/-- An output sample's line: its first source sample, and its taps. -/
def lnAt (L : List (Int × List Int)) (j : Nat) : Int × List Int := L.getD j (0, [])
def LineOk (x : Int × List Int) : Prop := -1099511627776 ≤ x.1 ∧ x.1 ≤ 1099511627776 ∧ 1 ≤ x.2.length ∧ x.2.length ≤ 1048576 ∧ All64 x.2
def LinesOk (L : List (Int × List Int)) : Prop := ∀ j, j < L.length → LineOk (lnAt L j)
theorem lnAt_get {L : List (Int × List Int)} {j : Nat} (h : j < L.length) : lnAt L j = L[j] := by
  unfold lnAt; rw [List.getD_eq_getElem?_getD, List.getElem?_eq_getElem h]; rfl
theorem lnAt_mem {L : List (Int × List Int)} {j : Nat} (h : j < L.length) : lnAt L j ∈ L := by rw [lnAt_get h]; exact List.getElem_mem h
theorem lnAt_old {L : List (Int × List Int)} (x : Int × List Int) {j : Nat} (h : j < L.length) : lnAt (L ++ [x]) j = lnAt L j := by
  unfold lnAt; rw [List.getD_eq_getElem?_getD, List.getD_eq_getElem?_getD, List.getElem?_append_left h]
theorem lnAt_new (L : List (Int × List Int)) (x : Int × List Int) : lnAt (L ++ [x]) L.length = x := by
  unfold lnAt; rw [List.getD_eq_getElem?_getD, List.getElem?_append_right (Nat.le_refl _), Nat.sub_self]; rfl
theorem lnAt_out {L : List (Int × List Int)} {j : Nat} (h : L.length ≤ j) : lnAt L j = (0, []) := by
  unfold lnAt; rw [List.getD_eq_getElem?_getD, List.getElem?_eq_none h]; rfl
theorem lnAt_map (f : Nat → Int × List Int) {m j : Nat} (h : j < m) : lnAt ((List.range m).map f) j = f j := by
  rw [lnAt_get (by rw [List.length_map, List.length_range]; exact h)]
  rw [List.getElem_map, List.getElem_range]
/-! ### What some outputs take -/
def reachStep (s : Int × Int × Bool) (f : Int) (c : Nat) : Int × Int × Bool := if s.2.2 = true then (min s.1 f, max s.2.1 (f + (c : Int)), true) else (f, f + (c : Int), true)
def reachTo (L : List (Int × List Int)) (i k : Int) : Nat → Int × Int × Bool
  | 0 => (0, 0, false)
  | o + 1 => if (o : Int) < i ∨ k ≤ (o : Int) then reachTo L i k o else reachStep (reachTo L i k o) (lnAt L o).1 (lnAt L o).2.length
def reachF (L : List (Int × List Int)) (i k : Int) : Int × Int × Bool := reachTo L i k L.length
/-- Tap by tap. -/
def reachTap (s : Int × Int × Bool) (f : Int) : Nat → Int × Int × Bool
  | 0 => s
  | t + 1 => (if (reachTap s f t).2.2 = true ∧ ¬ f + (t : Int) < (reachTap s f t).1 then (reachTap s f t).1 else f + (t : Int),
      if (reachTap s f t).2.2 = true ∧ ¬ (reachTap s f t).2.1 < f + (t : Int) + 1 then (reachTap s f t).2.1 else f + (t : Int) + 1, true)
theorem reach_pair {a b c d : Int} (h1 : a = c) (h2 : b = d) : ((a, b, true) : Int × Int × Bool) = (c, d, true) := by rw [h1, h2]
theorem tap_low (a f : Int) (t : Nat) : (if (true = true ∧ ¬ f + (t : Int) < a) then a else f + (t : Int)) = min a (f + (t : Int)) := by
  by_cases q : f + (t : Int) < a
  · rw [if_neg (fun h => h.2 q)]; omega
  · rw [if_pos ⟨rfl, q⟩]; omega
theorem tap_high (b f : Int) (t : Nat) : (if (true = true ∧ ¬ b < f + (t : Int) + 1) then b else f + (t : Int) + 1) = max b (f + (t : Int) + 1) := by
  by_cases q : b < f + (t : Int) + 1
  · rw [if_neg (fun h => h.2 q)]; omega
  · rw [if_pos ⟨rfl, q⟩]; omega
theorem reachTap_next (s : Int × Int × Bool) (f : Int) (t : Nat) (a b : Int) (h : reachTap s f t = (a, b, true)) : reachTap s f (t + 1) = (min a (f + (t : Int)), max b (f + (t : Int) + 1), true) := by
  show (_, _, _) = _
  rw [h]
  exact reach_pair (tap_low a f t) (tap_high b f t)
theorem reachTap_first (s : Int × Int × Bool) (f : Int) (t : Nat) (a b : Int) (h : reachTap s f t = (a, b, false)) : reachTap s f (t + 1) = (f + (t : Int), f + (t : Int) + 1, true) := by
  show (_, _, _) = _
  rw [h]
  simp
theorem reachTap_at (s : Int × Int × Bool) (f : Int) (t : Nat) : reachTap s f (t + 1) = reachStep s f (t + 1) := by
  obtain ⟨a, b, c⟩ := s
  cases c
  · have e : ∀ t : Nat, reachTap (a, b, false) f (t + 1) = (f, f + ((t + 1 : Nat) : Int), true) := by
      intro t
      induction t with
      | zero => unfold reachTap reachTap; simp
      | succ t ih => rw [reachTap_next _ f (t + 1) _ _ ih]; exact reach_pair (by omega) (by omega)
    rw [e]; rfl
  · have e : ∀ t : Nat, reachTap (a, b, true) f (t + 1) = (min a f, max b (f + ((t + 1 : Nat) : Int)), true) := by
      intro t
      induction t with
      | zero => rw [reachTap_next _ f 0 _ _ rfl]; exact reach_pair (by omega) (by omega)
      | succ t ih => rw [reachTap_next _ f (t + 1) _ _ ih]; exact reach_pair (by omega) (by omega)
    rw [e]; rfl
def ReachIn (s : Int × Int × Bool) : Prop := -1099511627776 ≤ s.1 ∧ s.1 ≤ 1099511627776 ∧ -1099511627776 ≤ s.2.1 ∧ s.2.1 ≤ 1099512676352 ∧ (s.2.2 = true → s.1 < s.2.1) ∧ (s.2.2 = false → s.1 = 0 ∧ s.2.1 = 0)
theorem reachIn_no {a b : Int} (h0 : a = 0) (h1 : b = 0) : ReachIn (a, b, false) := by
  subst h0; subst h1
  exact ⟨by simp, by simp, by simp, by simp, (fun e => by cases e), fun _ => ⟨rfl, rfl⟩⟩
theorem reachIn_yes {a b : Int} (h0 : -1099511627776 ≤ a) (h1 : a ≤ 1099511627776) (h2 : a < b) (h3 : b ≤ 1099512676352) : ReachIn (a, b, true) :=
  ⟨h0, h1, (by show _ ≤ b; omega), h3, (fun _ => h2), fun e => by cases e⟩
theorem reachStep_in {s : Int × Int × Bool} (h : ReachIn s) {f : Int} {c : Nat} (f0 : -1099511627776 ≤ f) (f1 : f ≤ 1099511627776) (c0 : 1 ≤ c) (c1 : c ≤ 1048576) : ReachIn (reachStep s f c) := by
  obtain ⟨a, b, g⟩ := s
  cases g
  · exact reachIn_yes f0 f1 (by omega) (by omega)
  · obtain ⟨h0, h1, h2, h3, h4, _⟩ := h
    have h5 : a < b := h4 rfl
    have h0 : -1099511627776 ≤ a := h0
    have h1 : a ≤ 1099511627776 := h1
    have h3 : b ≤ 1099512676352 := h3
    exact reachIn_yes (by omega) (by omega) (by omega) (by omega)
theorem reachTo_in {L : List (Int × List Int)} (h : LinesOk L) (i k : Int) (o : Nat) (ho : o ≤ L.length) : ReachIn (reachTo L i k o) := by
  induction o with
  | zero => exact reachIn_no rfl rfl
  | succ o ih =>
    unfold reachTo
    split
    · exact ih (by omega)
    · obtain ⟨f0, f1, c0, c1, _⟩ := h o (by omega)
      exact reachStep_in (ih (by omega)) f0 f1 c0 c1
theorem reachTap_in {s : Int × Int × Bool} (h : ReachIn s) {f : Int} (f0 : -1099511627776 ≤ f) (f1 : f ≤ 1099511627776) (t : Nat) (ht : t ≤ 1048576) : ReachIn (reachTap s f t) := by
  cases t with
  | zero => exact h
  | succ t => rw [reachTap_at]; exact reachStep_in h f0 f1 (by omega) ht
/-! ### The most taps, the greatest size -/
def mostTo (L : List (Int × List Int)) : Nat → Int
  | 0 => 0
  | o + 1 => max (mostTo L o) ((lnAt L o).2.length : Int)
def mostF (L : List (Int × List Int)) : Int := mostTo L L.length
def sizeTo (L : List (Int × List Int)) : Nat → Int
  | 0 => 0
  | o + 1 => max (sizeTo L o) (sizeH (lnAt L o).2)
def sizeF (L : List (Int × List Int)) : Int := sizeTo L L.length
theorem mostTo_in {L : List (Int × List Int)} (h : LinesOk L) (o : Nat) (ho : o ≤ L.length) : 0 ≤ mostTo L o ∧ mostTo L o ≤ 1048576 := by
  induction o with
  | zero => exact ⟨Int.le_refl 0, by show (0 : Int) ≤ _; omega⟩
  | succ o ih =>
    have := ih (by omega)
    obtain ⟨_, _, _, c1, _⟩ := h o (by omega)
    unfold mostTo
    omega
theorem sizeTo_in (L : List (Int × List Int)) (o : Nat) : 0 ≤ sizeTo L o ∧ sizeTo L o ≤ 9223372036854775807 := by
  induction o with
  | zero => exact ⟨Int.le_refl 0, by show (0 : Int) ≤ _; omega⟩
  | succ o ih =>
    have := sizeH_in (lnAt L o).2
    unfold sizeTo
    omega
theorem mostTo_ge {L : List (Int × List Int)} {j : Nat} (o : Nat) (h : j < o) : ((lnAt L j).2.length : Int) ≤ mostTo L o := by
  induction o with
  | zero => omega
  | succ o ih =>
    unfold mostTo
    by_cases e : j = o
    · subst e; omega
    · have := ih (by omega); omega
end Go.Proofs.YtjmjgokgjeankaaDoor
