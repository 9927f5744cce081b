/- Images: which sizes may be; the program's and the document's. -/
import Derived.Test.YtoppojilndnghaaDoorS09B
import Derived.Deep.RegionHeld3
import Derived.Deep.DeepCutAuto
import Derived.BigQuiet
namespace Go.Proofs.YtoppojilndnghaaDoor
open Go.RowKit


theorem rside_yes (n : Int) (n0 : 1 ≤ n) (n1 : n ≤ 65536) (w : World) :
    Calls Tryd.prog 51 #[.int .i64 n] w fun e w' => e = .returned (.bool true) ∧ w = w' := by
  go_enter Tryd.func51, Tryd.ntmps51
  go_wp2
  go_ret
  first | exact ⟨rfl, rfl⟩ | exact ⟨ret_bool (decide_eq_true (by omega)), rfl⟩
theorem rside_no (n : Int) (h : ¬(1 ≤ n ∧ n ≤ 65536)) (w : World) :
    Calls Tryd.prog 51 #[.int .i64 n] w fun e w' => e = .returned (.bool false) ∧ w = w' := by
  rcases (show n < 1 ∨ 65536 < n by omega) with h' | h'
  all_goals
    clear h
    go_enter Tryd.func51, Tryd.ntmps51
    go_wp2
    go_ret
    first | exact ⟨rfl, rfl⟩ | exact ⟨ret_bool (decide_eq_false (by omega)), rfl⟩
theorem rmay_yes (c : Int) (h : c = 1 ∨ c = 3) (w : World) :
    Calls Tryd.prog 52 #[.int .i64 c] w fun e w' => e = .returned (.bool true) ∧ w = w' := by
  rcases h with rfl | rfl
  all_goals
    go_enter Tryd.func52, Tryd.ntmps52
    go_wp2
    go_ret
    exact ⟨rfl, rfl⟩
theorem rmay_no (c : Int) (h : ¬(c = 1 ∨ c = 3)) (w : World) :
    Calls Tryd.prog 52 #[.int .i64 c] w fun e w' => e = .returned (.bool false) ∧ w = w' := by
  have e1 : (c == 1) = false := beq_eq_false_iff_ne.2 (by omega)
  have e3 : (c == 3) = false := beq_eq_false_iff_ne.2 (by omega)
  clear h
  go_enter Tryd.func52, Tryd.ntmps52
  go_wp2
  go_ret
  exact ⟨rfl, rfl⟩
theorem fitsF_no {a b c : Int} (h : ¬(1 ≤ a ∧ a ≤ 65536) ∨ ¬(1 ≤ b ∧ b ≤ 65536) ∨ ¬(c = 1 ∨ c = 3)) : fitsF a b c = false := by
  cases e : fitsF a b c with
  | false => rfl
  | true =>
    have := fitsF_iff.1 e
    omega
theorem fitsF_is {a b c : Int} (ha : 1 ≤ a ∧ a ≤ 65536) (hb : 1 ≤ b ∧ b ≤ 65536) (hc : c = 1 ∨ c = 3) : fitsF a b c = decide (a * b * c ≤ 268435456) := by
  unfold fitsF
  exact decide_eq_decide.2 ⟨fun h => h.2.2.2.2.2, fun h => ⟨ha.1, ha.2, hb.1, hb.2, hc, h⟩⟩
theorem rfits_any (a b c : Int) (w : World) :
    Calls Tryd.prog 37 #[.int .i64 a, .int .i64 b, .int .i64 c] w fun e w' => e = .returned (.bool (fitsF a b c)) ∧ w = w' := by
  by_cases ha : 1 ≤ a ∧ a ≤ 65536
  · have S1 := rside_yes a ha.1 ha.2
    by_cases hb : 1 ≤ b ∧ b ≤ 65536
    · have S2 := rside_yes b hb.1 hb.2
      by_cases hc : c = 1 ∨ c = 3
      · have S3 := rmay_yes c hc
        rw [fitsF_is ha hb hc]
        obtain ⟨m0, m1⟩ := side_mul ha.1 ha.2 hb.1 hb.2
        obtain ⟨p0, p1⟩ := side_mul3 ha.1 ha.2 hb.1 hb.2 hc
        clear ha hb hc
        go_enter Tryd.func37, Tryd.ntmps37
        go_wp2_with (first
          | (go_at_call 51; (with_reducible refine (S1 _).mono ?_); rintro e w1 ⟨rfl, rfl⟩)
          | (go_at_call 51; (with_reducible refine (S2 _).mono ?_); rintro e w1 ⟨rfl, rfl⟩)
          | (go_at_call 52; (with_reducible refine (S3 _).mono ?_); rintro e w1 ⟨rfl, rfl⟩))
        go_ret
        exact ⟨rfl, rfl⟩
      · have S3 := rmay_no c hc
        rw [fitsF_no (.inr (.inr hc))]
        clear ha hb hc
        go_enter Tryd.func37, Tryd.ntmps37
        go_wp2_with (first
          | (go_at_call 51; (with_reducible refine (S1 _).mono ?_); rintro e w1 ⟨rfl, rfl⟩)
          | (go_at_call 51; (with_reducible refine (S2 _).mono ?_); rintro e w1 ⟨rfl, rfl⟩)
          | (go_at_call 52; (with_reducible refine (S3 _).mono ?_); rintro e w1 ⟨rfl, rfl⟩))
        go_ret
        exact ⟨rfl, rfl⟩
    · have S2 := rside_no b hb
      rw [fitsF_no (.inr (.inl hb))]
      clear ha hb
      go_enter Tryd.func37, Tryd.ntmps37
      go_wp2_with (first
        | (go_at_call 51; (with_reducible refine (S1 _).mono ?_); rintro e w1 ⟨rfl, rfl⟩)
        | (go_at_call 51; (with_reducible refine (S2 _).mono ?_); rintro e w1 ⟨rfl, rfl⟩))
      go_ret
      exact ⟨rfl, rfl⟩
  · have S1 := rside_no a ha
    rw [fitsF_no (.inl ha)]
    clear ha
    go_enter Tryd.func37, Tryd.ntmps37
    go_wp2_with (go_at_call 51; (with_reducible refine (S1 _).mono ?_); rintro e w1 ⟨rfl, rfl⟩)
    go_ret
    exact ⟨rfl, rfl⟩
theorem codeF_t {a b c t : Int} (h : t < 1 ∨ 65535 < t) : codeF a b c t = 2 := by unfold codeF; rw [if_pos (by omega)]
theorem codeF_c {a b c t : Int} (h : ¬(c = 1 ∨ c = 3)) : codeF a b c t = 2 := by unfold codeF; rw [if_pos (.inr (.inr h))]
theorem codeF_f {a b c t : Int} (h : ¬(t < 1 ∨ 65535 < t)) (hc : c = 1 ∨ c = 3) : codeF a b c t = if fitsF a b c = true then 0 else 5 := by
  unfold codeF
  rw [if_neg (by omega)]
theorem rcheck_any (a b c t : Int) (w : World) :
    Calls Tryd.prog 38 #[.int .i64 a, .int .i64 b, .int .i64 c, .int .i64 t] w fun e w' => e = .returned (.int .i64 (codeF a b c t)) ∧ w = w' := by
  by_cases ht : t < 1 ∨ 65535 < t
  · rw [codeF_t ht]
    rcases ht with ht | ht
    all_goals
      go_enter Tryd.func38, Tryd.ntmps38
      go_wp2
      go_ret
      exact ⟨rfl, rfl⟩
  · have t0 : 1 ≤ t := by omega
    have t1 : t ≤ 65535 := by omega
    by_cases hc : c = 1 ∨ c = 3
    · have S3 := rmay_yes c hc
      have S4 := rfits_any a b c
      rw [codeF_f ht hc]
      cases hf : fitsF a b c with
      | true =>
        rw [hf] at S4
        rw [if_pos rfl]
        clear hf ht hc
        go_enter Tryd.func38, Tryd.ntmps38
        go_wp2_with (first
          | (go_at_call 52; (with_reducible refine (S3 _).mono ?_); rintro e w1 ⟨rfl, rfl⟩)
          | (go_at_call 37; (with_reducible refine (S4 _).mono ?_); rintro e w1 ⟨rfl, rfl⟩))
        go_ret
        exact ⟨rfl, rfl⟩
      | false =>
        rw [hf] at S4
        rw [if_neg (by decide)]
        clear hf ht hc
        go_enter Tryd.func38, Tryd.ntmps38
        go_wp2_with (first
          | (go_at_call 52; (with_reducible refine (S3 _).mono ?_); rintro e w1 ⟨rfl, rfl⟩)
          | (go_at_call 37; (with_reducible refine (S4 _).mono ?_); rintro e w1 ⟨rfl, rfl⟩))
        go_ret
        exact ⟨rfl, rfl⟩
    · have S3 := rmay_no c hc
      rw [codeF_c hc]
      clear hc ht
      go_enter Tryd.func38, Tryd.ntmps38
      go_wp2_with (go_at_call 52; (with_reducible refine (S3 _).mono ?_); rintro e w1 ⟨rfl, rfl⟩)
      go_ret
      exact ⟨rfl, rfl⟩
/-! ### The document's -/
theorem dfits_any (a b c : Int) (w : World) :
    Calls Tryd.prog 36 #[.int .i64 a, .int .i64 b, .int .i64 c] w fun e w' => e = .returned (.bool (fitsF a b c)) ∧ w = w' := by
  by_cases ha : 1 ≤ a ∧ a ≤ 65536
  · obtain ⟨a0, a1⟩ := ha
    by_cases hb : 1 ≤ b ∧ b ≤ 65536
    · obtain ⟨b0, b1⟩ := hb
      by_cases hc : c = 1 ∨ c = 3
      · rw [fitsF_is ⟨a0, a1⟩ ⟨b0, b1⟩ hc]
        obtain ⟨m0, m1⟩ := side_mul a0 a1 b0 b1
        rcases hc with rfl | rfl
        all_goals
          go_enter Tryd.func36, Tryd.ntmps36
          go_wp2
          go_ret
          exact ⟨ret_bool (decide_eq_decide.2 (by omega)), rfl⟩
      · rw [fitsF_no (.inr (.inr hc))]
        have e1 : (c != 1) = true := bne_iff_ne.2 (by omega)
        have e3 : (c != 3) = true := bne_iff_ne.2 (by omega)
        clear hc
        go_enter Tryd.func36, Tryd.ntmps36
        go_wp2
        go_ret
        exact ⟨rfl, rfl⟩
    · rw [fitsF_no (.inr (.inl hb))]
      rcases (show b < 1 ∨ 65536 < b by omega) with h' | h'
      all_goals
        clear hb
        go_enter Tryd.func36, Tryd.ntmps36
        go_wp2
        go_ret
        exact ⟨rfl, rfl⟩
  · rw [fitsF_no (.inl ha)]
    rcases (show a < 1 ∨ 65536 < a by omega) with h' | h'
    all_goals
      clear ha
      go_enter Tryd.func36, Tryd.ntmps36
      go_wp2
      go_ret
      exact ⟨rfl, rfl⟩
theorem dcode_any (a b c t : Int) (w : World) :
    Calls Tryd.prog 19 #[.int .i64 a, .int .i64 b, .int .i64 c, .int .i64 t] w fun e w' => e = .returned (.int .i64 (codeF a b c t)) ∧ w = w' := by
  by_cases ht : t < 1 ∨ 65535 < t
  · rw [codeF_t ht]
    rcases ht with ht | ht
    all_goals
      go_enter Tryd.func19, Tryd.ntmps19
      go_wp2
      go_ret
      exact ⟨rfl, rfl⟩
  · have t0 : 1 ≤ t := by omega
    have t1 : t ≤ 65535 := by omega
    by_cases hc : c = 1 ∨ c = 3
    · have S4 := dfits_any a b c
      rw [codeF_f ht hc]
      cases hf : fitsF a b c with
      | true =>
        rw [hf] at S4
        rw [if_pos rfl]
        clear hf ht
        rcases hc with rfl | rfl
        all_goals
          go_enter Tryd.func19, Tryd.ntmps19
          go_wp2_with (go_at_call 36; (with_reducible refine (S4 _).mono ?_); rintro e w1 ⟨rfl, rfl⟩)
          go_ret
          exact ⟨rfl, rfl⟩
      | false =>
        rw [hf] at S4
        rw [if_neg (by decide)]
        clear hf ht
        rcases hc with rfl | rfl
        all_goals
          go_enter Tryd.func19, Tryd.ntmps19
          go_wp2_with (go_at_call 36; (with_reducible refine (S4 _).mono ?_); rintro e w1 ⟨rfl, rfl⟩)
          go_ret
          exact ⟨rfl, rfl⟩
    · rw [codeF_c hc]
      have e1 : (c != 1) = true := bne_iff_ne.2 (by omega)
      have e3 : (c != 3) = true := bne_iff_ne.2 (by omega)
      clear hc ht
      go_enter Tryd.func19, Tryd.ntmps19
      go_wp2
      go_ret
      exact ⟨rfl, rfl⟩
end Go.Proofs.YtoppojilndnghaaDoor
