/- What stands beyond the edge: the laws on walks and on spans. -/
import Derived.Test.YthhdclgpllnenaaS07C
import Derived.Deep.RegionHeld3
namespace Go.Proofs.Ythhdclgpllnenaa
open Go.RowKit


theorem walks_last (p j s : Int) (w : World) (e : j = 9223372036854775807) :
    Calls Try.prog 3 #[.int .u8 p, .int .i64 j, .int .u16 s] w fun e w' => e = .returned (.bool true) ∧ Below w.heap.size w w' := by
  have CL := elives
  subst e
  go_enter Try.func3, Try.ntmps3
  go_wp2_with (first
    | (go_at_call 7; (with_reducible refine (CL _).mono ?_); rintro e w2 ⟨rfl, rfl⟩))
  go_ret
  exact ⟨rfl, Below.refl _ _⟩
theorem law_BorderWalks (p j s : Int) (w : World) (hp : 0 ≤ p ∧ p ≤ 255) (hj : -9223372036854775808 ≤ j ∧ j ≤ 9223372036854775807) (hs : 0 ≤ s ∧ s ≤ 65535) :
    Calls Try.prog 3 #[.int .u8 p, .int .i64 j, .int .u16 s] w fun e w' => e = .returned (.bool true) ∧ Below w.heap.size w w' := by
  by_cases e : j = 9223372036854775807
  · exact walks_last p j s w e
  have CL := elives
  obtain ⟨p0, p1⟩ := hp
  obtain ⟨j0, j1⟩ := hj
  have j2 : j ≤ 9223372036854775806 := by omega
  have hne : (j == 9223372036854775807) = false := beq_eq_false_iff_ne.2 e
  obtain ⟨k, hk⟩ : ∃ k, p % 3 = k := ⟨_, rfl⟩
  obtain ⟨n, hn⟩ : ∃ n, 1 + s = n := ⟨_, rfl⟩
  have k0 : 0 ≤ k := by omega
  have k1 : k ≤ 2 := by omega
  have n0 : 1 ≤ n := by omega
  have n1 : n ≤ 65536 := by omega
  have C1 := at_any k j n j0 j1
  have C2 := at_any k (j + 1) n (by omega) (by omega)
  obtain ⟨x0, x1⟩ := atF_in (j := j) (show EdgeP k n from ⟨k0, k1, n0, n1⟩)
  obtain ⟨y0, y1⟩ := atF_in (j := j + 1) (show EdgeP k n from ⟨k0, k1, n0, n1⟩)
  clear e
  by_cases e2 : k = 2
  · subst e2
    have st : atF 2 (j + 1) n = if atF 2 j n = n - 1 then 0 else atF 2 j n + 1 := by rw [atF_wrap n0 n1, atF_wrap n0 n1]; exact wrap_step n0
    by_cases g : atF 2 j n = n - 1
    · rw [if_pos g] at st
      rw [g] at C1
      rw [st] at C2
      have b1 : ((0 : Int) == n - 1 + 1) = false := beq_eq_false_iff_ne.2 (by omega)
      clear st g x0 x1 y0 y1
      go_enter Try.func3, Try.ntmps3
      go_wp2_with (first
        | (go_at_call 7; (with_reducible refine (CL _).mono ?_); rintro e w2 ⟨rfl, rfl⟩)
        | (go_at_call 8; (with_reducible refine (C1 _).mono ?_); rintro e w2 ⟨rfl, rfl⟩)
        | (go_at_call 8; (with_reducible refine (C2 _).mono ?_); rintro e w2 ⟨rfl, rfl⟩))
      go_ret
      first | exact ⟨rfl, Below.refl _ _⟩ | exact ⟨ret_bool (by simp), Below.refl _ _⟩
    · rw [if_neg g] at st
      rw [st] at C2
      clear st g y0 y1
      generalize atF 2 j n = x at *
      go_enter Try.func3, Try.ntmps3
      go_wp2_with (first
        | (go_at_call 7; (with_reducible refine (CL _).mono ?_); rintro e w2 ⟨rfl, rfl⟩)
        | (go_at_call 8; (with_reducible refine (C1 _).mono ?_); rintro e w2 ⟨rfl, rfl⟩)
        | (go_at_call 8; (with_reducible refine (C2 _).mono ?_); rintro e w2 ⟨rfl, rfl⟩))
      go_ret
      first | exact ⟨rfl, Below.refl _ _⟩ | exact ⟨ret_bool (by simp), Below.refl _ _⟩
  · have st : atF k (j + 1) n - atF k j n ≤ 1 ∧ atF k j n - atF k (j + 1) n ≤ 1 := by
      by_cases e0 : k = 0
      · subst e0; rw [atF_clamp n0 n1, atF_clamp n0 n1]; exact clamp_step n0
      · obtain rfl : k = 1 := by omega
        rw [atF_mirror n0 n1, atF_mirror n0 n1]; exact mirror_step n0
    obtain ⟨st0, st1⟩ := st
    have hk2 : (k == 2) = false := beq_eq_false_iff_ne.2 e2
    clear e2
    generalize atF k (j + 1) n = y at *
    generalize atF k j n = x at *
    go_enter Try.func3, Try.ntmps3
    go_wp2_with (first
      | (go_at_call 7; (with_reducible refine (CL _).mono ?_); rintro e w2 ⟨rfl, rfl⟩)
      | (go_at_call 8; (with_reducible refine (C1 _).mono ?_); rintro e w2 ⟨rfl, rfl⟩)
      | (go_at_call 8; (with_reducible refine (C2 _).mono ?_); rintro e w2 ⟨rfl, rfl⟩))
    go_ret
    first | exact ⟨rfl, Below.refl _ _⟩ | exact ⟨ret_bool (by simp; omega), Below.refl _ _⟩
theorem spans_many (p first c n : Int) (w : World) (h : 100 < c) :
    Calls Try.prog 6 #[.int .i64 p, .int .i64 first, .int .i64 c, .int .i64 n] w fun e w' => e = .returned (.bool true) ∧ Below w.heap.size w w' := by
  have CL := elives
  go_enter Try.func6, Try.ntmps6
  go_wp2_with (first
    | (go_at_call 7; (with_reducible refine (CL _).mono ?_); rintro e w2 ⟨rfl, rfl⟩))
  go_ret
  exact ⟨rfl, Below.refl _ _⟩
theorem hold_next (first : Int) (k : Nat) (h0 : -9223372036854775808 ≤ first) (h1 : first ≤ 9223372036854775807) (hk : (k : Int) ≤ 100) :
    (0 < first → 9223372036854775807 - first < (k : Int) → holdI (first + (k : Int)) = 9223372036854775807) ∧ (¬ 0 < first ∨ ¬ 9223372036854775807 - first < (k : Int) → holdI (first + (k : Int)) = first + (k : Int) ∧ first + (k : Int) ≤ 9223372036854775807) := by
  refine ⟨fun a b => holdI_hi (by omega), fun a => ⟨holdI_in (by omega) (by omega), by omega⟩⟩
set_option maxHeartbeats 1000000 in
theorem spans_some (p first n : Int) (c : Nat) (c0 : 1 ≤ c) (c1 : c ≤ 100) (h0 : -9223372036854775808 ≤ first) (h1 : first ≤ 9223372036854775807) (w : World) :
    Calls Try.prog 6 #[.int .i64 p, .int .i64 first, .int .i64 (c : Int), .int .i64 n] w fun e w' => e = .returned (.bool true) ∧ Below w.heap.size w w' := by
  have CL := elives
  have CS := span_some p first n c c0 (by omega) h0 h1
  obtain ⟨i0, hi, hz0, hz1, hz2⟩ := info_parts infoI64Q
  have m1 : max 0 (c : Int) = (c : Int) := by omega
  go_enter Try.func6, Try.ntmps6
  go_wp2_with (first
    | (go_at_call 7; (with_reducible refine (CL _).mono ?_); rintro e w2 ⟨rfl, rfl⟩))
  clear m1
  go_loopw [9, 21] (fun u i wr => ∃ k : Nat, k ≤ c ∧ i = .int .i64 (k : Int) ∧ OwnI .i64 2 wr w.heap.size u (spanTo p first n k) ∧ Below w.heap.size w wr) (fun _ i _ => c - (intOf i).toNat)
  case atStart => exact ⟨0, by omega, rfl, OwnI.nil _ _ _ _, Below.refl _ _⟩
  case round =>
    obtain ⟨k, hk, rfl, ho, hb⟩ := hrel
    have HO := hide ho
    have HB := hide hb
    clear ho hb
    by_cases hlt : k < c
    · clear CS CL
      obtain ⟨q1, q2⟩ := hold_next first k h0 h1 (by omega)
      have HS := hide (spanTo_snoc p first n k)
      have HL := hide (spanTo_len p first n k)
      have d0 := holdI0 (first + (k : Int))
      have d1 := holdI1 (first + (k : Int))
      have CE := fun w => refat_any p (holdI (first + (k : Int))) n d0 d1 w
      have hc : (0 < first ∧ 9223372036854775807 - first < (k : Int) ∧ holdI (first + (k : Int)) = 9223372036854775807) ∨ ((¬ 0 < first ∨ (0 < first ∧ ¬ 9223372036854775807 - first < (k : Int))) ∧ first + (k : Int) ≤ 9223372036854775807 ∧ holdI (first + (k : Int)) = first + (k : Int)) := by
        by_cases a : 0 < first
        · by_cases b : 9223372036854775807 - first < (k : Int)
          · exact Or.inl ⟨a, b, q1 a b⟩
          · exact Or.inr ⟨Or.inr ⟨a, b⟩, (q2 (Or.inr b)).2, (q2 (Or.inr b)).1⟩
        · exact Or.inr ⟨Or.inl a, (q2 (Or.inl a)).2, (q2 (Or.inl a)).1⟩
      clear q1 q2 d0 d1
      rcases hc with ⟨a, b, e⟩ | ⟨a | ⟨a, b⟩, g, e⟩
      all_goals
        rw [e] at CE HS
        clear e
        generalize atF p _ n = x at CE HS
        go_wp2_with (first
          | (go_at_call 9; (with_reducible refine (CE _).mono ?_); rintro e w2 ⟨rfl, rfl⟩)
          | (at_builtin; refine wpList_append_own _ rfl _ _ 29 rfl w.heap.size 2 i0 (.int .i64 0) 1 8 Try.underlying29 hi hz0 hz1 hz2 rfl (by decide) _ _ _ rfl (HO.out.alloc _) ⟨wr.heap.size, 0, none⟩ 1 1 [.int .i64 x] rfl rfl (new_one _ _ _) (one_int _ _) (by rw [HL.out]; unfold maxLen; omega) (by rw [HL.out]; omega) (by have := HB.out.size; simp; omega) ?_; intro u' w3 own3 grow3 _))
        have R := hide (own_more HB.out HO.out own3 grow3)
        clear own3 grow3
        go_wp2
        go_roundw
        case rel => exact ⟨k + 1, by omega, by go_num, by rw [HS.out]; exact R.out.1, R.out.2⟩
        case measure => simp [intOf]; omega
    · obtain rfl : k = c := by omega
      obtain ⟨ad, cap, rfl, RA, _⟩ := HO.out.formn (spanTo_len p first n k)
      have HR := hide RA
      clear RA hlt hk
      go_wp2_with (first
        | (go_at_call 11; (with_reducible refine (CS _).mono ?_); rintro e w2 ⟨v, rfl, ov, b2⟩; obtain ⟨ad2, cap2, rfl, ra2, _⟩ := ov.formn (spanTo_len p first n k))
        | (go_at_call 10; (with_reducible refine (same_n k (spanTo p first n k) (spanTo_len p first n k) _ _ _ _ _ ra2 (HR.out.below b2) (by omega)).mono ?_); rintro e w3 ⟨rfl, b3⟩))
      go_ret
      exact ⟨rfl, bt (bt HB.out b2) b3⟩
theorem spans_none (p first c n : Int) (w : World) (h : c ≤ 0) :
    Calls Try.prog 6 #[.int .i64 p, .int .i64 first, .int .i64 c, .int .i64 n] w fun e w' => e = .returned (.bool true) ∧ Below w.heap.size w w' := by
  have CL := elives
  have CS := span_none p first c n h
  have m1 : max 0 c = 0 := by omega
  go_enter Try.func6, Try.ntmps6
  go_wp2_with (first
    | (go_at_call 7; (with_reducible refine (CL _).mono ?_); rintro e w2 ⟨rfl, rfl⟩))
  go_loopw [9, 21] (fun u i wr => u = .slice none 0 0 ∧ i = .int .i64 0 ∧ wr = w) (fun _ _ _ => 0)
  case atStart => exact ⟨rfl, rfl, rfl⟩
  case round =>
    obtain ⟨rfl, rfl, rfl⟩ := hrel
    have CE := same_n 0 [] rfl none none 0 0
    go_wp2_with (first
      | (go_at_call 11; (with_reducible refine (CS _).mono ?_); rintro e w2 ⟨rfl, rfl⟩)
      | (go_at_call 10; (with_reducible refine (CE _ (RowAt.nil _ _ _) (RowAt.nil _ _ _) (by omega)).mono ?_); rintro e w3 ⟨rfl, b3⟩))
    go_ret
    exact ⟨rfl, b3⟩
theorem law_BorderSpans (p first c n : Int) (w : World) (_ : -9223372036854775808 ≤ p ∧ p ≤ 9223372036854775807) (hf : -9223372036854775808 ≤ first ∧ first ≤ 9223372036854775807) (_ : -9223372036854775808 ≤ c ∧ c ≤ 9223372036854775807) (_ : -9223372036854775808 ≤ n ∧ n ≤ 9223372036854775807) :
    Calls Try.prog 6 #[.int .i64 p, .int .i64 first, .int .i64 c, .int .i64 n] w fun e w' => e = .returned (.bool true) ∧ Below w.heap.size w w' := by
  by_cases a : 100 < c
  · exact spans_many p first c n w a
  by_cases b : c ≤ 0
  · exact spans_none p first c n w b
  · obtain ⟨k, rfl⟩ : ∃ k : Nat, c = (k : Int) := ⟨c.toNat, by omega⟩
    exact spans_some p first n k (by omega) (by omega) hf.1 hf.2 w
end Go.Proofs.Ythhdclgpllnenaa
