/- What stands beyond the edge: the laws. -/
import Derived.Test.YthhdclgpllnenaaS07C
import Derived.Deep.RegionHeld3
namespace Go.Proofs.Ythhdclgpllnenaa
open Go.RowKit


theorem law_BorderAt (p j n : Int) (w : World) (_ : -9223372036854775808 ≤ p ∧ p ≤ 9223372036854775807) (hj : -9223372036854775808 ≤ j ∧ j ≤ 9223372036854775807) (_ : -9223372036854775808 ≤ n ∧ n ≤ 9223372036854775807) :
    Calls Try.prog 4 #[.int .i64 p, .int .i64 j, .int .i64 n] w fun e w' => e = .returned (.bool true) ∧ Below w.heap.size w w' := by
  have CL := elives
  have C1 := at_any p j n hj.1 hj.2
  have C2 := refat_any p j n hj.1 hj.2
  generalize atF p j n = x at *
  go_enter Try.func4, Try.ntmps4
  go_wp2_with (first
    | (go_at_call 7; (with_reducible refine (CL _).mono ?_); rintro e w2 ⟨rfl, rfl⟩)
    | (go_at_call 8; (with_reducible refine (C1 _).mono ?_); rintro e w2 ⟨rfl, rfl⟩)
    | (go_at_call 9; (with_reducible refine (C2 _).mono ?_); rintro e w2 ⟨rfl, rfl⟩))
  go_ret
  first | exact ⟨rfl, Below.refl _ _⟩ | exact ⟨ret_bool (by simp), Below.refl _ _⟩
/-- A callee that leaves the world as it is, in a region that draws and only reads. -/
theorem calm {P : Program} {f : FuncId} {args : Array Value} {u : Value} (h : ∀ w : World, Calls P f args w fun e w' => e = .returned u ∧ w = w') (w : World) (n : Nat) :
    Calls P f args (w.drewN n) fun e w'' => e = .returned u ∧ ∃ m, w'' = w.drewN m :=
  (h _).mono fun _ _ q => ⟨q.1, n, q.2.symm⟩
theorem borderin_far (p j s : Int) (w : World) (p0 : 0 ≤ p) (p1 : p ≤ 255) (j0 : -9223372036854775808 ≤ j) (j1 : j ≤ 9223372036854775807) (s0 : 0 ≤ s) (s1 : s ≤ 65535) (h : j < -4611686018427387904 ∨ 4611686018427387904 < j) :
    Calls Try.prog 5 #[.int .u8 p, .int .i64 j, .int .u16 s] w fun e w' => e = .returned (.bool true) ∧ Below w.heap.size w w' := by
  have CL := elives
  obtain ⟨k, hk⟩ : ∃ k, p % 3 = k := ⟨_, rfl⟩
  obtain ⟨n, hn⟩ : ∃ n, 1 + s = n := ⟨_, rfl⟩
  have k0 : 0 ≤ k := by omega
  have k1 : k ≤ 2 := by omega
  have n0 : 1 ≤ n := by omega
  have n1 : n ≤ 65536 := by omega
  have C1 := at_any k j n j0 j1
  obtain ⟨x0, x1⟩ := atF_in (j := j) (show EdgeP k n from ⟨k0, k1, n0, n1⟩)
  generalize atF k j n = x at *
  rcases h with h | h
  all_goals
    go_enter Try.func5, Try.ntmps5
    go_wp2_with (first
      | (go_at_call 7; (with_reducible refine (CL _).mono ?_); rintro e w2 ⟨rfl, rfl⟩)
      | (go_at_call 8; (with_reducible refine (C1 _).mono ?_); rintro e w2 ⟨rfl, rfl⟩))
    go_ret
    exact ⟨rfl, Below.refl _ _⟩
set_option maxHeartbeats 400000 in
theorem borderin_wrap (p j s : Int) (w : World) (p0 : 0 ≤ p) (p1 : p ≤ 255) (hk : p % 3 = 2) (s0 : 0 ≤ s) (s1 : s ≤ 65535) (h0 : -4611686018427387904 ≤ j) (h1 : j ≤ 4611686018427387904) :
    Calls Try.prog 5 #[.int .u8 p, .int .i64 j, .int .u16 s] w fun e w' => e = .returned (.bool true) ∧ Below w.heap.size w w' := by
  have CL := elives
  obtain ⟨n, hn⟩ : ∃ n, 1 + s = n := ⟨_, rfl⟩
  have n0 : 1 ≤ n := by omega
  have n1 : n ≤ 65536 := by omega
  have C1 := at_any 2 j n (by omega) (by omega)
  have C2 := at_any 2 (j + n) n (by omega) (by omega)
  have C3 := at_any 2 (j + 1) n (by omega) (by omega)
  rw [atF_wrap n0 n1] at C1 C2 C3
  rw [wrap_round] at C2
  rw [wrap_next] at C3
  obtain ⟨x0, x1⟩ := wrapE_in (j := j) n0
  have xs : 0 ≤ j → j < n → j % n = j := fun a b => Int.emod_eq_of_lt a b
  generalize j % n = x at *
  have hc : (0 ≤ j ∧ j < n ∧ x = j) ∨ (j < 0) ∨ (0 ≤ j ∧ n ≤ j) := by
    by_cases a : j < 0
    · exact Or.inr (Or.inl a)
    · by_cases b : n ≤ j
      · exact Or.inr (Or.inr ⟨by omega, b⟩)
      · exact Or.inl ⟨by omega, by omega, xs (by omega) (by omega)⟩
  clear xs
  have hz : (n == 0) = false := beq_eq_false_iff_ne.2 (by omega)
  have t1 : (x + 1).tmod n = (x + 1) % n := Int.tmod_eq_emod_of_nonneg (by omega)
  have W1 : IntKind.i64.wrap (j + n) = j + n := IntWalk.i64_in _ (by omega)
  have W2 : IntKind.i64.wrap (j + 1) = j + 1 := IntWalk.i64_in _ (by omega)
  have W3 : IntKind.i64.wrap (x + 1) = x + 1 := IntWalk.i64_in _ (by omega)
  rcases hc with ⟨a, b, rfl⟩ | h | ⟨a, b⟩
  all_goals
    go_enter Try.func5, Try.ntmps5
    go_wp2_with (first
      | (go_at_call 7; (with_reducible refine (CL _).mono ?_); rintro e w2 ⟨rfl, rfl⟩)
      | (go_at_call 8; (with_reducible refine (C1 _).mono ?_); rintro e w2 ⟨rfl, rfl⟩))
    go_quiet ((first
      | (go_at_call 8; (with_reducible exact calm C2 _ _))
      | (go_at_call 8; (with_reducible exact calm C3 _ _))))
    go_wp2
    go_ret
    refine ⟨rfl, ?_⟩
    repeat (first | exact Below.refl _ _ | with_reducible refine bd ?_ | with_reducible refine bdN ?_ _)
set_option maxHeartbeats 400000 in
theorem borderin_mirror (p j s : Int) (w : World) (p0 : 0 ≤ p) (p1 : p ≤ 255) (hk : p % 3 = 1) (s0 : 0 ≤ s) (s1 : s ≤ 65535) (h0 : -4611686018427387904 ≤ j) (h1 : j ≤ 4611686018427387904) :
    Calls Try.prog 5 #[.int .u8 p, .int .i64 j, .int .u16 s] w fun e w' => e = .returned (.bool true) ∧ Below w.heap.size w w' := by
  have CL := elives
  obtain ⟨n, hn⟩ : ∃ n, 1 + s = n := ⟨_, rfl⟩
  have n0 : 1 ≤ n := by omega
  have n1 : n ≤ 65536 := by omega
  have C1 := at_any 1 j n (by omega) (by omega)
  have C2 := at_any 1 (j + 2 * n) n (by omega) (by omega)
  have C3 := at_any 1 (-1 - j) n (by omega) (by omega)
  rw [atF_mirror n0 n1] at C1 C2 C3
  rw [mirror_round] at C2
  rw [mirror_turn n0] at C3
  obtain ⟨x0, x1⟩ := mirrorE_in (j := j) n0
  have xs : 0 ≤ j → j < n → mirrorE j n = j := fun a b => mirrorE_self a b
  generalize mirrorE j n = x at *
  have hc : (0 ≤ j ∧ j < n ∧ x = j) ∨ (j < 0) ∨ (0 ≤ j ∧ n ≤ j) := by
    by_cases a : j < 0
    · exact Or.inr (Or.inl a)
    · by_cases b : n ≤ j
      · exact Or.inr (Or.inr ⟨by omega, b⟩)
      · exact Or.inl ⟨by omega, by omega, xs (by omega) (by omega)⟩
  clear xs
  have W0 : IntKind.i64.wrap (2 * n) = 2 * n := IntWalk.i64_in _ (by omega)
  have W1 : IntKind.i64.wrap (j + 2 * n) = j + 2 * n := IntWalk.i64_in _ (by omega)
  have W2 : IntKind.i64.wrap (-1 - j) = -1 - j := IntWalk.i64_in _ (by omega)
  rcases hc with ⟨a, b, rfl⟩ | h | ⟨a, b⟩
  all_goals
    go_enter Try.func5, Try.ntmps5
    go_wp2_with (first
      | (go_at_call 7; (with_reducible refine (CL _).mono ?_); rintro e w2 ⟨rfl, rfl⟩)
      | (go_at_call 8; (with_reducible refine (C1 _).mono ?_); rintro e w2 ⟨rfl, rfl⟩)
      | (go_at_call 8; (with_reducible refine (C2 _).mono ?_); rintro e w2 ⟨rfl, rfl⟩)
      | (go_at_call 8; (with_reducible refine (C3 _).mono ?_); rintro e w2 ⟨rfl, rfl⟩))
    go_ret
    exact ⟨rfl, Below.refl _ _⟩
theorem borderin_clamp (p j s : Int) (w : World) (p0 : 0 ≤ p) (p1 : p ≤ 255) (hk : p % 3 = 0) (s0 : 0 ≤ s) (s1 : s ≤ 65535) (h0 : -4611686018427387904 ≤ j) (h1 : j ≤ 4611686018427387904) :
    Calls Try.prog 5 #[.int .u8 p, .int .i64 j, .int .u16 s] w fun e w' => e = .returned (.bool true) ∧ Below w.heap.size w w' := by
  have CL := elives
  obtain ⟨n, hn⟩ : ∃ n, 1 + s = n := ⟨_, rfl⟩
  have n0 : 1 ≤ n := by omega
  have n1 : n ≤ 65536 := by omega
  have C1 := at_any 0 j n (by omega) (by omega)
  rw [atF_clamp n0 n1] at C1
  have hc : (0 ≤ j ∧ j < n ∧ clampE j n = j) ∨ (j < 0 ∧ clampE j n = 0) ∨ (0 ≤ j ∧ n ≤ j ∧ clampE j n = n - 1) := by
    unfold clampE
    split
    · exact Or.inr (Or.inl ⟨by omega, rfl⟩)
    · split
      · exact Or.inr (Or.inr ⟨by omega, by omega, rfl⟩)
      · exact Or.inl ⟨by omega, by omega, rfl⟩
  generalize clampE j n = x at *
  rcases hc with ⟨a, b, rfl⟩ | ⟨h, rfl⟩ | ⟨a, b, rfl⟩
  all_goals
    go_enter Try.func5, Try.ntmps5
    go_wp2_with (first
      | (go_at_call 7; (with_reducible refine (CL _).mono ?_); rintro e w2 ⟨rfl, rfl⟩)
      | (go_at_call 8; (with_reducible refine (C1 _).mono ?_); rintro e w2 ⟨rfl, rfl⟩))
    go_ret
    exact ⟨rfl, Below.refl _ _⟩
theorem law_BorderIn (p j s : Int) (w : World) (hp : 0 ≤ p ∧ p ≤ 255) (hj : -9223372036854775808 ≤ j ∧ j ≤ 9223372036854775807) (hs : 0 ≤ s ∧ s ≤ 65535) :
    Calls Try.prog 5 #[.int .u8 p, .int .i64 j, .int .u16 s] w fun e w' => e = .returned (.bool true) ∧ Below w.heap.size w w' := by
  by_cases h : j < -4611686018427387904 ∨ 4611686018427387904 < j
  · exact borderin_far p j s w hp.1 hp.2 hj.1 hj.2 hs.1 hs.2 h
  · have hc : p % 3 = 0 ∨ p % 3 = 1 ∨ p % 3 = 2 := by omega
    rcases hc with e | e | e
    · exact borderin_clamp p j s w hp.1 hp.2 e hs.1 hs.2 (by omega) (by omega)
    · exact borderin_mirror p j s w hp.1 hp.2 e hs.1 hs.2 (by omega) (by omega)
    · exact borderin_wrap p j s w hp.1 hp.2 e hs.1 hs.2 (by omega) (by omega)
end Go.Proofs.Ythhdclgpllnenaa
