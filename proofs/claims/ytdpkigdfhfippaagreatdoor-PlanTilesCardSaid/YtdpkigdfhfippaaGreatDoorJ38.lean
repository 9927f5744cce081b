/- Parts, joined. -/
import Derived.Test.YtdpkigdfhfippaaGreatDoorJ31
import Derived.Test.YtdpkigdfhfippaaGreatDoorJ37
/- Plans: the program's own: New, Find, Scratch, Stage. -/
namespace Go.Proofs.YtdpkigdfhfippaaGreatDoor
open Go.RowKit

theorem tab_nil_ne : ∀ (p : Addr) (w : World), (binOp .eql 29 (.pointer (some p)) (.pointer none)).run Tryz.prog w = .ok (.bool false) w := fun p w => by kernel_rfl
theorem tab_nil_eq : ∀ (w : World), (binOp .eql 29 (.pointer none) (.pointer none)).run Tryz.prog w = .ok (.bool true) w := fun w => by kernel_rfl
theorem new14_lacks (x y : Value) (c a b : Int) (w : World) (hx : TabOr w x) (hy : TabOr w y) (hn : x = .pointer none ∨ y = .pointer none) :
    Calls Tryz.prog 10 #[.agg #[x, y, .int .i64 c], .int .i64 a, .int .i64 b] w fun e w' => e = .returned (.tuple #[.pointer none, .int .i64 6]) ∧ Below w.heap.size w w' := by
  have q1 := tab_nil_ne
  have q2 := tab_nil_eq
  rcases hx with rfl | ⟨n, L, tx⟩
  · go_enter Tryz.func10, Tryz.ntmps10
    go_wp2
    go_ret2
    exact ⟨rfl, below1 _ _⟩
  · obtain ⟨ax, rfl⟩ := tx.ptr
    obtain rfl : y = .pointer none := by rcases hn with h | h; (· cases h); exact h
    clear hy hn
    go_enter Tryz.func10, Tryz.ntmps10
    go_wp2
    go_ret2
    exact ⟨rfl, below1 _ _⟩
theorem new14_any (x y : Value) (S : Stg) (a b : Int) (w : World) (tx : Tab w x S.fx S.lx) (ty : Tab w y S.fy S.ly) :
    Calls Tryz.prog 10 #[.agg #[x, y, .int .i64 S.sb], .int .i64 a, .int .i64 b] w fun e w' => ((tileB a b = true ∧ ∃ v, e = .returned (.tuple #[v, .int .i64 0]) ∧ PlanAt w' v x y S a b) ∨ (tileB a b = false ∧ e = .returned (.tuple #[.pointer none, .int .i64 9]))) ∧ Below w.heap.size w w' := by
  have q1 := tab_nil_ne
  obtain ⟨ax, rfl⟩ := tx.ptr
  obtain ⟨ay, rfl⟩ := ty.ptr
  have HX := hide tx
  have HY := hide ty
  by_cases ha : 1 ≤ a ∧ a ≤ 4096
  · have CA := side14_yes a ha
    by_cases hb : 1 ≤ b ∧ b ≤ 4096
    · have CB := side14_yes b hb
      have ht : tileB a b = true := tileB_iff.2 ⟨ha.1, ha.2, hb.1, hb.2⟩
      have HP := hide (fun (w' : World) (g : Nat) (h5 : S5 w' g (.pointer (some ax)) (.pointer (some ay)) (.int .i64 S.sb) (.int .i64 a) (.int .i64 b)) (b' : Below w.heap.size w w') => show PlanAt w' (.pointer (some ⟨g, 0, none⟩)) (.pointer (some ax)) (.pointer (some ay)) S a b from ⟨g, rfl, h5, tx.below b', ty.below b', ht⟩)
      have HT := hide ht
      clear tx ty ha hb ht HX HY
      generalize hsb : S.sb = sb at *
      have HSB := hide hsb
      clear hsb
      go_enter Tryz.func10, Tryz.ntmps10
      go_wp2_with (first
        | (go_at_call 27; (with_reducible refine (CA _).mono ?_); rintro e w1 ⟨rfl, rfl⟩)
        | (go_at_call 27; (with_reducible refine (CB _).mono ?_); rintro e w1 ⟨rfl, rfl⟩))
      exact bodyPost_ret (v := .tuple #[.pointer (some ⟨w.heap.size + 1, 0, none⟩), .int .i64 0]) (by simp [results, Tryz.results10, go_sem]) rfl ⟨.inl ⟨HT.out, _, rfl, HP.out _ _ (by simpa using S5.new (w.alloc (.cells #[.pointer (some ax), .pointer (some ay), .int .i64 sb] 31)) 79 (.pointer (some ax)) (.pointer (some ay)) (.int .i64 sb) (.int .i64 a) (.int .i64 b)) (ba (below1 _ _) _)⟩, ba (below1 _ _) _⟩
    · have CB := side14_no b (by omega)
      have ht : tileB a b = false := by
        cases h : tileB a b
        · rfl
        · have := tileB_iff.1 h
          omega
      have HT := hide ht
      clear tx ty ha hb ht HX HY
      generalize S.sb = sb at *
      go_enter Tryz.func10, Tryz.ntmps10
      go_wp2_with (first
        | (go_at_call 27; (with_reducible refine (CA _).mono ?_); rintro e w1 ⟨rfl, rfl⟩)
        | (go_at_call 27; (with_reducible refine (CB _).mono ?_); rintro e w1 ⟨rfl, rfl⟩))
      exact bodyPost_ret (v := .tuple #[.pointer none, .int .i64 9]) (by simp [results, Tryz.results10, go_sem]) rfl ⟨.inr ⟨HT.out, rfl⟩, below1 _ _⟩
  · have CA := side14_no a (by omega)
    have ht : tileB a b = false := by
      cases h : tileB a b
      · rfl
      · have := tileB_iff.1 h
        omega
    have HT := hide ht
    clear tx ty ha ht HX HY
    generalize S.sb = sb at *
    go_enter Tryz.func10, Tryz.ntmps10
    go_wp2_with (go_at_call 27; (with_reducible refine (CA _).mono ?_); rintro e w1 ⟨rfl, rfl⟩)
    exact bodyPost_ret (v := .tuple #[.pointer none, .int .i64 9]) (by simp [results, Tryz.results10, go_sem]) rfl ⟨.inr ⟨HT.out, rfl⟩, below1 _ _⟩
theorem stage14p_any {w : World} {v x y : Value} {S : Stg} {a b : Int} (h : PlanAt w v x y S a b) : Calls Tryz.prog 16 #[v] w fun e w' => e = .returned (.agg #[x, y, .int .i64 S.sb]) ∧ Below w.heap.size w w' := by
  obtain ⟨g, rfl, hs, tx, ty, ht⟩ := h
  obtain ⟨ax, rfl⟩ := tx.ptr
  obtain ⟨ay, rfl⟩ := ty.ptr
  obtain ⟨⟨c0, _⟩, ⟨c1, _⟩, ⟨c2, _⟩, ⟨c3, _⟩, ⟨c4, _⟩⟩ := hs.below (below1 w (.cells #[.pointer none, .pointer none, .int .i64 0] 31))
  clear hs
  clear tx ty ht
  generalize S.sb = sb at *
  go_enter Tryz.func16, Tryz.ntmps16
  go_wp2
  exact bodyPost_ret (v := .agg #[.pointer (some ax), .pointer (some ay), .int .i64 sb]) (by simp [results, Tryz.results16, go_sem]) rfl ⟨rfl, below1 _ _⟩
theorem find14_any {w : World} {v x y : Value} {S : Stg} {a b : Int} (h : PlanAt w v x y S a b) (i j : Int) (hi : In64 i) (hj : In64 j) :
    Calls Tryz.prog 19 #[v, .int .i64 i, .int .i64 j] w fun e w' => e = .returned (.tuple #[.int .i64 (if (inB (S.lx.length : Int) i && inB (S.ly.length : Int) j) = true then findF S.lx a b i j else 0), .bool (inB (S.lx.length : Int) i && inB (S.ly.length : Int) j)]) ∧ Below w.heap.size w w' := by
  have CC := fun w' (b' : Below w.heap.size w w') n => cols_any (h.below (bdN b' n))
  obtain ⟨g, rfl, hs, tx, ty, ht⟩ := h
  obtain ⟨ax, rfl⟩ := tx.ptr
  obtain ⟨ay, rfl⟩ := ty.ptr
  obtain ⟨a0, a1, b0, b1⟩ := tileB_iff.1 ht
  have m1 := tx.ok.2.2.1
  have n1 := ty.ok.2.2.1
  have CX := fun w' (b' : Below w.heap.size w w') => tab_to (tx.below b')
  have CY := fun w' (b' : Below w.heap.size w w') => tab_to (ty.below b')
  have HS := hide hs
  unfold In64 at hi hj
  have cin := count_in (LX := S.lx) (LY := S.ly) a0 b0
  unfold findF
  obtain ⟨A0, A1, _⟩ := cin
  clear tx ty ht
  generalize S.lx.length = n at *
  generalize S.ly.length = m at *
  generalize acrossF S.lx a = A at *
  by_cases hin : (0 ≤ i ∧ i < (n : Int)) ∧ 0 ≤ j ∧ j < (m : Int)
  · obtain ⟨⟨i0, i1⟩, j0, j1⟩ := hin
    rw [show inB (n : Int) i = true from inB_iff.2 ⟨i0, i1⟩, show inB (m : Int) j = true from inB_iff.2 ⟨j0, j1⟩, Bool.true_and, if_pos rfl]
    have tj : j.tdiv b = j / b := Int.tdiv_eq_ediv_of_nonneg j0
    have ti : i.tdiv a = i / a := Int.tdiv_eq_ediv_of_nonneg i0
    have u0 : 0 ≤ j / b := Int.ediv_nonneg j0 (by omega)
    have u1 : j / b ≤ j := Int.ediv_le_self _ j0
    have v0 : 0 ≤ i / a := Int.ediv_nonneg i0 (by omega)
    have v1 : i / a ≤ i := Int.ediv_le_self _ i0
    have p0 : 0 ≤ j / b * A := Int.mul_nonneg u0 A0
    have p1 : j / b * A ≤ 65536 * 65536 := Int.mul_le_mul (by omega) (by omega) A0 (by omega)
    have w1 : IntKind.i64.wrap (j / b * A) = j / b * A := by rw [IntKind.wrap_i64]; omega
    have w2 : IntKind.i64.wrap (j / b * A + i / a) = j / b * A + i / a := by rw [IntKind.wrap_i64]; omega
    generalize j / b = jq at *
    generalize i / a = iq at *
    have hb0 : (b == 0) = false := beq_eq_false_iff_ne.2 (by omega)
    have ha0 : (a == 0) = false := beq_eq_false_iff_ne.2 (by omega)
    obtain ⟨⟨c0, _⟩, ⟨c1, _⟩, ⟨c2, _⟩, ⟨c3, _⟩, ⟨c4, _⟩⟩ := hs
    go_enter Tryz.func19, Tryz.ntmps19
    go_wp2_with (first
      | (go_at_call 12; (with_reducible refine (CX _ (Below.refl _ _)).mono ?_); rintro e w8 ⟨rfl, b8⟩; have K8 := hide b8; have y8 := HS.out.below b8; obtain ⟨⟨y0, _⟩, ⟨y1, _⟩, _⟩ := y8)
      | (go_at_call 12; (with_reducible refine (CY _ K8.out).mono ?_); rintro e w9 ⟨rfl, b9⟩; have K9 := hide (bt K8.out b9); have y9 := HS.out.below K9.out; obtain ⟨⟨z0, _⟩, ⟨z1, _⟩, ⟨z2, _⟩, ⟨z3, _⟩, ⟨z4, _⟩⟩ := y9))
    go_quiet ((go_at_call 31; with_reducible exact calmD (CC _ K9.out _)))
    go_wp2
    go_ret2
    exact ⟨rfl, bdN K9.out _⟩
  · have hno : (inB (n : Int) i && inB (m : Int) j) = false := by
      cases hb : inB (n : Int) i && inB (m : Int) j
      · rfl
      · rw [Bool.and_eq_true, inB_iff, inB_iff] at hb
        exact absurd hb hin
    have hcase : i < 0 ∨ (0 ≤ i ∧ (n : Int) ≤ i) ∨ (0 ≤ i ∧ i < (n : Int) ∧ j < 0) ∨ (0 ≤ i ∧ i < (n : Int) ∧ 0 ≤ j ∧ (m : Int) ≤ j) := by omega
    rw [hno, if_neg (by decide)]
    clear hno hin
    obtain ⟨⟨c0, _⟩, ⟨c1, _⟩, ⟨c2, _⟩, ⟨c3, _⟩, ⟨c4, _⟩⟩ := hs
    rcases hcase with q0 | ⟨q0, q1⟩ | ⟨q0, q1, q2⟩ | ⟨q0, q1, q2, q3⟩
    · go_enter Tryz.func19, Tryz.ntmps19
      go_wp2
      go_ret2
      exact ⟨rfl, Below.refl _ _⟩
    all_goals
      go_enter Tryz.func19, Tryz.ntmps19
      go_wp2_with (first
        | (go_at_call 12; (with_reducible refine (CX _ (Below.refl _ _)).mono ?_); rintro e w8 ⟨rfl, b8⟩; have K8 := hide b8; have y8 := HS.out.below b8; obtain ⟨⟨y0, _⟩, ⟨y1, _⟩, _⟩ := y8)
        | (go_at_call 12; (with_reducible refine (CY _ K8.out).mono ?_); rintro e w9 ⟨rfl, b9⟩; have K9 := hide (bt K8.out b9)))
      go_ret2
      first | exact ⟨rfl, K9.out⟩ | exact ⟨rfl, K8.out⟩
theorem scratch14_any {w : World} {v x y : Value} {S : Stg} {a b : Int} (h : PlanAt w v x y S a b) (c : Int) (c0 : -1 ≤ c) (c1 : c ≤ 3) :
    Calls Tryz.prog 21 #[v, .int .i64 c] w fun e w' => e = .returned (.int .i64 (if c < 1 then 0 else mostF S.ly * min a (S.lx.length : Int) * c)) ∧ Below w.heap.size w w' := by
  obtain ⟨g, rfl, hs, tx, ty, ht⟩ := h
  obtain ⟨ax, rfl⟩ := tx.ptr
  obtain ⟨ay, rfl⟩ := ty.ptr
  obtain ⟨a0, a1, b0, b1⟩ := tileB_iff.1 ht
  have m0 := tx.ok.2.1
  have m1 := tx.ok.2.2.1
  have CM := fun w' (b' : Below w.heap.size w w') => tab_most (ty.below b')
  have CT := fun w' (b' : Below w.heap.size w w') => tab_to (tx.below b')
  have CMD := fun n => tab_most_d (ty.below (bdN (Below.refl _ w) n))
  have CTD := fun n => tab_to_d (tx.below (bdN (Below.refl _ w) n))
  have mo := mostTo_in ty.ok.1 S.ly.length (Nat.le_refl _)
  rw [show mostTo S.ly S.ly.length = mostF S.ly from rfl] at mo
  obtain ⟨o0, o1⟩ := mo
  obtain ⟨⟨d0, _⟩, ⟨d1, _⟩, ⟨d2, _⟩, ⟨d3, _⟩, ⟨d4, _⟩⟩ := hs
  clear tx ty ht CM CT
  generalize S.lx.length = n at *
  generalize mostF S.ly = M at *
  by_cases hc : c < 1
  · rw [if_pos hc]
    go_enter Tryz.func21, Tryz.ntmps21
    go_wp2
    go_ret
    exact ⟨rfl, Below.refl _ _⟩
  · rw [if_neg hc]
    obtain ⟨Q, hQ, Q0, Q1⟩ : ∃ Q, min a (n : Int) = Q ∧ 0 ≤ Q ∧ Q ≤ 4096 := ⟨_, rfl, by omega, by omega⟩
    rw [hQ]
    have P0 : 0 ≤ M * Q := Int.mul_nonneg o0 Q0
    have P1 : M * Q ≤ 1048576 * 4096 := Int.mul_le_mul o1 Q1 Q0 (by omega)
    have R0 : 0 ≤ M * Q * c := Int.mul_nonneg P0 (by omega)
    have R1 : M * Q * c ≤ 1048576 * 4096 * 3 := Int.mul_le_mul P1 c1 (by omega) (by omega)
    obtain ⟨PQ, hPQ⟩ : ∃ PQ, M * Q = PQ := ⟨_, rfl⟩
    rw [hPQ] at P0 P1 R0 R1 ⊢
    have w1 : IntKind.i64.wrap PQ = PQ := by rw [IntKind.wrap_i64]; omega
    have hd : PQ ≤ 9223372036854775807 / c := (Int.le_ediv_iff_mul_le (by omega)).2 (by omega)
    have h1 : 1 ≤ c := by omega
    go_enter Tryz.func21, Tryz.ntmps21
    go_wp2
    go_quiet ((first
      | (go_at_call 13; with_reducible exact calmD (CMD _))
      | (go_at_call 12; with_reducible exact calmD (CTD _))))
    go_wp2
    go_ret
    exact ⟨rfl, bdN (Below.refl _ _) _⟩
end Go.Proofs.YtdpkigdfhfippaaGreatDoor
