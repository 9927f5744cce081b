/- The statements on what is reset, and on rows that slide. -/
import Derived.Test.YtkkoemcciemloaaS16P
namespace Go.Proofs.Ytkkoemcciemloaa
open Go.RowKit
open Go.Maps (Keyed)
open Go.MapKept Go.ChangeMaps


theorem next_one {a : Int} {x : List Int} : nextJ [(a, x)] a (a + 2) = a + 1 := by
  show (if a = a ∧ a < a + 2 then a + 1 else a) = a + 1
  rw [if_pos ⟨rfl, by omega⟩]
theorem roomF_in1 {n : Nat} (h : n ≤ 19) : (roomF (1 + (n : Int))).toNat = n + 1 := by
  unfold roomF
  rw [if_neg (by omega), if_neg (by omega)]
  omega
set_option maxHeartbeats 4000000 in
theorem law_RingReset (p n a : Int) (w : World) (hp : 0 ≤ p ∧ p ≤ 255) (hn : 0 ≤ n ∧ n ≤ 255) (ha : -2147483648 ≤ a ∧ a ≤ 2147483647) :
    Calls Try.prog 3 #[.int .u8 p, .int .u8 n, .int .i32 a] w fun e w' => e = .returned (.bool true) ∧ Below w.heap.size w w' := by
  obtain ⟨a1, a2⟩ := ha
  obtain ⟨pm, hpm⟩ : ∃ pm : Nat, p % 20 = (pm : Int) := ⟨(p % 20).toNat, by omega⟩
  obtain ⟨nm, hnm⟩ : ∃ nm : Nat, n % 40 = (nm : Int) := ⟨(n % 40).toNat, by omega⟩
  have hpm2 : pm ≤ 19 := by omega
  have hnm2 : nm ≤ 39 := by omega
  have tp : p.tmod 20 = (pm : Int) := by rw [Int.tmod_eq_emod_of_nonneg hp.1]; exact hpm
  have tn : n.tmod 40 = (nm : Int) := by rw [Int.tmod_eq_emod_of_nonneg hn.1]; exact hnm
  have CL := lives16_any w
  have CN := fun (w1 : World) (hb : Below w.heap.size w w1) => law_new hb (1 + (pm : Int)) 3 (by omega) (by omega) (by decide) (by decide)
  rw [roomF_in1 hpm2, show (widthF 3).toNat = 3 by decide] at CN
  obtain ⟨f, hf⟩ : ∃ f : Int → List Int, f = fun _ => [9, 9, 9] := ⟨_, rfl⟩
  have F := hide (fun (j : Int) => (show f j = [9, 9, 9] by rw [hf]))
  have e1 : putB (pm + 1) 3 [] a 3 = true := by simp [putB, hasJ]
  have e2 : putR (pm + 1) [] (a, [1, 2, 3]) = [(a, [1, 2, 3])] := rfl
  have P1 := fun (w1 : World) (r : Nat) (h : LawR w w1 r (pm + 1) 3 []) => law_put (cap := 3) (n := 3) (j := a) h (below1 w1 (.cells #[.int .i64 1, .int .i64 2, .int .i64 3] 2)) (Nat.le_refl _) (by omega) (by omega) (rfl : ([1, 2, 3] : List Int).length = 3) (by decide) (row_lit .i64 w1 2 [1, 2, 3])
  rw [e1, if_pos rfl, e2] at P1
  have R1 := fun (w1 : World) (r : Nat) (h : LawR w w1 r (pm + 1) 3 [(a, [1, 2, 3])]) => law_row (j := a) h (by omega) (by omega)
  have hh : hasJ [(a, ([1, 2, 3] : List Int))] a = true := by simp [hasJ]
  have hr : rowJ [(a, ([1, 2, 3] : List Int))] a = [1, 2, 3] := by simp [rowJ]
  rw [hh, hr] at R1
  have X1 := fun (w1 : World) (r : Nat) (h : LawR w w1 r (pm + 1) 3 [(a, [1, 2, 3])]) => law_next (a := a) (b := a + 2) h (by omega) (by omega) (by omega) (by omega)
  rw [next_one, if_pos (show a + 1 < a + 2 by omega), decide_eq_true (show a + 1 < a + 2 by omega)] at X1
  have HLIT : Hid (∀ W : World, RowAt .i64 (W.alloc (.cells #[.int .i64 1, .int .i64 2, .int .i64 3] 2)) (some ⟨W.heap.size, 0, none⟩) [1, 2, 3]) := fun W => row_lit .i64 W 2 [1, 2, 3]
  clear hf e1 e2 hh hr hpm hnm
  go_enter Try.func3, Try.ntmps3
  go_wp2_with (first
    | (go_at_call 8; (with_reducible refine CL.mono ?_); rintro e w1 ⟨rfl, b1⟩; have HB1 := hide b1; clear b1)
    | (go_at_call 9; (with_reducible refine (CN _ HB1.out).mono ?_); rintro e w2 ⟨r, rfl, l2⟩; have HL2 := hide l2; clear l2))
  go_loopw [25] (fun vk wr => ∃ k : Nat, k ≤ nm ∧ vk = .int .i64 (k : Int) ∧ LawR w wr r (pm + 1) 3 (slideR f a (pm + 1) k)) (fun vk _ => nm - (intOf vk).toNat)
  case atStart => exact ⟨0, by omega, rfl, by rw [slide_nil]; exact HL2.out⟩
  case round =>
    obtain ⟨k, hk, rfl, hl⟩ := hrel
    have HL := hide hl
    clear hl
    by_cases hlt : k < nm
    · have CP := law_slide (cap := 3) (o := 0) (n := k) HL.out (below1 wr (.cells #[.int .i64 9, .int .i64 9, .int .i64 9] 2)) (Nat.le_refl _) (by omega) (by omega) (by rw [F.out]; rfl) (by rw [F.out]; exact row_lit .i64 wr 2 [9, 9, 9])
      go_wp2_with (go_at_call 10; (with_reducible refine CP.mono ?_); rintro e w3 ⟨rfl, l3⟩; have HL3 := hide l3; clear l3)
      go_roundw
      case rel => exact ⟨k + 1, by omega, by go_num, HL3.out⟩
      case measure => simp [intOf]; omega
    · obtain rfl : k = nm := by omega
      have CR := law_reset HL.out
      go_wp2_with (first
        | (go_at_call 11; (with_reducible refine CR.mono ?_); rintro e w3 ⟨rfl, l3⟩; have HL3 := hide l3; have C0 := law_first0 l3; have L0 := law_len l3; have PP := P1 _ _ l3; clear l3)
        | (go_at_call 12; (with_reducible refine C0.mono ?_); rintro e w4 ⟨rfl, rfl⟩)
        | (go_at_call 13; (with_reducible refine L0.mono ?_); rintro e w4 ⟨rfl, rfl⟩)
        | (go_at_call 10; (with_reducible refine PP.mono ?_); rintro e w4 ⟨rfl, l4⟩; have HL4 := hide l4; have L1 := law_len l4; have RR := R1 _ _ l4; clear l4)
        | (go_at_call 13; (with_reducible refine L1.mono ?_); rintro e w5 ⟨rfl, rfl⟩)
        | (go_at_call 14; (with_reducible refine RR.mono ?_); rintro e w6 ⟨v6, rfl, o6, b6⟩; have HL6 := hide (HL4.out.below b6); have XX := X1 _ _ (HL4.out.below b6); obtain ⟨ad6, cap6, rfl, r6, z6⟩ := o6.formn (n := 3) rfl; have HR6 := hide r6; clear o6 b6 r6)
        | (go_at_call 15; (with_reducible refine XX.mono ?_); rintro e w7 ⟨rfl, rfl⟩)
        | (go_at_call 16; (with_reducible refine (same_n 3 [1, 2, 3] rfl _ _ _ _ _ (HR6.out.below (below1 _ _)) (HLIT.out _) (by decide)).mono ?_); rintro e w8 ⟨rfl, b8⟩; have HB8 := hide b8; clear b8))
      go_ret
      exact ⟨rfl, bt (ba HL6.out.bel _) HB8.out⟩
end Go.Proofs.Ytkkoemcciemloaa
