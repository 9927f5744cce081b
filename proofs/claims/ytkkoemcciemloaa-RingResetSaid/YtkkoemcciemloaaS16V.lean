/- The statement on rows that slide. -/
import Derived.Test.YtkkoemcciemloaaS16U
namespace Go.Proofs.Ytkkoemcciemloaa
open Go.RowKit
open Go.Maps (Keyed)
open Go.MapKept Go.ChangeMaps


theorem slide_no {f : Int → List Int} {a : Int} {room width n : Nat} {j : Int} {m : Nat} (h : hasJ (slideR f a room n) j = true) : putB room width (slideR f a room n) j m = false := by
  unfold putB
  rw [h]
  simp
theorem law_again {w0 w w1 : World} {r room width n : Nat} {f : Int → List Int} {a j : Int} {xs : List Int} {cap g o m : Nat} (h : LawR w0 w r room width (slideR f a room n)) (hb : Below w.heap.size w w1) (hg : w.heap.size ≤ g) (j1 : -9223372036854775808 ≤ j) (j2 : j ≤ 9223372036854775807) (hj : hasJ (slideR f a room n) j = true) (hn : xs.length = m) (hm : m ≤ 9223372036854775807) (hr : RowAt .i64 w1 (some ⟨g, o, none⟩) xs) :
    Calls Try.prog 10 #[.pointer (some ⟨r, 0, none⟩), .int .i64 j, .slice (some ⟨g, o, none⟩) m cap] w1 fun e w' => e = .returned (.bool false) ∧ LawR w0 w' r room width (slideR f a room n) := by
  refine (law_put h hb hg j1 j2 hn hm hr).mono ?_
  rintro e w' ⟨rfl, h'⟩
  rw [slide_no hj, if_neg (by decide)] at h'
  exact ⟨by rw [slide_no hj], h'⟩
theorem slide_at {f : Int → List Int} {a : Int} {p i b : Nat} : hasJ (slideR f a (p + 1) (i + 1)) (a + (b : Int)) = (decide ((b : Int) ≤ (i : Int)) && decide ((i : Int) - (1 + (p : Int)) < (b : Int))) := by
  rw [slide_has, Bool.eq_iff_iff, Bool.and_eq_true, Bool.and_eq_true, decide_eq_true_eq, decide_eq_true_eq, decide_eq_true_eq, decide_eq_true_eq]
  omega
set_option maxHeartbeats 8000000 in
set_option maxRecDepth 100000 in
theorem law_RingSlides (p a n : Int) (w : World) (hp : 0 ≤ p ∧ p ≤ 255) (ha : -2147483648 ≤ a ∧ a ≤ 2147483647) (hn : 0 ≤ n ∧ n ≤ 255) :
    Calls Try.prog 5 #[.int .u8 p, .int .i32 a, .int .u8 n] w fun e w' => e = .returned (.bool true) ∧ Below w.heap.size w w' := by
  obtain ⟨a1, a2⟩ := ha
  obtain ⟨pm, hpm⟩ : ∃ pm : Nat, p % 20 = (pm : Int) := ⟨(p % 20).toNat, by omega⟩
  obtain ⟨nm, hnm⟩ : ∃ nm : Nat, n % 100 = (nm : Int) := ⟨(n % 100).toNat, by omega⟩
  have hpm2 : pm ≤ 19 := by omega
  have hnm2 : nm ≤ 99 := by omega
  have tp : p.tmod 20 = (pm : Int) := by rw [Int.tmod_eq_emod_of_nonneg hp.1]; exact hpm
  have tn : n.tmod 100 = (nm : Int) := by rw [Int.tmod_eq_emod_of_nonneg hn.1]; exact hnm
  have CL := lives16_any w
  have CN := fun (w1 : World) (hb : Below w.heap.size w w1) => law_new hb (1 + (pm : Int)) 2 (by omega) (by omega) (by decide) (by decide)
  rw [roomF_in1 hpm2, show (widthF 2).toNat = 2 by decide] at CN
  obtain ⟨f, hf⟩ : ∃ f : Int → List Int, f = fun j => [j, -j] := ⟨_, rfl⟩
  have F := hide (fun (j : Int) => (show f j = [j, -j] by rw [hf]))
  clear hf hpm hnm
  go_enter Try.func5, Try.ntmps5
  go_wp2_with (first
    | (go_at_call 8; (with_reducible refine CL.mono ?_); rintro e w1 ⟨rfl, b1⟩; have HB1 := hide b1; clear b1)
    | (go_at_call 9; (with_reducible refine (CN _ HB1.out).mono ?_); rintro e w2 ⟨r, rfl, l2⟩; have HL2 := hide l2; clear l2))
  go_loopw [28] (fun vk wr => ∃ k : Nat, k ≤ nm ∧ vk = .int .i64 (k : Int) ∧ LawR w wr r (pm + 1) 2 (slideR f a (pm + 1) k)) (fun vk _ => nm - (intOf vk).toNat)
  case atStart => exact ⟨0, by omega, rfl, by rw [slide_nil]; exact HL2.out⟩
  case round =>
    obtain ⟨k, hk, rfl, hl⟩ := hrel
    have HL := hide hl
    clear hl
    by_cases hlt : k < nm
    · have CP := law_slide (cap := 2) (o := 0) (n := k) HL.out (below1 wr (.cells #[.int .i64 (a + (k : Int)), .int .i64 (-(a + (k : Int)))] 2)) (Nat.le_refl _) (by omega) (by omega) (by rw [F.out]; rfl) (by rw [F.out]; exact row_lit .i64 wr 2 [a + (k : Int), -(a + (k : Int))])
      have hself : hasJ (slideR f a (pm + 1) (k + 1)) (a + (k : Int)) = true := by
        rw [slide_at, decide_eq_true (by omega), decide_eq_true (by omega)]; rfl
      have CA := fun (w3 : World) (l3 : LawR w w3 r (pm + 1) 2 (slideR f a (pm + 1) (k + 1))) => law_again (cap := 2) (m := 2) (o := 0) (xs := [0, 0]) l3 (below1 w3 (.cells #[.int .i64 0, .int .i64 0] 2)) (Nat.le_refl _) (by omega) (by omega) hself rfl (by decide) (row_lit .i64 w3 2 [0, 0])
      clear hself
      go_wp2_with (first
        | (go_at_call 10; (with_reducible refine CP.mono ?_); rintro e w3 ⟨rfl, l3⟩; have HL3 := hide l3; clear l3)
        | (go_at_call 10; (with_reducible refine (CA _ HL3.out).mono ?_); rintro e w4 ⟨rfl, l4⟩; have HL4 := hide l4; clear l4))
      go_loopw [50] (fun vb wi => ∃ b : Nat, b ≤ nm ∧ vb = .int .i64 (b : Int) ∧ LawR w wi r (pm + 1) 2 (slideR f a (pm + 1) (k + 1))) (fun vb _ => nm - (intOf vb).toNat)
      case atStart => exact ⟨0, by omega, rfl, HL4.out⟩
      case round =>
        obtain ⟨b, hb, rfl, hl5⟩ := hrel
        have HL5 := hide hl5
        by_cases hbt : b < nm
        · have CR := law_row (j := a + (b : Int)) hl5 (by omega) (by omega)
          rw [slide_at] at CR
          clear hl5
          by_cases h1 : (b : Int) ≤ (k : Int)
          · by_cases h2 : (k : Int) - (1 + (pm : Int)) < (b : Int)
            · have hin : hasJ (slideR f a (pm + 1) (k + 1)) (a + (b : Int)) = true := by
                rw [slide_at, decide_eq_true h1, decide_eq_true h2]; rfl
              rw [slide_row hin, F.out, decide_eq_true h1, decide_eq_true h2, Bool.and_self] at CR
              have q1 := decide_eq_true h1
              have q2 := decide_eq_true h2
              clear hin
              go_wp2_with (go_at_call 14; (with_reducible refine CR.mono ?_); rintro e w6 ⟨v6, rfl, o6, b6⟩; have HL6 := hide (HL5.out.below b6); obtain ⟨g6, cap6, rfl, _, _, r6, _⟩ := own_row (n := 2) o6 rfl (by decide); have c0 : w6.cell? ⟨g6, 0, none⟩ = some (.int .i64 (a + (b : Int))) := r6.at (j := 0) (by simp); have c1 : w6.cell? ⟨g6, 1, none⟩ = some (.int .i64 (-(a + (b : Int)))) := r6.at (j := 1) (by simp); clear o6 b6 r6)
              go_roundw
              case rel => exact ⟨b + 1, by omega, by go_num, HL6.out⟩
              case measure => simp [intOf]; omega
            · rw [decide_eq_false h2, Bool.and_false] at CR
              have q1 := decide_eq_true h1
              have q2 := decide_eq_false h2
              go_wp2_with (go_at_call 14; (with_reducible refine CR.mono ?_); rintro e w6 ⟨v6, rfl, o6, b6⟩; have HL6 := hide (HL5.out.below b6); clear o6 b6)
              go_roundw
              case rel => exact ⟨b + 1, by omega, by go_num, HL6.out⟩
              case measure => simp [intOf]; omega
          · rw [decide_eq_false h1, Bool.false_and] at CR
            have q1 : (k : Int) < (b : Int) := by omega
            clear h1
            go_wp2_with (go_at_call 14; (with_reducible refine CR.mono ?_); rintro e w6 ⟨v6, rfl, o6, b6⟩; have HL6 := hide (HL5.out.below b6); clear o6 b6)
            go_roundw
            case rel => exact ⟨b + 1, by omega, by go_num, HL6.out⟩
            case measure => simp [intOf]; omega
        · clear hl5
          obtain rfl : b = nm := by omega
          clear hb hbt CA CP
          go_wp2
          go_roundw
          case rel => exact ⟨k + 1, by omega, by go_num, HL5.out⟩
          case measure => simp [intOf]; omega
    · obtain rfl : k = nm := by omega
      have L1 := law_len HL.out
      rw [slideR_length] at L1
      by_cases hmk : pm + 1 ≤ k
      · rw [Nat.min_eq_left hmk] at L1
        have q1 : (1 + (pm : Int)) ≤ (k : Int) := by omega
        have e : ((pm : Int) + 1 == 1 + (pm : Int)) = true := by rw [beq_iff_eq]; omega
        have E := hide e
        clear hmk e
        go_wp2_with (go_at_call 13; (with_reducible refine L1.mono ?_); rintro e w5 ⟨rfl, rfl⟩)
        all_goals
          go_ret
          refine ⟨?_, HL.out.bel⟩
          first
            | rfl
            | (show Ending.returned (Value.bool ((pm : Int) + 1 == 1 + (pm : Int))) = _
               rw [E.out])
      · rw [Nat.min_eq_right (by omega)] at L1
        have q1 : (k : Int) < (1 + (pm : Int)) := by omega
        clear hmk
        go_wp2_with (go_at_call 13; (with_reducible refine L1.mono ?_); rintro e w5 ⟨rfl, rfl⟩)
        all_goals
          go_ret
          exact ⟨rfl, HL.out.bel⟩
end Go.Proofs.Ytkkoemcciemloaa
