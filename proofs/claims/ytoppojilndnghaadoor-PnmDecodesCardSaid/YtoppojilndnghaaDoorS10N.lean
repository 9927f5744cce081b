/- The program's heads: blanks, digits, the first two bytes. -/
import Derived.Test.YtoppojilndnghaaDoorS10F
import Derived.Test.YtoppojilndnghaaDoorS10M
import Derived.Test.YtoppojilndnghaaDoorLJ
namespace Go.Proofs.YtoppojilndnghaaDoor
open Go.RowKit


theorem hblank_any (x : Int) (w : World) : Calls Tryd.prog 44 #[.int .u8 x] w fun e w' => e = .returned (.bool (blankF x)) ∧ w = w' := by
  by_cases a : x < 9
  · have e : (x == 32) = false := beq_eq_false_iff_ne.2 (by omega)
    rw [show blankF x = false from Bool.eq_false_iff.2 (fun h => by have := blankF_iff.1 h; omega)]
    go_enter Tryd.func44, Tryd.ntmps44
    go_wp2
    go_ret
    exact ⟨rfl, rfl⟩
  · have a' : 9 ≤ x := by omega
    by_cases b : x ≤ 13
    · rw [show blankF x = true from blankF_iff.2 (by omega)]
      clear a
      go_enter Tryd.func44, Tryd.ntmps44
      go_wp2
      go_ret
      exact ⟨rfl, rfl⟩
    · have b' : 13 < x := by omega
      by_cases c : x = 32
      · subst c
        rw [show blankF 32 = true by decide]
        go_enter Tryd.func44, Tryd.ntmps44
        go_wp2
        go_ret
        exact ⟨rfl, rfl⟩
      · have e : (x == 32) = false := beq_eq_false_iff_ne.2 c
        rw [show blankF x = false from Bool.eq_false_iff.2 (fun h => by have := blankF_iff.1 h; omega)]
        clear a b c
        go_enter Tryd.func44, Tryd.ntmps44
        go_wp2
        go_ret
        exact ⟨ret_bool (decide_eq_false (by omega)), rfl⟩
theorem hdigit_any (x : Int) (w : World) : Calls Tryd.prog 56 #[.int .u8 x] w fun e w' => e = .returned (.bool (digitF x)) ∧ w = w' := by
  by_cases a : x < 48
  · rw [show digitF x = false from Bool.eq_false_iff.2 (fun h => by have := digitF_iff.1 h; omega)]
    go_enter Tryd.func56, Tryd.ntmps56
    go_wp2
    go_ret
    exact ⟨rfl, rfl⟩
  · have a' : 48 ≤ x := by omega
    by_cases b : x ≤ 57
    · rw [show digitF x = true from digitF_iff.2 (by omega)]
      clear a
      go_enter Tryd.func56, Tryd.ntmps56
      go_wp2
      go_ret
      first | exact ⟨rfl, rfl⟩ | exact ⟨ret_bool (decide_eq_true (by omega)), rfl⟩
    · have b' : 57 < x := by omega
      rw [show digitF x = false from Bool.eq_false_iff.2 (fun h => by have := digitF_iff.1 h; omega)]
      clear a b
      go_enter Tryd.func56, Tryd.ntmps56
      go_wp2
      go_ret
      first | exact ⟨rfl, rfl⟩ | exact ⟨ret_bool (decide_eq_false (by omega)), rfl⟩
/-- The channels that the first two bytes stand for. -/
def magicF (xs : List Int) : Int := if 2 ≤ xs.length ∧ xs.getD 0 0 = 80 ∧ (xs.getD 1 0 = 53 ∨ xs.getD 1 0 = 54) then (if xs.getD 1 0 = 54 then 3 else 1) else 0
theorem hmagic_any (xs : List Int) (n : Nat) (hn : xs.length = n) (h9 : n ≤ 1048576) (ad : Option Addr) (cap : Nat) (w : World) (hr : RowAt .u8 w ad xs) :
    Calls Tryd.prog 42 #[.slice ad n cap] w fun e w' => e = .returned (.int .i64 (magicF xs)) ∧ w = w' := by
  by_cases h2 : n < 2
  · rw [show magicF xs = 0 by unfold magicF; rw [if_neg (by omega)]]
    clear hr hn
    go_enter Tryd.func42, Tryd.ntmps42
    go_wp2
    go_ret
    exact ⟨rfl, rfl⟩
  · have h2' : 2 ≤ n := by omega
    obtain ⟨b, off, rfl, c0⟩ := hr.get (j := 0) (by omega)
    have c1 := hr.at (j := 1) (by omega)
    rw [Nat.add_zero] at c0
    have hm : magicF xs = if xs.getD 0 0 = 80 ∧ (xs.getD 1 0 = 53 ∨ xs.getD 1 0 = 54) then (if xs.getD 1 0 = 54 then 3 else 1) else 0 := by
      unfold magicF
      rw [hn]
      simp only [h2', true_and]
    rw [hm]
    clear hm hr hn h2
    generalize xs.getD 0 0 = x at *
    generalize xs.getD 1 0 = y at *
    by_cases hx : x = 80
    · subst hx
      by_cases h5 : y = 53
      · subst h5
        simp only [true_and, true_or, if_true, show ¬ ((53 : Int) = 54) by decide, if_false]
        go_enter Tryd.func42, Tryd.ntmps42
        go_wp2
        go_ret
        exact ⟨rfl, rfl⟩
      · by_cases h6 : y = 54
        · subst h6
          simp only [true_and, or_true, if_true]
          go_enter Tryd.func42, Tryd.ntmps42
          go_wp2
          go_ret
          exact ⟨rfl, rfl⟩
        · rw [if_neg (by omega)]
          have e5 : (y == 53) = false := beq_eq_false_iff_ne.2 h5
          have e6 : (y == 54) = false := beq_eq_false_iff_ne.2 h6
          clear h5 h6
          go_enter Tryd.func42, Tryd.ntmps42
          go_wp2
          go_ret
          exact ⟨rfl, rfl⟩
    · rw [if_neg (by omega)]
      have e0 : (x != 80) = true := bne_iff_ne.2 hx
      clear hx c1
      go_enter Tryd.func42, Tryd.ntmps42
      go_wp2
      go_ret
      exact ⟨rfl, rfl⟩
set_option maxHeartbeats 1000000 in
theorem hnumber_any (xs : List Int) (n : Nat) (hn : xs.length = n) (h9 : n ≤ 1048576) (hx : ∀ x ∈ xs, 0 ≤ x ∧ x ≤ 255) (ad : Option Addr) (cap : Nat) (w : World) (hr : RowAt .u8 w ad xs) (i : Nat) (hi : i ≤ n) :
    Calls Tryd.prog 57 #[.slice ad n cap, .int .i64 (i : Int)] w fun e w' => ∃ j : Nat, e = .returned (.tuple #[.int .i64 (digitsF 0 (xs.drop i)).1, .int .i64 (j : Int)]) ∧ i ≤ j ∧ j ≤ n ∧ xs.drop j = (digitsF 0 (xs.drop i)).2 ∧ w = w' := by
  obtain ⟨L, hL⟩ : ∃ L, digitsF 0 (xs.drop i) = L := ⟨_, rfl⟩
  rw [hL]
  have HL := hide hL
  have HN := hide hn
  have HX := hide hx
  have HR := hide hr
  clear hL hn hx hr
  go_enter Tryd.func57, Tryd.ntmps57
  go_wp2
  go_loop [1, 6] (fun a b => ∃ (j : Nat) (v : Int), a = .int .i64 (j : Int) ∧ b = .int .i64 v ∧ i ≤ j ∧ j ≤ n ∧ 0 ≤ v ∧ v ≤ 1000000000 ∧ Hid (digitsF v (xs.drop j) = L)) (fun a _ => n - (intOf a).toNat)
  case atStart => exact ⟨i, 0, rfl, rfl, Nat.le_refl _, hi, by omega, by omega, HL⟩
  case round =>
    clear HL
    obtain ⟨j, v, rfl, rfl, hij, hj, v0, v1, hd⟩ := hrel
    by_cases hlt : j < n
    · obtain ⟨b, off, rfl, c⟩ := HR.out.get (j := j) (by rw [HN.out]; exact hlt)
      have hxb := HX.out (xs.getD j 0) (by rw [List.getD_eq_getElem?_getD, List.getElem?_eq_getElem (by rw [HN.out]; exact hlt)]; exact List.getElem_mem _)
      have CD := fun w => hdigit_any (xs.getD j 0) w
      cases hq : digitF (xs.getD j 0) with
      | true =>
        rw [hq] at CD
        have h1 := hd.out
        rw [digitsAt_more (by rw [HN.out]; exact hlt) hq] at h1
        have hqd := digitF_iff.1 hq
        have H1 := hide h1
        clear h1 hd hq
        generalize xs.getD j 0 = x at *
        obtain ⟨d0, d1⟩ := hqd
        obtain ⟨x0, x1⟩ := hxb
        by_cases hm : 1000000000 < 10 * v + (x - 48)
        · have hm1 : ¬ 10 * v + (x - 48) ≤ 1000000000 := by omega
          go_wp2_with (go_at_call 56; (with_reducible refine (CD _).mono ?_); rintro e w2 ⟨rfl, rfl⟩)
          go_round
          case rel => exact ⟨j + 1, 1000000000, by go_num, rfl, by omega, by omega, by omega, by omega, (by have := H1.out; rw [show min (10 * v + (x - 48)) 1000000000 = 1000000000 by omega] at this; exact hide this)⟩
          case measure => simp [intOf]; omega
        · go_wp2_with (go_at_call 56; (with_reducible refine (CD _).mono ?_); rintro e w2 ⟨rfl, rfl⟩)
          go_round
          case rel => exact ⟨j + 1, 10 * v + (x - 48), by go_num, rfl, by omega, by omega, by omega, by omega, (by have := H1.out; rw [show min (10 * v + (x - 48)) 1000000000 = 10 * v + (x - 48) by omega] at this; exact hide this)⟩
          case measure => simp [intOf]; omega
      | false =>
        rw [hq] at CD
        have h1 := hd.out
        rw [digitsAt_end (.inr hq)] at h1
        have H1 := hide h1
        clear h1 hd hq
        generalize xs.getD j 0 = x at *
        go_wp2_with (go_at_call 56; (with_reducible refine (CD _).mono ?_); rintro e w2 ⟨rfl, rfl⟩)
        exact bodyPost_ret (v := .tuple #[.int .i64 v, .int .i64 (j : Int)]) (by simp [results, Tryd.results57, go_sem]) rfl ⟨j, by rw [← H1.out], hij, hj, by rw [← H1.out], rfl⟩
    · obtain rfl : j = n := by omega
      have h1 := hd.out
      rw [digitsAt_end (.inl (by rw [HN.out]; exact Nat.le_refl _))] at h1
      have H1 := hide h1
      clear h1 hd hlt
      go_wp2
      exact bodyPost_ret (v := .tuple #[.int .i64 v, .int .i64 (j : Int)]) (by simp [results, Tryd.results57, go_sem]) rfl ⟨j, by rw [← H1.out], hij, hj, by rw [← H1.out], rfl⟩
end Go.Proofs.YtoppojilndnghaaDoor
