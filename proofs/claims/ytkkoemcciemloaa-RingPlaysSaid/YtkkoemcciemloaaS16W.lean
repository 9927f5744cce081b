/- The statement on sizes. -/
import Derived.Test.YtkkoemcciemloaaS16P
import Derived.Test.YtkkoemcciemloaaS16Q
namespace Go.Proofs.Ytkkoemcciemloaa
open Go.RowKit


theorem toNat_room (a : Int) : ((roomF a).toNat : Int) = roomF a := Int.toNat_of_nonneg (by have := roomF_in a; omega)
theorem toNat_width (a : Int) : ((widthF a).toNat : Int) = widthF a := Int.toNat_of_nonneg (by have := widthF_in a; omega)
theorem law_room {w0 w : World} {r : Nat} {a b : Int} {L : List (Int × List Int)} (h : LawR w0 w r (roomF a).toNat (widthF b).toNat L) : Calls Try.prog 23 #[.pointer (some ⟨r, 0, none⟩)] w fun e w' => e = .returned (.int .i64 (roomF a)) ∧ w = w' := by
  obtain ⟨_, _, R⟩ := h.at_
  have := rroom_any R
  rw [toNat_room] at this
  exact this
theorem law_width {w0 w : World} {r : Nat} {a b : Int} {L : List (Int × List Int)} (h : LawR w0 w r (roomF a).toNat (widthF b).toNat L) : Calls Try.prog 24 #[.pointer (some ⟨r, 0, none⟩)] w fun e w' => e = .returned (.int .i64 (widthF b)) ∧ w = w' := by
  obtain ⟨_, _, R⟩ := h.at_
  have := rwidth_any R
  rw [toNat_width] at this
  exact this
theorem law_words {w0 w : World} {r : Nat} {a b : Int} {L : List (Int × List Int)} (h : LawR w0 w r (roomF a).toNat (widthF b).toNat L) : Calls Try.prog 25 #[.pointer (some ⟨r, 0, none⟩)] w fun e w' => e = .returned (.int .i64 (roomF a * widthF b)) ∧ Drew w w' := by
  obtain ⟨_, _, R⟩ := h.at_
  have := rwords_any R
  rw [toNat_room, toNat_width] at this
  exact this
theorem mul_in (a b : Int) : 0 ≤ roomF a * widthF b ∧ roomF a * widthF b ≤ 17179869184 := by
  have ra := roomF_in a
  have wb := widthF_in b
  have h := words_in (room := (roomF a).toNat) (width := (widthF b).toNat) (by omega) (by omega)
  rw [toNat_room, toNat_width] at h
  exact ⟨Int.mul_nonneg (by omega) (by omega), h⟩
theorem law_len0 {w0 w : World} {r room width : Nat} (h : LawR w0 w r room width []) : Calls Try.prog 13 #[.pointer (some ⟨r, 0, none⟩)] w fun e w' => e = .returned (.int .i64 0) ∧ w = w' := law_len h
set_option maxHeartbeats 8000000 in
set_option maxRecDepth 100000 in
theorem law_RingSizes (a b : Int) (w : World) (ha : -9223372036854775808 ≤ a ∧ a ≤ 9223372036854775807) (hb : -9223372036854775808 ≤ b ∧ b ≤ 9223372036854775807) :
    Calls Try.prog 6 #[.int .i64 a, .int .i64 b] w fun e w' => e = .returned (.bool true) ∧ Below w.heap.size w w' := by
  obtain ⟨a1, a2⟩ := ha
  obtain ⟨b1, b2⟩ := hb
  have CL := lives16_any w
  have CN := fun (c : Int) (c1 : -9223372036854775808 ≤ c) (c2 : c ≤ 9223372036854775807) (w1 : World) (hb : Below w.heap.size w w1) => law_new hb a c a1 a2 c1 c2
  have CD := fun (c : Int) (w1 : World) => dnew16_any a c w1
  by_cases q1 : 100 < b
  · by_cases q2 : b < 262144
    · have CN := CN 100 (by decide) (by decide)
      have CD := CD 100
      obtain ⟨m0, m1⟩ := mul_in a 100
      obtain ⟨x0, x1⟩ := roomF_in a
      obtain ⟨y0, y1⟩ := widthF_in 100
      have LR := fun (w1 : World) (r : Nat) (h : LawR w w1 r (roomF a).toNat (widthF 100).toNat []) (q : Nat) => hide (And.intro (law_room (h.drewN q)) (And.intro (law_width (h.drewN q)) (And.intro (law_words (h.drewN q)) (law_len0 (h.drewN q)))))
      generalize hx : roomF a = x at *
      generalize hy : widthF 100 = y at *
      have hwr : IntKind.i64.wrap (x * y) = x * y := by
        generalize x * y = p at *
        exact IntWalk.i64_in _ (by omega)
      clear m0 m1 hx hy
      go_enter Try.func6, Try.ntmps6
      go_wp2_with (first
        | (go_at_call 8; (with_reducible refine CL.mono ?_); rintro e w1 ⟨rfl, b1⟩; have HB1 := hide b1; clear b1)
        | (go_at_call 9; (with_reducible refine (CN _ HB1.out).mono ?_); rintro e w2 ⟨r, rfl, l2⟩; have HL2 := hide l2; clear l2)
        | (go_at_call 17; (with_reducible refine (CD _).mono ?_); rintro e w3 ⟨rfl, b3⟩; have HL3 := hide (HL2.out.below b3); have F0 := law_first0 (HL3.out.below (below1 w3 (.cells #[.int .i64 x, .int .i64 y, .slice none 0 0] 38))); have QQ := LR _ _ (HL3.out.below (below1 w3 (.cells #[.int .i64 x, .int .i64 y, .slice none 0 0] 38))); clear b3)
        | (go_at_call 12; (with_reducible refine F0.mono ?_); rintro e w4 ⟨rfl, rfl⟩))
      go_quiet ((first
        | (go_at_call 23; with_reducible exact calmE (QQ _).out.1)
        | (go_at_call 24; with_reducible exact calmE (QQ _).out.2.1)
        | (go_at_call 25; with_reducible exact calmD (QQ _).out.2.2.1)
        | (go_at_call 13; with_reducible exact calmE (QQ _).out.2.2.2)))
      go_wp2
      go_ret
      exact ⟨rfl, bdN (ba HL3.out.bel _) _⟩
    · have q3 : 262144 ≤ b := by omega
      have CN := CN b b1 b2
      have CD := CD b
      obtain ⟨m0, m1⟩ := mul_in a b
      obtain ⟨x0, x1⟩ := roomF_in a
      obtain ⟨y0, y1⟩ := widthF_in b
      have LR := fun (w1 : World) (r : Nat) (h : LawR w w1 r (roomF a).toNat (widthF b).toNat []) (q : Nat) => hide (And.intro (law_room (h.drewN q)) (And.intro (law_width (h.drewN q)) (And.intro (law_words (h.drewN q)) (law_len0 (h.drewN q)))))
      generalize hx : roomF a = x at *
      generalize hy : widthF b = y at *
      have hwr : IntKind.i64.wrap (x * y) = x * y := by
        generalize x * y = p at *
        exact IntWalk.i64_in _ (by omega)
      clear m0 m1 hx hy
      go_enter Try.func6, Try.ntmps6
      go_wp2_with (first
        | (go_at_call 8; (with_reducible refine CL.mono ?_); rintro e w1 ⟨rfl, b1⟩; have HB1 := hide b1; clear b1)
        | (go_at_call 9; (with_reducible refine (CN _ HB1.out).mono ?_); rintro e w2 ⟨r, rfl, l2⟩; have HL2 := hide l2; clear l2)
        | (go_at_call 17; (with_reducible refine (CD _).mono ?_); rintro e w3 ⟨rfl, b3⟩; have HL3 := hide (HL2.out.below b3); have F0 := law_first0 (HL3.out.below (below1 w3 (.cells #[.int .i64 x, .int .i64 y, .slice none 0 0] 38))); have QQ := LR _ _ (HL3.out.below (below1 w3 (.cells #[.int .i64 x, .int .i64 y, .slice none 0 0] 38))); clear b3)
        | (go_at_call 12; (with_reducible refine F0.mono ?_); rintro e w4 ⟨rfl, rfl⟩))
      go_quiet ((first
        | (go_at_call 23; with_reducible exact calmE (QQ _).out.1)
        | (go_at_call 24; with_reducible exact calmE (QQ _).out.2.1)
        | (go_at_call 25; with_reducible exact calmD (QQ _).out.2.2.1)
        | (go_at_call 13; with_reducible exact calmE (QQ _).out.2.2.2)))
      go_wp2
      go_ret
      exact ⟨rfl, bdN (ba HL3.out.bel _) _⟩
  · have q3 : b ≤ 100 := by omega
    have CN := CN b b1 b2
    have CD := CD b
    obtain ⟨m0, m1⟩ := mul_in a b
    obtain ⟨x0, x1⟩ := roomF_in a
    obtain ⟨y0, y1⟩ := widthF_in b
    have LR := fun (w1 : World) (r : Nat) (h : LawR w w1 r (roomF a).toNat (widthF b).toNat []) (q : Nat) => hide (And.intro (law_room (h.drewN q)) (And.intro (law_width (h.drewN q)) (And.intro (law_words (h.drewN q)) (law_len0 (h.drewN q)))))
    generalize hx : roomF a = x at *
    generalize hy : widthF b = y at *
    have hwr : IntKind.i64.wrap (x * y) = x * y := by
      generalize x * y = p at *
      exact IntWalk.i64_in _ (by omega)
    clear m0 m1 hx hy
    go_enter Try.func6, Try.ntmps6
    go_wp2_with (first
      | (go_at_call 8; (with_reducible refine CL.mono ?_); rintro e w1 ⟨rfl, b1⟩; have HB1 := hide b1; clear b1)
      | (go_at_call 9; (with_reducible refine (CN _ HB1.out).mono ?_); rintro e w2 ⟨r, rfl, l2⟩; have HL2 := hide l2; clear l2)
      | (go_at_call 17; (with_reducible refine (CD _).mono ?_); rintro e w3 ⟨rfl, b3⟩; have HL3 := hide (HL2.out.below b3); have F0 := law_first0 (HL3.out.below (below1 w3 (.cells #[.int .i64 x, .int .i64 y, .slice none 0 0] 38))); have QQ := LR _ _ (HL3.out.below (below1 w3 (.cells #[.int .i64 x, .int .i64 y, .slice none 0 0] 38))); clear b3)
      | (go_at_call 12; (with_reducible refine F0.mono ?_); rintro e w4 ⟨rfl, rfl⟩))
    go_quiet ((first
      | (go_at_call 23; with_reducible exact calmE (QQ _).out.1)
      | (go_at_call 24; with_reducible exact calmE (QQ _).out.2.1)
      | (go_at_call 25; with_reducible exact calmD (QQ _).out.2.2.1)
      | (go_at_call 13; with_reducible exact calmE (QQ _).out.2.2.2)))
    go_wp2
    go_ret
    exact ⟨rfl, bdN (ba HL3.out.bel _) _⟩
end Go.Proofs.Ytkkoemcciemloaa
