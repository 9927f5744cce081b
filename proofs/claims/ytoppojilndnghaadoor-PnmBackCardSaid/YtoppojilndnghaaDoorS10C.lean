/- The document's heads: blanks, what a text begins with. -/
import Derived.Test.YtoppojilndnghaaDoorLT
import Derived.Test.YtoppojilndnghaaDoorS10B
import Derived.Deep.RegionHeld3
import Derived.BigQuiet
namespace Go.Proofs.YtoppojilndnghaaDoor
open Go.RowKit


theorem dblank_any (x : Int) (w : World) : Calls Tryd.prog 48 #[.int .u8 x] w fun e w' => e = .returned (.bool (blankF x)) ∧ w = w' := by
  by_cases h : blankF x = true
  · rw [h]
    rcases blankF_iff.1 h with rfl | rfl | rfl | rfl | rfl | rfl
    all_goals
      clear h
      go_enter Tryd.func48, Tryd.ntmps48
      go_wp2
      go_ret
      exact ⟨rfl, rfl⟩
  · have e : blankF x = false := by simpa using h
    rw [e]
    have hn := fun g => h (blankF_iff.2 g)
    have e9 : (x == 9) = false := beq_eq_false_iff_ne.2 (fun g => hn (.inl g))
    have e10 : (x == 10) = false := beq_eq_false_iff_ne.2 (fun g => hn (.inr (.inl g)))
    have e11 : (x == 11) = false := beq_eq_false_iff_ne.2 (fun g => hn (.inr (.inr (.inl g))))
    have e12 : (x == 12) = false := beq_eq_false_iff_ne.2 (fun g => hn (.inr (.inr (.inr (.inl g)))))
    have e13 : (x == 13) = false := beq_eq_false_iff_ne.2 (fun g => hn (.inr (.inr (.inr (.inr (.inl g))))))
    have e32 : (x == 32) = false := beq_eq_false_iff_ne.2 (fun g => hn (.inr (.inr (.inr (.inr (.inr g))))))
    clear h e hn
    go_enter Tryd.func48, Tryd.ntmps48
    go_wp2
    go_ret
    exact ⟨rfl, rfl⟩
theorem dover_any (s : ByteArray) (w : World) : Calls Tryd.prog 46 #[.string s] w fun e w' => ∃ t, e = .returned (.tuple #[.string t, .bool (overF false false (byt s)).2]) ∧ byt t = (overF false false (byt s)).1 ∧ w = w' := by
  obtain ⟨L, hL⟩ : ∃ L, overF false false (byt s) = L := ⟨_, rfl⟩
  rw [hL]
  have HL := hide hL
  clear hL
  go_enter Tryd.func46, Tryd.ntmps46
  go_wp2
  go_loopw [0, 4, 5] (fun a b c wr => ∃ (t : ByteArray) (m r : Bool), a = .string t ∧ b = .bool m ∧ c = .bool r ∧ Hid (overF r m (byt t) = L) ∧ w = wr) (fun a _ _ _ => lenOfV a)
  case atStart => exact ⟨s, false, false, rfl, rfl, rfl, HL, rfl⟩
  case round =>
    obtain ⟨t, m, r, rfl, rfl, rfl, ho, rfl⟩ := hrel
    cases hb : byt t with
    | nil =>
      have he : t.toList.isEmpty = true := by rw [byt_empty, hb]; rfl
      have HB := hide hb
      have h1 := ho.out
      rw [hb, over_nil] at h1
      have H1 := hide h1.symm
      clear hb h1
      go_wp2
      exact bodyPost_ret (v := .tuple #[.string t, .bool m]) (by simp [results, Tryd.results46, go_sem]) rfl ⟨t, by rw [H1.out], by rw [H1.out]; exact HB.out, rfl⟩
    | cons x u =>
      have he : t.toList.isEmpty = false := by rw [byt_empty, hb]; rfl
      obtain ⟨h0, hx, v, hv, hvb, hvl⟩ := byt_cons hb
      have HB := hide hb
      have h1 := ho.out
      rw [hb] at h1
      cases r with
      | true =>
        have h2 : overF (decide (x ≠ 10 ∧ x ≠ 13)) true (byt v) = L := by rw [hvb, ← h1]; rfl
        by_cases hs : x = 10 ∨ x = 13
        · have H1 := hide (show overF false true (byt v) = L by rw [← h2, decide_eq_false (by omega)])
          clear hb h1 hvb h2
          rcases hs with rfl | rfl
          all_goals
            go_wp2
            go_roundw
            case rel => exact ⟨v, true, _, rfl, rfl, rfl, H1, trivial⟩
            case measure => exact hvl
        · have H1 := hide (show overF true true (byt v) = L by rw [← h2, decide_eq_true (by omega)])
          have e10 : (x != 10) = true := bne_iff_ne.2 (by omega)
          have e13 : (x != 13) = true := bne_iff_ne.2 (by omega)
          clear hb h1 hvb h2 hs
          go_wp2
          go_roundw
          case rel => exact ⟨v, true, _, rfl, rfl, rfl, H1, trivial⟩
          case measure => exact hvl
      | false =>
        by_cases h35 : x = 35
        · subst h35
          have H1 := hide (show overF true true (byt v) = L by rw [hvb, ← h1, over_hash])
          clear hb h1 hvb
          go_wp2
          go_roundw
          case rel => exact ⟨v, true, true, rfl, rfl, rfl, H1, trivial⟩
          case measure => exact hvl
        · have e35 : (x == 35) = false := beq_eq_false_iff_ne.2 h35
          cases hbl : blankF x with
          | true =>
            have CB := dblank_any x
            rw [hbl] at CB
            have H1 := hide (show overF false true (byt v) = L by rw [hvb, ← h1, over_blank hbl])
            clear hb h1 hvb hbl h35
            go_wp2_with (go_at_call 48; (with_reducible refine (CB _).mono ?_); rintro e w1 ⟨rfl, rfl⟩)
            go_roundw
            case rel => exact ⟨v, true, false, rfl, rfl, rfl, H1, trivial⟩
            case measure => exact hvl
          | false =>
            have CB := dblank_any x
            rw [hbl] at CB
            have H1 := hide (show (x :: u, m) = L by rw [← h1]; show _ = (if x = 35 then _ else if blankF x = true then _ else (x :: u, m)); rw [if_neg h35, if_neg (by rw [hbl]; decide)])
            clear hb h1 hvb hbl h35
            go_wp2_with (go_at_call 48; (with_reducible refine (CB _).mono ?_); rintro e w1 ⟨rfl, rfl⟩)
            exact bodyPost_ret (v := .tuple #[.string t, .bool m]) (by simp [results, Tryd.results46, go_sem]) rfl ⟨t, by rw [← H1.out], by rw [← H1.out]; exact HB.out, rfl⟩
theorem ddigits_any (s : ByteArray) (w : World) : Calls Tryd.prog 47 #[.string s] w fun e w' => ∃ t, e = .returned (.tuple #[.int .i64 (digitsF 0 (byt s)).1, .string t]) ∧ byt t = (digitsF 0 (byt s)).2 ∧ w = w' := by
  obtain ⟨L, hL⟩ : ∃ L, digitsF 0 (byt s) = L := ⟨_, rfl⟩
  rw [hL]
  have HL := hide hL
  clear hL
  go_enter Tryd.func47, Tryd.ntmps47
  go_wp2
  go_loopw [0, 4] (fun a b wr => ∃ (t : ByteArray) (n : Int), a = .string t ∧ b = .int .i64 n ∧ 0 ≤ n ∧ n ≤ 1000000000 ∧ Hid (digitsF n (byt t) = L) ∧ w = wr) (fun a _ _ => lenOfV a)
  case atStart => exact ⟨s, 0, rfl, rfl, by omega, by omega, HL, rfl⟩
  case round =>
    obtain ⟨t, n, rfl, rfl, n0, n1, ho, rfl⟩ := hrel
    cases hb : byt t with
    | nil =>
      have he : t.toList.isEmpty = true := by rw [byt_empty, hb]; rfl
      have HB := hide hb
      have h1 := ho.out
      rw [hb] at h1
      have H1 := hide (show (n, []) = L from h1)
      clear hb h1
      go_wp2
      exact bodyPost_ret (v := .tuple #[.int .i64 n, .string t]) (by simp [results, Tryd.results47, go_sem]) rfl ⟨t, by rw [← H1.out], by rw [← H1.out]; exact HB.out, rfl⟩
    | cons x u =>
      have he : t.toList.isEmpty = false := by rw [byt_empty, hb]; rfl
      have hin := byt_in t x (by rw [hb]; exact List.mem_cons_self)
      obtain ⟨h0, hx, v, hv, hvb, hvl⟩ := byt_cons hb
      have HB := hide hb
      have h1 := ho.out
      rw [hb] at h1
      replace h1 : (if digitF x = true then digitsF (min (10 * n + (x - 48)) 1000000000) u else (n, x :: u)) = L := h1
      by_cases hd : digitF x = true
      · rw [if_pos hd] at h1
        obtain ⟨d0, d1⟩ := digitF_iff.1 hd
        have H1 := hide (show digitsF (min (10 * n + (x - 48)) 1000000000) (byt v) = L by rw [hvb]; exact h1)
        clear hb h1 hvb hd
        by_cases hq : 1000000000 < 10 * n + (x - 48)
        · go_wp2
          go_roundw
          case rel => exact ⟨v, 1000000000, rfl, rfl, by omega, by omega, (by have := H1.out; rw [show min (10 * n + (x - 48)) 1000000000 = 1000000000 by omega] at this; exact this), trivial⟩
          case measure => exact hvl
        · go_wp2
          go_roundw
          case rel => exact ⟨v, 10 * n + (x - 48), rfl, rfl, by omega, by omega, (by have := H1.out; rw [show min (10 * n + (x - 48)) 1000000000 = 10 * n + (x - 48) by omega] at this; exact this), trivial⟩
          case measure => exact hvl
      · rw [if_neg hd] at h1
        have H1 := hide h1
        have hn : x < 48 ∨ (48 ≤ x ∧ 57 < x) := by
          by_cases a : x < 48
          · exact .inl a
          · exact .inr ⟨by omega, by
              by_cases b : 57 < x
              · exact b
              · exact absurd (digitF_iff.2 ⟨by omega, by omega⟩) hd⟩
        clear hb h1 hvb hd
        rcases hn with hn | ⟨hn, hn'⟩
        all_goals
          go_wp2
          exact bodyPost_ret (v := .tuple #[.int .i64 n, .string t]) (by simp [results, Tryd.results47, go_sem]) rfl ⟨t, by rw [← H1.out], by rw [← H1.out]; exact HB.out, rfl⟩
end Go.Proofs.YtoppojilndnghaaDoor
