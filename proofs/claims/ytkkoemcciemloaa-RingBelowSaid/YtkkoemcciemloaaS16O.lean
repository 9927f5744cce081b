/- A ring within a statement; rows one behind the other. The statements on what is below, what is reset, and the example. -/
import Derived.Test.YtkkoemcciemloaaS16N
import Derived.Test.YtkkoemcciemloaaSM
namespace Go.Proofs.Ytkkoemcciemloaa
open Go.RowKit
open Go.Maps (Keyed)
open Go.MapKept Go.ChangeMaps


/-- A ring that a statement made. -/
def LawR (w0 w : World) (r room width : Nat) (L : List (Int × List Int)) : Prop := ∃ base S, w0.heap.size ≤ base ∧ RingAt w base r S room width L ∧ Below w0.heap.size w0 w
theorem LawR.bel {w0 w : World} {r room width : Nat} {L : List (Int × List Int)} (h : LawR w0 w r room width L) : Below w0.heap.size w0 w := by
  obtain ⟨_, _, _, _, b⟩ := h
  exact b
theorem LawR.below {w0 w w' : World} {r room width : Nat} {L : List (Int × List Int)} (h : LawR w0 w r room width L) (hb : Below w.heap.size w w') : LawR w0 w' r room width L := by
  obtain ⟨base, S, h1, h2, h3⟩ := h
  exact ⟨base, S, h1, h2.below hb, h3.trans (hb.mono h3.size)⟩
theorem LawR.drewN {w0 w : World} {r room width : Nat} {L : List (Int × List Int)} (h : LawR w0 w r room width L) (n : Nat) : LawR w0 (w.drewN n) r room width L := h.below (bdN (Below.refl _ _) n)
theorem LawR.at_ {w0 w : World} {r room width : Nat} {L : List (Int × List Int)} (h : LawR w0 w r room width L) : ∃ base S, RingAt w base r S room width L := by
  obtain ⟨base, S, _, h2, _⟩ := h
  exact ⟨base, S, h2⟩
theorem law_new {w0 w : World} (hb : Below w0.heap.size w0 w) (a b : Int) (a1 : -9223372036854775808 ≤ a) (a2 : a ≤ 9223372036854775807) (b1 : -9223372036854775808 ≤ b) (b2 : b ≤ 9223372036854775807) :
    Calls Try.prog 9 #[.int .i64 a, .int .i64 b] w fun e w' => ∃ r, e = .returned (.pointer (some ⟨r, 0, none⟩)) ∧ LawR w0 w' r (roomF a).toNat (widthF b).toNat [] :=
  (rnew_any a b a1 a2 b1 b2 w).mono fun _ _ h => by
    obtain ⟨r, S, h1, h2, h3⟩ := h
    exact ⟨r, h1, _, S, hb.size, h2, hb.trans (h3.mono hb.size)⟩
/-- A row that was made since. -/
theorem law_put {w0 w w1 : World} {r room width : Nat} {L : List (Int × List Int)} {j : Int} {xs : List Int} {n cap g o : Nat} (h : LawR w0 w r room width L) (hb : Below w.heap.size w w1) (hg : w.heap.size ≤ g) (j1 : -9223372036854775808 ≤ j) (j2 : j ≤ 9223372036854775807) (hn : xs.length = n) (hm : n ≤ 9223372036854775807) (hr : RowAt .i64 w1 (some ⟨g, o, none⟩) xs) :
    Calls Try.prog 10 #[.pointer (some ⟨r, 0, none⟩), .int .i64 j, .slice (some ⟨g, o, none⟩) n cap] w1 fun e w' => e = .returned (.bool (putB room width L j n)) ∧ LawR w0 w' r room width (if putB room width L j n = true then putR room L (j, xs) else L) := by
  obtain ⟨base, S, h1, h2, h3⟩ := h
  refine (rput_any j1 j2 (h2.below hb) hn hm hr (fun e => by cases e) (fun a ha hs => ?_)).mono ?_
  · have e : g = a.block := by
      have := Option.some.inj ha
      rw [← this]
    have := h2.hi _ hs
    omega
  · rintro e w' ⟨rfl, S', R, O, s⟩
    refine ⟨rfl, base, S', h1, R, Off.after (h3.trans (hb.mono h3.size)) O (Nat.le_trans h3.size hb.size) (fun k hk => ?_)⟩
    have := h2.lo k hk
    omega
theorem law_reset {w0 w : World} {r room width : Nat} {L : List (Int × List Int)} (h : LawR w0 w r room width L) : Calls Try.prog 11 #[.pointer (some ⟨r, 0, none⟩)] w fun e w' => e = .returned (.tuple #[]) ∧ LawR w0 w' r room width [] := by
  obtain ⟨base, S, h1, h2, h3⟩ := h
  refine (rreset_any h2).mono ?_
  rintro e w' ⟨rfl, S', R, O, s⟩
  refine ⟨rfl, base, S', h1, R, Off.after h3 O h3.size (fun k hk => ?_)⟩
  have := h2.lo k hk
  omega
theorem law_has {w0 w : World} {r room width : Nat} {L : List (Int × List Int)} {j : Int} (h : LawR w0 w r room width L) (j1 : -9223372036854775808 ≤ j) (j2 : j ≤ 9223372036854775807) : Calls Try.prog 26 #[.pointer (some ⟨r, 0, none⟩), .int .i64 j] w fun e w' => e = .returned (.bool (hasJ L j)) ∧ w = w' := by
  obtain ⟨_, _, R⟩ := h.at_
  exact rhas_any j1 j2 R
theorem law_len {w0 w : World} {r room width : Nat} {L : List (Int × List Int)} (h : LawR w0 w r room width L) : Calls Try.prog 13 #[.pointer (some ⟨r, 0, none⟩)] w fun e w' => e = .returned (.int .i64 (L.length : Int)) ∧ w = w' := by
  obtain ⟨_, _, R⟩ := h.at_
  exact rlen_any R
theorem law_first {w0 w : World} {r room width : Nat} {L : List (Int × List Int)} (h : LawR w0 w r room width L) : Calls Try.prog 12 #[.pointer (some ⟨r, 0, none⟩)] w fun e w' => e = .returned (.tuple #[.int .i64 (firstJ L), .bool (!L.isEmpty)]) ∧ w = w' := by
  obtain ⟨_, _, R⟩ := h.at_
  exact rfirst_any R
theorem law_first1 {w0 w : World} {r room width : Nat} {x : Int × List Int} (h : LawR w0 w r room width [x]) : Calls Try.prog 12 #[.pointer (some ⟨r, 0, none⟩)] w fun e w' => e = .returned (.tuple #[.int .i64 x.1, .bool true]) ∧ w = w' := law_first h
theorem law_first0 {w0 w : World} {r room width : Nat} (h : LawR w0 w r room width []) : Calls Try.prog 12 #[.pointer (some ⟨r, 0, none⟩)] w fun e w' => e = .returned (.tuple #[.int .i64 0, .bool false]) ∧ w = w' := law_first h
theorem law_row {w0 w : World} {r room width : Nat} {L : List (Int × List Int)} {j : Int} (h : LawR w0 w r room width L) (j1 : -9223372036854775808 ≤ j) (j2 : j ≤ 9223372036854775807) : Calls Try.prog 14 #[.pointer (some ⟨r, 0, none⟩), .int .i64 j] w fun e w' => ∃ v, e = .returned (.tuple #[v, .bool (hasJ L j)]) ∧ OwnI .i64 2 w' w.heap.size v (rowJ L j) ∧ Below w.heap.size w w' := by
  obtain ⟨_, _, R⟩ := h.at_
  exact rrow_any j1 j2 R
theorem law_next {w0 w : World} {r room width : Nat} {L : List (Int × List Int)} {a b : Int} (h : LawR w0 w r room width L) (a1 : -9223372036854775808 ≤ a) (a2 : a ≤ 9223372036854775807) (b1 : -9223372036854775808 ≤ b) (b2 : b ≤ 9223372036854775807) :
    Calls Try.prog 15 #[.pointer (some ⟨r, 0, none⟩), .int .i64 a, .int .i64 b] w fun e w' => e = .returned (.tuple #[.int .i64 (if nextJ L a b < b then nextJ L a b else 0), .bool (decide (nextJ L a b < b))]) ∧ w = w' := by
  obtain ⟨_, _, R⟩ := h.at_
  exact rnext_any a1 a2 b1 b2 R
theorem row_lit (k : IntKind) (w : World) (T : TypeId) (xs : List Int) : RowAt k (w.alloc (.cells (xs.map (Value.int k)).toArray T)) (some ⟨w.heap.size, 0, none⟩) xs := by
  refine Or.inr ⟨w.heap.size, 0, rfl, fun j hj => ?_⟩
  rw [Nat.zero_add]
  simp [List.getD_eq_getElem?_getD, List.getElem?_eq_getElem hj]
theorem slide_has {f : Int → List Int} {a : Int} {room n : Nat} (j : Int) : hasJ (slideR f a room n) j = (decide (a + ((n - room : Nat) : Int) ≤ j) && decide (j < a + (n : Int))) := by
  rw [Bool.eq_iff_iff, hasJ_iff, Bool.and_eq_true, decide_eq_true_eq, decide_eq_true_eq]
  constructor
  · rintro ⟨y, hy, rfl⟩
    obtain ⟨i, h1, h2, rfl⟩ := slideR_mem.1 hy
    show a + ((n - room : Nat) : Int) ≤ a + (i : Int) ∧ a + (i : Int) < a + (n : Int)
    omega
  · rintro ⟨h1, h2⟩
    exact ⟨_, slideR_mem.2 ⟨(j - a).toNat, by omega, by omega, rfl⟩, by show a + ((j - a).toNat : Int) = j; omega⟩
theorem slide_row {f : Int → List Int} {a : Int} {room n : Nat} {j : Int} (h : hasJ (slideR f a room n) j = true) : rowJ (slideR f a room n) j = f j := by
  obtain ⟨i, _, _, e⟩ := slideR_mem.1 (rowJ_mem h)
  injection e with e1 e2
  rw [e2, ← e1]
theorem slide_put {f : Int → List Int} {a : Int} {room width n : Nat} (h1 : 1 ≤ room) : putB room width (slideR f a room n) (a + (n : Int)) width = true := by
  unfold putB
  rw [slide_has, decide_eq_true rfl, decide_eq_false (show ¬ a + (n : Int) < a + (n : Int) by omega), Bool.and_false]
  cases hL : slideR f a room n with
  | nil =>
    rw [decide_eq_false (show ¬ ([] : List (Int × List Int)).length = room by simp; omega)]; rfl
  | cons y r =>
    have hy : y ∈ slideR f a room n := by rw [hL]; exact List.mem_cons_self ..
    obtain ⟨i, _, h2, rfl⟩ := slideR_mem.1 hy
    rw [decide_eq_false (show ¬ a + (n : Int) < firstJ ((a + (i : Int), f (a + (i : Int))) :: r) by show ¬ a + (n : Int) < a + (i : Int); omega)]
    simp
theorem slide_nil (f : Int → List Int) (a : Int) (room : Nat) : slideR f a room 0 = [] := by simp [slideR]
/-- The next row is put. -/
theorem law_slide {w0 w w1 : World} {r room width n : Nat} {f : Int → List Int} {a : Int} {cap g o : Nat} (h : LawR w0 w r room width (slideR f a room n)) (hb : Below w.heap.size w w1) (hg : w.heap.size ≤ g) (j1 : -9223372036854775808 ≤ a + (n : Int)) (j2 : a + (n : Int) ≤ 9223372036854775807) (hn : (f (a + (n : Int))).length = width) (hr : RowAt .i64 w1 (some ⟨g, o, none⟩) (f (a + (n : Int)))) :
    Calls Try.prog 10 #[.pointer (some ⟨r, 0, none⟩), .int .i64 (a + (n : Int)), .slice (some ⟨g, o, none⟩) width cap] w1 fun e w' => e = .returned (.bool true) ∧ LawR w0 w' r room width (slideR f a room (n + 1)) := by
  obtain ⟨_, _, R⟩ := h.at_
  have h1 := R.ok.r1
  have hw := R.ok.wd
  refine (law_put h hb hg j1 j2 hn (by omega) hr).mono ?_
  rintro e w' ⟨rfl, h'⟩
  rw [slide_put h1, if_pos rfl, slideR_step h1] at h'
  exact ⟨by rw [slide_put h1], h'⟩
theorem ptr_nil (r : Nat) (w : World) : (binOp .eql 23 (.pointer (some ⟨r, 0, none⟩)) (.pointer none)).run Try.prog w = .ok (.bool false) w := by kernel_rfl
set_option maxHeartbeats 4000000 in
theorem lives16_any (w : World) : Calls Try.prog 8 #[] w fun e w' => e = .returned (.bool true) ∧ Below w.heap.size w w' := by
  have CN := law_new (Below.refl w.heap.size w) 2 1 (by decide) (by decide) (by decide) (by decide)
  rw [show (roomF 2).toNat = 2 by decide, show (widthF 1).toNat = 1 by decide] at CN
  have hp := ptr_nil
  obtain ⟨f, hf⟩ : ∃ f : Int → List Int, f = fun j => [j - 5] := ⟨_, rfl⟩
  have F := hide (fun (j : Int) => (show f j = [j - 5] by rw [hf]))
  clear hf
  go_enter Try.func8, Try.ntmps8
  go_wp2_with (go_at_call 9; (with_reducible refine CN.mono ?_); rintro e w1 ⟨r, rfl, l1⟩; have HL1 := hide l1; clear l1)
  go_loopw [8] (fun vk wr => ∃ k : Nat, k ≤ 3 ∧ vk = .int .i64 (k : Int) ∧ LawR w wr r 2 1 (slideR f 5 2 k)) (fun vk _ => 3 - (intOf vk).toNat)
  case atStart => exact ⟨0, by omega, rfl, by rw [slide_nil]; exact HL1.out⟩
  case round =>
    obtain ⟨k, hk, rfl, hl⟩ := hrel
    have HL := hide hl
    clear hl
    by_cases hlt : k < 3
    · have CP := law_slide (cap := 1) (o := 0) (n := k) HL.out (below1 wr (.cells #[.int .i64 (k : Int)] 2)) (Nat.le_refl _) (by omega) (by omega) (by rw [F.out]; rfl) (by rw [F.out, show (5 : Int) + (k : Int) - 5 = (k : Int) by omega]; exact row_lit .i64 wr 2 [(k : Int)])
      go_wp2_with (go_at_call 10; (with_reducible refine CP.mono ?_); rintro e w2 ⟨rfl, l2⟩; have HL2 := hide l2; clear l2)
      go_roundw
      case rel => exact ⟨k + 1, by omega, by go_num, HL2.out⟩
      case measure => simp [intOf]; omega
    · obtain rfl : k = 3 := by omega
      have h5 : hasJ (slideR f 5 2 3) 5 = false := by rw [slide_has]; decide
      have h6 : hasJ (slideR f 5 2 3) 6 = true := by rw [slide_has]; decide
      have h7 : hasJ (slideR f 5 2 3) 7 = true := by rw [slide_has]; decide
      have C5 := law_has (j := 5) HL.out (by decide) (by decide)
      have C6 := law_has (j := 6) HL.out (by decide) (by decide)
      have C7 := law_has (j := 7) HL.out (by decide) (by decide)
      have CX := law_next (a := 5) (b := 9) HL.out (by decide) (by decide) (by decide) (by decide)
      rw [h5] at C5
      rw [h6] at C6
      rw [h7] at C7
      have hx : nextJ (slideR f 5 2 3) 5 9 = 5 := by
        apply next_above
        intro z hz
        obtain ⟨i, h1, h2, rfl⟩ := slideR_mem.1 hz
        show (5 : Int) < 5 + (i : Int)
        omega
      rw [hx, if_pos (by decide), decide_eq_true (by decide)] at CX
      clear h5 h6 h7 hx
      go_wp2_with (first
        | (go_at_call 15; (with_reducible refine CX.mono ?_); rintro e w2 ⟨rfl, rfl⟩)
        | (go_at_call 26; (with_reducible refine C5.mono ?_); rintro e w2 ⟨rfl, rfl⟩)
        | (go_at_call 26; (with_reducible refine C6.mono ?_); rintro e w2 ⟨rfl, rfl⟩)
        | (go_at_call 26; (with_reducible refine C7.mono ?_); rintro e w2 ⟨rfl, rfl⟩))
      go_ret
      exact ⟨rfl, HL.out.bel⟩
end Go.Proofs.Ytkkoemcciemloaa
