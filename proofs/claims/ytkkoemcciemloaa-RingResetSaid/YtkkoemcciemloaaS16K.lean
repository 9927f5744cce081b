/- The least row that a ring doesn't hold; a ring made, and emptied. -/
import Derived.Test.YtkkoemcciemloaaS16J
namespace Go.Proofs.Ytkkoemcciemloaa
open Go.RowKit
open Go.Maps (Keyed)
open Go.MapKept Go.ChangeMaps


set_option maxHeartbeats 4000000 in
theorem rnext_any {w : World} {base r : Nat} {S : Nat → Prop} {room width : Nat} {L : List (Int × List Int)} {a b : Int} (a1 : -9223372036854775808 ≤ a) (a2 : a ≤ 9223372036854775807) (b1 : -9223372036854775808 ≤ b) (b2 : b ≤ 9223372036854775807) (R : RingAt w base r S room width L) :
    Calls Try.prog 15 #[.pointer (some ⟨r, 0, none⟩), .int .i64 a, .int .i64 b] w fun e w' => e = .returned (.tuple #[.int .i64 (if nextJ L a b < b then nextJ L a b else 0), .bool (decide (nextJ L a b < b))]) ∧ w = w' := by
  obtain ⟨n1, n2, n3, n4⟩ := next_facts R.ok.rising a b
  have HR := hide R
  have HN3 := hide n3
  have HN4 := hide n4
  have HN2 := hide n2
  generalize nextJ L a b = x at *
  obtain ⟨v1, hv1⟩ : ∃ v1, Value.tuple #[.int .i64 (if x < b then x else 0), .bool (decide (x < b))] = v1 := ⟨_, rfl⟩
  rw [hv1]
  have HV := hide hv1
  clear R n2 n3 n4 hv1
  go_enter Try.func15, Try.ntmps15
  go_wp2
  go_loopw [8] (fun vj wr => ∃ j : Int, vj = .int .i64 j ∧ a ≤ j ∧ j ≤ x ∧ wr = w) (fun vj _ => (x - intOf vj).toNat)
  case atStart => exact ⟨a, rfl, Int.le_refl _, n1, rfl⟩
  case round =>
    obtain ⟨j, rfl, h1, h2, rfl⟩ := hrel
    by_cases hb : j < b
    · have CH := rhas_any (j := j) (by omega) (by omega) HR.out
      by_cases hx : j < x
      · rw [HN3.out j h1 hx] at CH
        go_wp2_with (go_at_call 26; (with_reducible refine CH.mono ?_); rintro e w2 ⟨rfl, rfl⟩)
        go_roundw
        case rel => exact ⟨j + 1, by go_num, by omega, by omega, by first | rfl | trivial⟩
        case measure => simp [intOf]; omega
      · obtain rfl : j = x := by omega
        rw [HN4.out hb] at CH
        go_wp2_with (go_at_call 26; (with_reducible refine CH.mono ?_); rintro e w2 ⟨rfl, rfl⟩)
        go_ret2
        exact ⟨by rw [← HV.out, if_pos hb, decide_eq_true hb]; rfl, rfl⟩
    · have hx : ¬ x < b := by
        have := HN2.out
        omega
      go_wp2
      go_ret2
      exact ⟨by rw [← HV.out, if_neg (by omega), decide_eq_false (show ¬ x < b by omega)]; rfl, rfl⟩
theorem rising_nil : RisingR [] := List.Pairwise.nil
/-- A ring that holds nothing. -/
theorem RMem.none {w : World} {base r : Nat} {S : Nat → Prop} {m : Nat} (c2 : w.cell? ⟨r, 2, none⟩ = some (.map (some m))) (sm : S m) (mr : m ≠ r) (c3 : w.cell? ⟨r, 3, none⟩ = some (.slice none 0 0)) (hm : w.ownsMap Try.prog 2 heldR m 0 (.map [])) :
    RMem w base r S [] m (.slice none 0 0) [] (.map []) (fun _ => .slice none 0 0) where
  c2 := c2
  sm := sm
  mr := mr
  c3 := c3
  nums := OwnI.nil _ _ _ _
  vb := fun g hg => by cases hg
  perm := List.Perm.refl _
  heap := heap_nil
  map := hm
  size := rfl
  has := fun _ => rfl
  at_ := fun x hx => by cases hx
  rows := fun x hx => by cases hx
  blk := fun x hx => by cases hx
  apart := fun x hx => by cases hx
theorem none_ok {room width : Nat} (r1 : 1 ≤ room) (r2 : room ≤ 65536) (wd : width ≤ 262144) : RingOk room width [] := ⟨rising_nil, Nat.zero_le _, r1, r2, wd, fun x hx => by cases hx⟩
set_option maxHeartbeats 4000000 in
theorem rreset_any {w : World} {base r : Nat} {S : Nat → Prop} {room width : Nat} {L : List (Int × List Int)} (R : RingAt w base r S room width L) :
    Calls Try.prog 11 #[.pointer (some ⟨r, 0, none⟩)] w fun e w' => e = .returned (.tuple #[]) ∧ ∃ S', RingAt w' base r S' room width [] ∧ Off S w w' ∧ ∀ k, S' k → S k ∨ w.heap.size ≤ k := by
  obtain ⟨m, v, h, D, V, M⟩ := R.mem
  have hr := R.hi r R.sr
  have f2 := R.fr 2
  have f3 := R.fr 3
  have c2 := M.c2
  have c3 := M.c3
  have d2 := ca (ob := .map #[] 0) hr c2
  have d3 := ca (ob := .map #[] 0) hr c3
  have g2 := fa (ob := .map #[] 0) hr f2
  have g3 := fa (ob := .map #[] 0) hr f3
  have HR := hide R
  have HL := hide hr
  have hmm := @run_makeMap Try.prog
  clear M R hr
  go_enter Try.func11, Try.ntmps11
  go_wp2
  go_end0
  have R := HR.out
  have hr := HL.out
  have hm := World.ownsMap_made w Try.prog 2 heldR
  have hO : Off S w (((w.alloc (.map #[] 0)).setCell ⟨r, 2, none⟩ (.map (some w.heap.size))).setCell ⟨r, 3, none⟩ (.slice none 0 0)) := (((Off.refl S w).alloc _).set (fun _ => R.sr) _).set (fun _ => R.sr) _
  have base_le : base ≤ w.heap.size := Nat.le_trans (R.lo r R.sr) (Nat.le_of_lt hr)
  refine ⟨rfl, fun k => k = r ∨ k = w.heap.size, ?_, hO, fun k hk => ?_⟩
  · refine ⟨none_ok R.ok.r1 R.ok.r2 R.ok.wd, fun k hk => ?_, fun k hk => ?_, Or.inl rfl, ?_, ?_, fun o => ?_, w.heap.size, .slice none 0 0, [], .map [], fun _ => .slice none 0 0, ?_⟩
    · rcases hk with rfl | rfl
      · exact R.lo _ R.sr
      · exact base_le
    · simp only [World.setCell, World.alloc, Array.size_modify, Array.size_push]
      rcases hk with rfl | rfl <;> omega
    · rw [World.cell?_setCell_other _ _ _ _ (by simp), World.cell?_setCell_other _ _ _ _ (by simp)]
      exact ca hr R.c0
    · rw [World.cell?_setCell_other _ _ _ _ (by simp), World.cell?_setCell_other _ _ _ _ (by simp)]
      exact ca hr R.c1
    · rw [World.frozen?_setCell, World.frozen?_setCell]
      exact fa hr (R.fr o)
    · refine RMem.none ?_ (Or.inr rfl) (by omega) ?_ ?_
      · rw [World.cell?_setCell_other _ _ _ _ (by simp)]
        exact World.cell?_setCell_same' _ _ _ (by rw [d2]; rfl)
      · exact World.cell?_setCell_same' _ _ _ (by rw [World.cell?_setCell_other _ _ _ _ (by simp), d3]; rfl)
      · exact (hm.setCell (a := ⟨r, 2, none⟩) (by show w.heap.size ≠ r; omega) _).setCell (a := ⟨r, 3, none⟩) (by show w.heap.size ≠ r; omega) _
  · rcases hk with rfl | rfl
    · exact Or.inl R.sr
    · exact Or.inr (Nat.le_refl _)
theorem new_at (w : World) {x y : Int} {room width : Nat} (hx : x = (room : Int)) (hy : y = (width : Int)) (r1 : 1 ≤ room) (r2 : room ≤ 65536) (wd : width ≤ 262144) :
    RingAt ((w.alloc (.map #[] 0)).alloc (.cells #[.int .i64 x, .int .i64 y, .map (some w.heap.size), .slice none 0 0] 56)) w.heap.size (w.heap.size + 1) (fun k => w.heap.size ≤ k ∧ k < w.heap.size + 2) room width [] := by
  subst hx hy
  have hs : (w.alloc (.map #[] 0)).heap.size = w.heap.size + 1 := by simp
  have hm := (World.ownsMap_made w Try.prog 2 heldR).alloc (.cells #[.int .i64 (room : Int), .int .i64 (width : Int), .map (some w.heap.size), .slice none 0 0] 56)
  have hc : ∀ o u, #[Value.int .i64 (room : Int), .int .i64 (width : Int), .map (some w.heap.size), .slice none 0 0][o]? = some u → ((w.alloc (.map #[] 0)).alloc (.cells #[.int .i64 (room : Int), .int .i64 (width : Int), .map (some w.heap.size), .slice none 0 0] 56)).cell? ⟨w.heap.size + 1, o, none⟩ = some u := by
    intro o u hu
    rw [← hs]
    have hlt : o < 4 := by
      by_cases q : o < 4
      · exact q
      · rw [Array.getElem?_eq_none (by simp; omega)] at hu; cases hu
    match o, hlt, hu with
    | 0, _, hu => simp at hu; subst hu; simp
    | 1, _, hu => simp at hu; subst hu; simp
    | 2, _, hu => simp at hu; subst hu; simp
    | 3, _, hu => simp at hu; subst hu; simp
  refine ⟨none_ok r1 r2 wd, fun k hk => hk.1, fun k hk => ?_, ⟨by omega, by omega⟩, hc 0 _ rfl, hc 1 _ rfl, fun o => ?_, w.heap.size, _, _, _, _, RMem.none (hc 2 _ rfl) ⟨by omega, by omega⟩ (by omega) (hc 3 _ rfl) hm⟩
  · simp
    omega
  · rw [← hs]
    simp
theorem roomF_in (a : Int) : 1 ≤ roomF a ∧ roomF a ≤ 65536 := by unfold roomF; split <;> (try split) <;> omega
theorem widthF_in (b : Int) : 0 ≤ widthF b ∧ widthF b ≤ 262144 := by unfold widthF; split <;> (try split) <;> omega
set_option maxHeartbeats 4000000 in
theorem rnew_any (a b : Int) (a1 : -9223372036854775808 ≤ a) (a2 : a ≤ 9223372036854775807) (b1 : -9223372036854775808 ≤ b) (b2 : b ≤ 9223372036854775807) (w : World) :
    Calls Try.prog 9 #[.int .i64 a, .int .i64 b] w fun e w' => ∃ r S, e = .returned (.pointer (some ⟨r, 0, none⟩)) ∧ RingAt w' w.heap.size r S (roomF a).toNat (widthF b).toNat [] ∧ Below w.heap.size w w' := by
  have hmm := @run_makeMap Try.prog
  go_enter Try.func9, Try.ntmps9
  have ra := hide (roomF_in a)
  have wb := hide (widthF_in b)
  go_wp2
  all_goals
    go_ret
    have ra := ra.out
    have wb := wb.out
    refine ⟨_, rfl, ⟨_, new_at w ?_ ?_ (by omega) (by omega) (by omega)⟩, (((Below.refl w.heap.size w).alloc (Nat.le_refl _) _).alloc (by simp) _)⟩
    · unfold roomF
      (repeat split) <;> omega
    · unfold widthF
      (repeat split) <;> omega
end Go.Proofs.Ytkkoemcciemloaa
