/- What a ring tells. -/
import Derived.Test.YtkkoemcciemloaaS16I
namespace Go.Proofs.Ytkkoemcciemloaa
open Go.RowKit
open Go.Maps (Keyed)
open Go.MapKept Go.ChangeMaps


theorem heap_first {L : List (Int × List Int)} {h : List Int} (hp : h.Perm (L.map (·.1))) (hh : HeapN h h.length) (hr : RisingR L) (h0 : L ≠ []) : h.getD 0 0 = firstJ L := by
  cases L with
  | nil => exact absurd rfl h0
  | cons y r =>
    show h.getD 0 0 = y.1
    have hl : 0 < h.length := by rw [hp.length_eq]; simp
    have hm : y.1 ∈ h := hp.mem_iff.2 (by simp)
    obtain ⟨k, hk, e⟩ := List.mem_iff_getElem.1 hm
    have a := heap_least hh k hk
    rw [List.getD_eq_getElem?_getD (i := k), List.getElem?_eq_getElem hk, Option.getD_some, e] at a
    have hm0 : h.getD 0 0 ∈ h := by
      rw [List.getD_eq_getElem?_getD, List.getElem?_eq_getElem hl]
      exact List.getElem_mem hl
    obtain ⟨z, hz, e2⟩ := List.mem_map.1 (hp.mem_iff.1 hm0)
    rcases List.mem_cons.1 hz with rfl | hz
    · exact e2.symm
    · have := (List.pairwise_cons.1 hr).1 z hz
      have e3 : z.1 = h.getD 0 0 := e2
      omega
set_option maxHeartbeats 4000000 in
theorem rhas_any {w : World} {base r : Nat} {S : Nat → Prop} {room width : Nat} {L : List (Int × List Int)} {j : Int} (h1 : -9223372036854775808 ≤ j) (h2 : j ≤ 9223372036854775807) (R : RingAt w base r S room width L) :
    Calls Try.prog 26 #[.pointer (some ⟨r, 0, none⟩), .int .i64 j] w fun e w' => e = .returned (.bool (hasJ L j)) ∧ w = w' := by
  obtain ⟨m, v, h, D, V, M⟩ := R.mem
  have c2 := M.c2
  have HM := hide M.map
  have HK := hide (key64 h1 h2)
  have HB := hide (M.has j)
  clear M R h1 h2
  go_enter Try.func26, Try.ntmps26
  go_wp2_with (at_lookup; refine wpList_lookup_own_ok _ rfl _ _ 53 rfl 2 26 keyed64 Try.underlying53 heldR (zeroSl _) (.held (.slice none 0 0)) [] rfl m (Maps.size D) D rfl HM.out _ _ rfl HK.out ?_; intro u ps hu)
  go_ret
  exact ⟨by rw [HB.out]; rfl, rfl⟩
set_option maxHeartbeats 4000000 in
theorem rlen_any {w : World} {base r : Nat} {S : Nat → Prop} {room width : Nat} {L : List (Int × List Int)} (R : RingAt w base r S room width L) :
    Calls Try.prog 13 #[.pointer (some ⟨r, 0, none⟩)] w fun e w' => e = .returned (.int .i64 (L.length : Int)) ∧ w = w' := by
  obtain ⟨m, v, h, D, V, M⟩ := R.mem
  have c2 := M.c2
  have hlen := M.map.len Try.underlying53 3
  rw [M.size] at hlen
  clear M R
  go_enter Try.func13, Try.ntmps13
  go_wp2
  go_ret
  exact ⟨rfl, rfl⟩
theorem rroom_any {w : World} {base r : Nat} {S : Nat → Prop} {room width : Nat} {L : List (Int × List Int)} (R : RingAt w base r S room width L) :
    Calls Try.prog 23 #[.pointer (some ⟨r, 0, none⟩)] w fun e w' => e = .returned (.int .i64 (room : Int)) ∧ w = w' := by
  have c0 := R.c0
  clear R
  go_enter Try.func23, Try.ntmps23
  go_wp2
  go_ret
  exact ⟨rfl, rfl⟩
theorem rwidth_any {w : World} {base r : Nat} {S : Nat → Prop} {room width : Nat} {L : List (Int × List Int)} (R : RingAt w base r S room width L) :
    Calls Try.prog 24 #[.pointer (some ⟨r, 0, none⟩)] w fun e w' => e = .returned (.int .i64 (width : Int)) ∧ w = w' := by
  have c1 := R.c1
  clear R
  go_enter Try.func24, Try.ntmps24
  go_wp2
  go_ret
  exact ⟨rfl, rfl⟩
theorem words_in {room width : Nat} (h1 : room ≤ 65536) (h2 : width ≤ 262144) : (room : Int) * (width : Int) ≤ 17179869184 := by
  have := Nat.mul_le_mul h1 h2
  have e : ((room * width : Nat) : Int) = (room : Int) * (width : Int) := Int.natCast_mul _ _
  omega
set_option maxHeartbeats 4000000 in
theorem rwords_any {w : World} {base r : Nat} {S : Nat → Prop} {room width : Nat} {L : List (Int × List Int)} (R : RingAt w base r S room width L) :
    Calls Try.prog 25 #[.pointer (some ⟨r, 0, none⟩)] w fun e w' => e = .returned (.int .i64 ((room : Int) * (width : Int))) ∧ Drew w w' := by
  have c0 := R.c0
  have c1 := R.c1
  have hm := words_in R.ok.r2 R.ok.wd
  have hm0 : 0 ≤ (room : Int) * (width : Int) := Int.mul_nonneg (by omega) (by omega)
  have hwr : IntKind.i64.wrap ((room : Int) * (width : Int)) = (room : Int) * (width : Int) := by
    generalize (room : Int) * (width : Int) = p at *
    exact IntWalk.i64_in _ (by omega)
  clear R
  go_enter Try.func25, Try.ntmps25
  go_wp2
  go_quiet (fail)
  go_wp2
  go_ret
  exact ⟨rfl, nq, rfl⟩
set_option maxHeartbeats 4000000 in
theorem rfirst_any {w : World} {base r : Nat} {S : Nat → Prop} {room width : Nat} {L : List (Int × List Int)} (R : RingAt w base r S room width L) :
    Calls Try.prog 12 #[.pointer (some ⟨r, 0, none⟩)] w fun e w' => e = .returned (.tuple #[.int .i64 (firstJ L), .bool (!L.isEmpty)]) ∧ w = w' := by
  obtain ⟨m, v, h, D, V, M⟩ := R.mem
  have c3 := M.c3
  by_cases h0 : L = []
  · subst h0
    have hz : h = [] := by
      have := M.perm
      exact List.Perm.eq_nil this
    have ho := M.nums
    subst hz
    obtain ⟨ad, cap, rfl, _⟩ := ho.form
    clear M R ho
    go_enter Try.func12, Try.ntmps12
    go_wp2
    go_ret2
    exact ⟨rfl, rfl⟩
  · have hl : h.length = L.length := by rw [M.perm.length_eq, List.length_map]
    have hp : 0 < L.length := List.length_pos_iff.2 h0
    have hmx := R.ok.len
    have hmx2 := R.ok.r2
    have hf := heap_first M.perm M.heap R.ok.rising h0
    obtain ⟨b, cap, rfl, _, _, hr, _⟩ := own_row M.nums hl (by omega)
    have cf := hr.at (j := 0) (by omega)
    rw [hf, Nat.zero_add] at cf
    have HE := hide (show (!L.isEmpty) = true by cases L with
      | nil => exact absurd rfl h0
      | cons _ _ => rfl)
    generalize firstJ L = f at *
    generalize L.length = n at *
    have q0 : ((n : Int) == 0) = false := by rw [beq_eq_false_iff_ne]; omega
    clear M R hf hr hl
    go_enter Try.func12, Try.ntmps12
    go_wp2
    go_ret2
    exact ⟨by rw [HE.out]; rfl, rfl⟩
theorem find_none {L : List (Int × List Int)} {j : Int} (h : hasJ L j = false) : rowJ L j = [] := by
  unfold rowJ
  have : L.find? (fun y => decide (y.1 = j)) = none := by
    rw [List.find?_eq_none]
    intro x hx e
    have := (hasJ_iff L j).2 ⟨x, hx, of_decide_eq_true e⟩
    rw [h] at this; cases this
  rw [this]
theorem rowJ_mem {L : List (Int × List Int)} {j : Int} (h : hasJ L j = true) : (j, rowJ L j) ∈ L := by
  obtain ⟨x, hx, e⟩ := (hasJ_iff L j).1 h
  have hs : (L.find? (fun y => decide (y.1 = j))).isSome = true := List.find?_isSome.2 ⟨x, hx, decide_eq_true e⟩
  obtain ⟨y, hy⟩ := Option.isSome_iff_exists.1 hs
  have h1 := List.mem_of_find?_eq_some hy
  have h2 := List.find?_some hy
  have h3 : y.1 = j := of_decide_eq_true h2
  have e2 : rowJ L j = y.2 := by unfold rowJ; rw [hy]
  rw [e2, ← h3]
  exact h1
theorem held_inv {u v : Value} {ps : List MemPlace} (h : heldR u = some (.held v, ps)) : u = v := by
  unfold heldR at h
  simp only [Option.some.injEq, Prod.mk.injEq, DataW.held.injEq] at h
  exact h.1
set_option maxHeartbeats 4000000 in
theorem rrow_any {w : World} {base r : Nat} {S : Nat → Prop} {room width : Nat} {L : List (Int × List Int)} {j : Int} (h1 : -9223372036854775808 ≤ j) (h2 : j ≤ 9223372036854775807) (R : RingAt w base r S room width L) :
    Calls Try.prog 14 #[.pointer (some ⟨r, 0, none⟩), .int .i64 j] w fun e w' => ∃ v, e = .returned (.tuple #[v, .bool (hasJ L j)]) ∧ OwnI .i64 2 w' w.heap.size v (rowJ L j) ∧ Below w.heap.size w w' := by
  obtain ⟨m, v, h, D, V, M⟩ := R.mem
  have c2 := M.c2
  have HM := hide M.map
  have HK := hide (key64 h1 h2)
  have HB := hide (M.has j)
  obtain ⟨zv, hzv, hown⟩ : ∃ zv, D.atKey (.int .i64 j) (.held (.slice none 0 0)) = .held zv ∧ ∃ ad cap, zv = .slice ad (rowJ L j).length cap ∧ RowAt .i64 w ad (rowJ L j) ∧ (ad = none → (rowJ L j).length = 0 ∧ cap = 0) ∧ (rowJ L j).length ≤ 262144 := by
    rcases hb : hasJ L j with _ | _
    · have hz := find_none hb
      have hn : Maps.has D (.int .i64 j) = false := by rw [M.has j]; exact hb
      rw [hz]
      exact ⟨_, Maps.atKey_of_not_has hn _, none, 0, rfl, Or.inl rfl, fun _ => ⟨rfl, rfl⟩, by simp⟩
    · have hm := rowJ_mem hb
      obtain ⟨ad, cap, e, hr, hz, _⟩ := (M.rows _ hm).form
      have hw := (R.ok.rows _ hm).1
      have := R.ok.wd
      exact ⟨V j, M.at_ _ hm _, ad, cap, e, hr, fun q => ⟨by have e2 : rowJ L j = [] := (hz q).1; rw [e2]; rfl, (hz q).2⟩, by simp only at hw; omega⟩
  obtain ⟨ad, cap, rfl, hr, hz, hn⟩ := hown
  have HZ := hide hzv
  have CL := clone64 (rowJ L j) _ rfl ad cap (by omega) hz w hr
  generalize rowJ L j = xs at *
  clear M R h1 h2 hr hz hzv hn
  go_enter Try.func14, Try.ntmps14
  go_wp2_with (first
    | (at_lookup; refine wpList_lookup_own_ok _ rfl _ _ 53 rfl 2 26 keyed64 Try.underlying53 heldR (zeroSl _) (.held (.slice none 0 0)) [] rfl m (Maps.size D) D rfl HM.out _ _ rfl HK.out ?_; intro u ps hu; rw [HZ.out] at hu; have e := held_inv hu; subst e; clear hu)
    | (go_at_call 28; (with_reducible refine CL.mono ?_); rintro e w2 ⟨v2, rfl, o2, b2⟩))
  go_ret2
  exact ⟨v2, by rw [← HB.out]; rfl, o2, b2⟩
end Go.Proofs.Ytkkoemcciemloaa
