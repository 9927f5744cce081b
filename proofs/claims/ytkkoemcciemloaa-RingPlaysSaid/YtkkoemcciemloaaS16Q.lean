/- The document's ring: New, Find, Next. -/
import Derived.Test.YtkkoemcciemloaaS16A
import Derived.Test.YtkkoemcciemloaaS08B
namespace Go.Proofs.Ytkkoemcciemloaa
open Go.RowKit


set_option maxHeartbeats 4000000 in
theorem dnew16_any (a b : Int) (w : World) : Calls Try.prog 17 #[.int .i64 a, .int .i64 b] w fun e w' => e = .returned (.agg #[.int .i64 (roomF a), .int .i64 (widthF b), .slice none 0 0]) ∧ Below w.heap.size w w' := by
  obtain ⟨x, hx⟩ : ∃ x, roomF a = x := ⟨_, rfl⟩
  obtain ⟨y, hy⟩ : ∃ y, widthF b = y := ⟨_, rfl⟩
  rw [hx, hy]
  have HX := hide hx
  have HY := hide hy
  clear hx hy
  go_enter Try.func17, Try.ntmps17
  go_wp2
  all_goals
    have hx := HX.out
    have hy := HY.out
    unfold roomF at hx
    unfold widthF at hy
    repeat (first | rw [if_pos (by omega)] at hx | rw [if_neg (by omega)] at hx)
    repeat (first | rw [if_pos (by omega)] at hy | rw [if_neg (by omega)] at hy)
    subst hx hy
    exact bodyPost_ret (by simp [results, Try.results17, go_sem]) rfl ⟨rfl, below1 _ _⟩
/-- Rows that can be read. -/
def RdL (w : World) (ad : Option Addr) (L : List (Int × List Int)) : Prop := L = [] ∨ ∃ g, ad = some ⟨g, 0, none⟩ ∧ LinesAt w g L
theorem RdL.below {w w' : World} {ad : Option Addr} {L : List (Int × List Int)} (h : RdL w ad L) (hb : Below w.heap.size w w') : RdL w' ad L := by
  rcases h with h | ⟨g, h1, h2⟩
  · exact Or.inl h
  · exact Or.inr ⟨g, h1, h2.below hb⟩
theorem RdL.get {w : World} {ad : Option Addr} {L : List (Int × List Int)} (h : RdL w ad L) {k : Nat} (hk : k < L.length) : ∃ g u, ad = some ⟨g, 0, none⟩ ∧ w.cell? ⟨g, k * 2, none⟩ = some (.int .i64 (lnAt L k).1) ∧ w.cell? ⟨g, k * 2 + 1, none⟩ = some u ∧ Ret .i64 (lnAt L k).2 w u := by
  rcases h with rfl | ⟨g, h1, h2⟩
  · exact absurd hk (Nat.not_lt_zero _)
  · obtain ⟨c0, u, c1, c2⟩ := h2 k hk
    exact ⟨g, u, h1, c0, c1, c2⟩
theorem hasJ_at {L : List (Int × List Int)} {j : Int} : hasJ L j = true ↔ ∃ k, k < L.length ∧ (lnAt L k).1 = j := by
  rw [hasJ_iff]
  constructor
  · rintro ⟨y, hy, e⟩
    obtain ⟨k, hk, rfl⟩ := List.mem_iff_getElem.1 hy
    exact ⟨k, hk, by rw [lnAt_get hk]; exact e⟩
  · rintro ⟨k, hk, e⟩
    exact ⟨lnAt L k, lnAt_mem hk, e⟩
set_option maxHeartbeats 4000000 in
theorem dfind16_any {L : List (Int × List Int)} {n cap : Nat} {ad : Option Addr} {p q j : Int} (hn : L.length = n) (hl : n ≤ 1048576) (w : World) (hr : RdL w ad L) :
    Calls Try.prog 22 #[.agg #[.int .i64 p, .int .i64 q, .slice ad n cap], .int .i64 j] w fun e w' => ∃ i : Int, e = .returned (.int .i64 i) ∧ (0 ≤ i ↔ hasJ L j = true) ∧ Below w.heap.size w w' := by
  have HR := hide hr
  have HN := hide hn
  clear hr hn
  go_enter Try.func22, Try.ntmps22
  go_wp2
  go_loopw [10] (fun vk wr => ∃ k : Nat, k ≤ n ∧ vk = .int .i64 (k : Int) ∧ (∀ i, i < k → (lnAt L i).1 ≠ j) ∧ Below w.heap.size w wr) (fun vk _ => n - (intOf vk).toNat)
  case atStart => exact ⟨0, by omega, rfl, fun i hi => absurd hi (Nat.not_lt_zero _), below1 _ _⟩
  case round =>
    obtain ⟨k, hk, rfl, hne, hb⟩ := hrel
    have HNE := hide hne
    have HB := hide hb
    clear hne hb
    by_cases hlt : k < n
    · obtain ⟨g, u, rfl, c0, c1, hu⟩ := (HR.out.below (HB.out.mono (Nat.le_refl _))).get (k := k) (by rw [HN.out]; exact hlt)
      obtain ⟨ad2, cap2, rfl, _⟩ := hu
      generalize (lnAt L k).2.length = m at *
      by_cases e : (lnAt L k).1 = j
      · have HJ := hide (hasJ_at.2 ⟨k, by rw [HN.out]; exact hlt, e⟩)
        rw [e] at c0
        clear e
        go_wp2
        go_ret
        exact ⟨_, rfl, ⟨fun _ => HJ.out, fun _ => by omega⟩, ba HB.out _⟩
      · have q1 : ((lnAt L k).1 == j) = false := by rw [beq_eq_false_iff_ne]; exact e
        have HE := hide e
        generalize hz : (lnAt L k).1 = z at *
        clear e
        go_wp2
        go_roundw
        case rel => exact ⟨k + 1, by omega, by go_num, fun i hi => by
          by_cases q : i = k
          · subst q; rw [hz]; exact HE.out
          · exact HNE.out i (by omega), ba HB.out _⟩
        case measure => simp [intOf]; omega
    · obtain rfl : k = n := by omega
      have HJ := hide (show hasJ L j = false by
        cases h : hasJ L j
        · rfl
        · obtain ⟨i, hi, e⟩ := hasJ_at.1 h
          exact absurd e (HNE.out i (by rw [← HN.out]; exact hi)))
      go_wp2
      go_ret
      exact ⟨_, rfl, ⟨fun h => absurd h (by decide), fun h => by rw [HJ.out] at h; cases h⟩, HB.out⟩
theorem next_take {L : List (Int × List Int)} {a b : Int} {k : Nat} (hk : k < L.length) : nextJ (L.take (k + 1)) a b = if (lnAt L k).1 = nextJ (L.take k) a b ∧ nextJ (L.take k) a b < b then nextJ (L.take k) a b + 1 else nextJ (L.take k) a b := by
  unfold nextJ
  rw [List.take_succ_eq_append_getElem hk, List.foldl_append, lnAt_get hk]
  rfl
set_option maxHeartbeats 4000000 in
theorem dnext16_any {L : List (Int × List Int)} {n cap : Nat} {ad : Option Addr} {p q a b : Int} (hn : L.length = n) (hl : n ≤ 1048576) (a1 : -9223372036854775808 ≤ a) (a2 : a ≤ 9223372036854775807) (b1 : -9223372036854775808 ≤ b) (b2 : b ≤ 9223372036854775807) (w : World) (hr : RdL w ad L) :
    Calls Try.prog 20 #[.agg #[.int .i64 p, .int .i64 q, .slice ad n cap], .int .i64 a, .int .i64 b] w fun e w' => e = .returned (.tuple #[.int .i64 (if nextJ L a b < b then nextJ L a b else 0), .bool (decide (nextJ L a b < b))]) ∧ Below w.heap.size w w' := by
  have HR := hide hr
  have HN := hide hn
  obtain ⟨v1, hv1⟩ : ∃ v1, Value.tuple #[.int .i64 (if nextJ L a b < b then nextJ L a b else 0), .bool (decide (nextJ L a b < b))] = v1 := ⟨_, rfl⟩
  rw [hv1]
  have HV := hide hv1
  clear hr hn hv1
  go_enter Try.func20, Try.ntmps20
  go_wp2
  go_loopw [8, 15] (fun vj vk wr => ∃ (k : Nat) (j : Int), k ≤ n ∧ vk = .int .i64 (k : Int) ∧ vj = .int .i64 j ∧ j = nextJ (L.take k) a b ∧ -9223372036854775808 ≤ j ∧ j ≤ 9223372036854775807 ∧ Below w.heap.size w wr) (fun _ vk _ => n - (intOf vk).toNat)
  case atStart => exact ⟨0, a, by omega, rfl, rfl, by simp [nextJ], a1, a2, below1 _ _⟩
  case round =>
    obtain ⟨k, j, hk, rfl, rfl, hj, j1, j2, hb⟩ := hrel
    have HJ := hide hj
    have HB := hide hb
    clear hj hb
    by_cases hlt : k < n
    · obtain ⟨g, u, rfl, c0, c1, hu⟩ := (HR.out.below HB.out).get (k := k) (by rw [HN.out]; exact hlt)
      obtain ⟨ad2, cap2, rfl, _⟩ := hu
      have ST := hide (next_take (L := L) (a := a) (b := b) (k := k) (by rw [HN.out]; exact hlt))
      generalize (lnAt L k).2.length = m at *
      generalize (lnAt L k).1 = z at *
      by_cases e : z = j
      · by_cases e2 : j < b
        · have q1 : (z == j) = true := by rw [beq_iff_eq]; exact e
          have HE := hide e
          clear e
          go_wp2
          go_roundw
          case rel => exact ⟨k + 1, j + 1, by omega, by go_num, rfl, by rw [ST.out, ← HJ.out, if_pos ⟨HE.out, e2⟩], by omega, by omega, ba HB.out _⟩
          case measure => simp [intOf]; omega
        · have q1 : (z == j) = true := by rw [beq_iff_eq]; exact e
          have q2 : decide (j < b) = false := decide_eq_false e2
          have HE := hide e2
          clear e e2
          go_wp2
          go_roundw
          case rel => exact ⟨k + 1, j, by omega, by go_num, rfl, by rw [ST.out, ← HJ.out, if_neg (fun h => HE.out h.2)], by omega, by omega, ba HB.out _⟩
          case measure => simp [intOf]; omega
      · have q1 : (z == j) = false := by rw [beq_eq_false_iff_ne]; exact e
        have HE := hide e
        clear e
        go_wp2
        go_roundw
        case rel => exact ⟨k + 1, j, by omega, by go_num, rfl, by rw [ST.out, ← HJ.out, if_neg (fun h => HE.out h.1)], by omega, by omega, ba HB.out _⟩
        case measure => simp [intOf]; omega
    · obtain rfl : k = n := by omega
      have HE := hide (show j = nextJ L a b by rw [HJ.out, ← HN.out, List.take_length])
      by_cases e : b ≤ j
      · go_wp2
        go_ret2
        exact ⟨by rw [← HV.out, ← HE.out, if_neg (by omega), decide_eq_false (show ¬ j < b by omega)]; rfl, HB.out⟩
      · go_wp2
        go_ret2
        exact ⟨by rw [← HV.out, ← HE.out, if_pos (by omega), decide_eq_true (show j < b by omega)]; rfl, HB.out⟩
end Go.Proofs.Ytkkoemcciemloaa
