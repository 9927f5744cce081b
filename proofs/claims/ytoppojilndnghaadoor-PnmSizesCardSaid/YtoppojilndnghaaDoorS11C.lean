/- Images as bytes: the program's samples out of bytes. -/
import Derived.Test.YtoppojilndnghaaDoorS11B
namespace Go.Proofs.YtoppojilndnghaaDoor
open Go.RowKit


theorem padZ_put (U : List Int) {n k : Nat} (h : k < n) (hU : U.length = n) : (padZ (U.take k) n).set k (U.getD k 0) = padZ (U.take (k + 1)) n := by
  rw [padZ_set (by rw [List.length_take]; omega) h, take_step U (by omega)]
theorem padZ_put0 (U : List Int) {n k : Nat} (h : k < n) (hU : U.length = n) : (padZ (U.take k) n).set k 0 = padZ (U.take k) n := by
  have hl : (U.take k).length = k := by rw [List.length_take]; omega
  unfold padZ
  rw [List.set_append_right _ _ (by omega), hl, Nat.sub_self]
  obtain ⟨d, hd⟩ : ∃ d, n - k = d + 1 := ⟨n - k - 1, by omega⟩
  rw [hd, List.replicate_succ, List.set_cons_zero]
theorem byte_at {xs : List Int} (h : ∀ x ∈ xs, 0 ≤ x ∧ x ≤ 255) {j : Nat} (hj : j < xs.length) : 0 ≤ xs.getD j 0 ∧ xs.getD j 0 ≤ 255 := by
  rw [List.getD_eq_getElem?_getD, List.getElem?_eq_getElem hj]
  exact h _ (List.getElem_mem hj)
theorem getD_put (l : List Int) (i : Nat) (x : Int) (hi : i < l.length) : (l.set i x).getD i 0 = x := by
  rw [List.getD_eq_getElem?_getD, List.getElem?_set_self hi]; rfl
theorem set_set0 (L : List Int) (k : Nat) (p q : Int) : (L.set k p).set k q = L.set k q := List.set_set ..
set_option maxHeartbeats 4000000 in
set_option maxRecDepth 100000 in
theorem samples_two (xs : List Int) (n m : Nat) (hn : xs.length = m) (hm : m = n * 2) (h0 : 1 ≤ n) (h1 : n ≤ 268435456) (hx : ∀ x ∈ xs, 0 ≤ x ∧ x ≤ 255) (b off cap : Nat) (hcap : m ≤ cap) (w : World) (hr : RowAt .u8 w (some ⟨b, off, none⟩) xs) :
    Calls Tryd.prog 26 #[.slice (some ⟨b, off, none⟩) m cap, .int .i64 2] w fun e w' => ∃ v, e = .returned v ∧ OwnI .u16 36 w' w.heap.size v (pairsF xs) ∧ Below w.heap.size w w' := by
  obtain ⟨zs, MK, MO⟩ := make16 n h1
  have HMO := hide MO
  have HR := hide hr
  have HX := hide hx
  have HN := hide hn
  have HM := hide hm
  have hU := pairsF_len n xs (by omega)
  have HUA := hide (fun (k : Nat) (hk : k < n) => pairsF_at k xs (by omega))
  generalize pairsF xs = U at *
  have HU := hide hU
  have q1 : (m : Int) / 2 = (n : Int) := by omega
  have q2 : (m : Int).tdiv 2 = (n : Int) := by rw [Int.tdiv_eq_ediv_of_nonneg (by omega)]; exact q1
  clear MO hr hx hn hU hm
  go_enter Tryd.func26, Tryd.ntmps26
  go_wp2
  have O1 := HMO.out w w.heap.size (Nat.le_refl _)
  rw [show List.replicate n (0 : Int) = padZ (U.take 0) n by rw [List.take_zero, padZ_nil]] at O1
  have HO1 := hide O1
  have HB1 := hide (ba (Below.refl w.heap.size w) (.cells zs 36))
  clear MK HMO O1
  generalize w.alloc (.cells zs 36) = w1 at *
  go_loopg [16] n (fun r i wr => ∃ k : Nat, k + r = n ∧ i = .int .i64 (k : Int) ∧ OwnI .u16 36 wr w.heap.size (.slice (some ⟨w.heap.size, 0, none⟩) n n) (padZ (U.take k) n) ∧ Below w.heap.size w wr)
  case atStart => exact ⟨0, by omega, rfl, HO1.out, HB1.out⟩
  case round =>
    obtain ⟨k, hk, rfl, ho, hb⟩ := hrel
    obtain ⟨G, hG⟩ : ∃ G, G = gk := ⟨_, rfl⟩
    subst hG
    obtain ⟨W, hW⟩ : ∃ W, W = wr := ⟨_, rfl⟩
    subst hW
    have HK := hide hk
    have HO := hide ho
    have HB := hide hb
    clear ho hb hk
    by_cases hlt : k < n
    · have e28 : (k + 1) * 2 - k * 2 = 2 := by omega
      obtain ⟨x0, hx0⟩ : ∃ x, xs.getD (k * 2) 0 = x := ⟨_, rfl⟩
      obtain ⟨x1, hx1⟩ : ∃ x, xs.getD (k * 2 + 1) 0 = x := ⟨_, rfl⟩
      have i0 := byte_at HX.out (show k * 2 < xs.length by rw [HN.out, HM.out]; omega)
      have i1 := byte_at HX.out (show k * 2 + 1 < xs.length by rw [HN.out, HM.out]; omega)
      rw [hx0] at i0
      rw [hx1] at i1
      have eU := HUA.out k hlt
      rw [hx0, hx1] at eU
      have HE := hide eU
      have hl2 : k * 2 + 2 ≤ m := by rw [HM.out]; omega
      have HC0 := hide (fun (W2 : World) (bb : Below w.heap.size w W2) => (HR.out.below bb).at (show k * 2 < xs.length by rw [HN.out]; omega))
      have HC1 := hide (fun (W2 : World) (bb : Below w.heap.size w W2) => (HR.out.below bb).at (show k * 2 + 1 < xs.length by rw [HN.out]; omega))
      rw [hx0] at HC0
      rw [hx1] at HC1
      have o1 := or16_apart i0.1 i0.2 i1.1 i1.2
      have o0 := or16_apart (a := 0) (by omega) (by omega) i0.1 i0.2
      rw [Int.zero_mul, Int.mul_zero, Int.zero_add] at o0
      clear eU hx0 hx1
      go_wp2
      go_loopg [29] 2 (fun r i wr => ∃ (j : Nat) (p : Int), j + r = 2 ∧ i = .int .i64 (j : Int) ∧ Hid ((j = 0 ∧ p = 0) ∨ (j = 1 ∧ p = x0) ∨ (j = 2 ∧ p = 256 * x0 + x1)) ∧ OwnI .u16 36 wr w.heap.size (.slice (some ⟨w.heap.size, 0, none⟩) n n) ((padZ (U.take k) n).set k p) ∧ Below w.heap.size w wr)
      case atStart => exact ⟨0, 0, by omega, rfl, hide (.inl ⟨rfl, rfl⟩), (by rw [padZ_put0 U hlt HU.out]; exact HO.out), HB.out⟩
      case round =>
        obtain ⟨j, p, hj, rfl, hp, ho, hb⟩ := hrel
        have HJ := hide hj
        have HO2 := hide ho
        have HB2 := hide hb
        have hlen : ((padZ (U.take k) n).set k p).length = n := by rw [List.length_set, padZ_len (by rw [List.length_take]; omega)]
        have c1 := ho.cellAt hlen hlt
        rw [getD_put _ _ _ (by rw [padZ_len (by rw [List.length_take]; omega)]; exact hlt)] at c1
        have z1 := ho.frozenAt hlen k
        have H5 := hide (fun q => And.intro (ho.stored hlen k q) (bs hb (Nat.le_refl _) (b := w.heap.size) (o := k) (.int .u16 q)))
        simp only [set_set0] at H5
        clear ho hb hj hlen
        rcases hp.out with ⟨rfl, rfl⟩ | ⟨rfl, rfl⟩ | ⟨rfl, rfl⟩
        · have hc := HC0.out _ HB2.out
          clear hp
          go_wp2
          go_roundg (gk - 1)
          case measure => have := HJ.out; omega
          case rel => exact ⟨1, x0, by have := HJ.out; omega, by go_num, hide (.inr (.inl ⟨rfl, rfl⟩)), (H5.out _).1, (H5.out _).2⟩
        · have hc := HC1.out _ HB2.out
          rw [← Nat.add_assoc] at hc
          clear hp
          go_wp2
          go_roundg (gk - 1)
          case measure => have := HJ.out; omega
          case rel => exact ⟨2, _, by have := HJ.out; omega, by go_num, hide (.inr (.inr ⟨rfl, rfl⟩)), (H5.out _).1, (H5.out _).2⟩
        · have hn2 := padZ_put U hlt HU.out
          rw [HE.out] at hn2
          have ho := HO2.out
          rw [hn2] at ho
          have HO3 := hide ho
          clear hp ho hn2 HO2 c1 z1 H5
          go_wp2
          go_roundg (G - 1)
          case measure => have := HK.out; omega
          case rel => exact ⟨k + 1, by have := HK.out; omega, by go_num, HO3.out, HB2.out⟩
    · obtain rfl : n = k := by have := HK.out; omega
      have ho := HO.out
      rw [List.take_of_length_le (by rw [HU.out]; exact Nat.le_refl _), padZ_full HU.out] at ho
      have HO3 := hide ho
      clear ho HO
      go_wp2
      go_ret
      exact ⟨_, rfl, HO3.out, HB.out⟩
set_option maxHeartbeats 4000000 in
set_option maxRecDepth 100000 in
theorem samples_one (xs : List Int) (n : Nat) (hn : xs.length = n) (h0 : 1 ≤ n) (h1 : n ≤ 268435456) (hx : ∀ x ∈ xs, 0 ≤ x ∧ x ≤ 255) (b off cap : Nat) (hcap : n ≤ cap) (w : World) (hr : RowAt .u8 w (some ⟨b, off, none⟩) xs) :
    Calls Tryd.prog 26 #[.slice (some ⟨b, off, none⟩) n cap, .int .i64 1] w fun e w' => ∃ v, e = .returned v ∧ OwnI .u16 36 w' w.heap.size v xs ∧ Below w.heap.size w w' := by
  obtain ⟨zs, MK, MO⟩ := make16 n h1
  have HMO := hide MO
  have HR := hide hr
  have HX := hide hx
  have HN := hide hn
  obtain ⟨U, hU⟩ : ∃ U, xs = U := ⟨_, rfl⟩
  have HUX := hide hU
  have HU := hide (show U.length = n by rw [← hU]; exact hn)
  have q1 : (n : Int) / 1 = (n : Int) := by omega
  have q2 : (n : Int).tdiv 1 = (n : Int) := by rw [Int.tdiv_eq_ediv_of_nonneg (by omega)]; exact q1
  clear MO hr hx hn hU
  go_enter Tryd.func26, Tryd.ntmps26
  go_wp2
  have O1 := HMO.out w w.heap.size (Nat.le_refl _)
  rw [show List.replicate n (0 : Int) = padZ (U.take 0) n by rw [List.take_zero, padZ_nil]] at O1
  have HO1 := hide O1
  have HB1 := hide (ba (Below.refl w.heap.size w) (.cells zs 36))
  clear MK HMO O1
  generalize w.alloc (.cells zs 36) = w1 at *
  go_loopg [16] n (fun r i wr => ∃ k : Nat, k + r = n ∧ i = .int .i64 (k : Int) ∧ OwnI .u16 36 wr w.heap.size (.slice (some ⟨w.heap.size, 0, none⟩) n n) (padZ (U.take k) n) ∧ Below w.heap.size w wr)
  case atStart => exact ⟨0, by omega, rfl, HO1.out, HB1.out⟩
  case round =>
    obtain ⟨k, hk, rfl, ho, hb⟩ := hrel
    obtain ⟨G, hG⟩ : ∃ G, G = gk := ⟨_, rfl⟩
    subst hG
    obtain ⟨W, hW⟩ : ∃ W, W = wr := ⟨_, rfl⟩
    subst hW
    have HK := hide hk
    have HO := hide ho
    have HB := hide hb
    clear ho hb hk
    by_cases hlt : k < n
    · have e28 : (k + 1) - k = 1 := by omega
      obtain ⟨x0, hx0⟩ : ∃ x, xs.getD k 0 = x := ⟨_, rfl⟩
      have i0 := byte_at HX.out (show k < xs.length by rw [HN.out]; omega)
      rw [hx0] at i0
      have HE := hide (show U.getD k 0 = x0 by rw [← HUX.out]; exact hx0)
      have HC0 := hide (fun (W2 : World) (bb : Below w.heap.size w W2) => (HR.out.below bb).at (show k < xs.length by rw [HN.out]; omega))
      rw [hx0] at HC0
      have o0 := or16_apart (a := 0) (by omega) (by omega) i0.1 i0.2
      rw [Int.zero_mul, Int.mul_zero, Int.zero_add] at o0
      clear hx0
      go_wp2
      go_loopg [29] 1 (fun r i wr => ∃ (j : Nat) (p : Int), j + r = 1 ∧ i = .int .i64 (j : Int) ∧ Hid ((j = 0 ∧ p = 0) ∨ (j = 1 ∧ p = x0)) ∧ OwnI .u16 36 wr w.heap.size (.slice (some ⟨w.heap.size, 0, none⟩) n n) ((padZ (U.take k) n).set k p) ∧ Below w.heap.size w wr)
      case atStart => exact ⟨0, 0, by omega, rfl, hide (.inl ⟨rfl, rfl⟩), (by rw [padZ_put0 U hlt HU.out]; exact HO.out), HB.out⟩
      case round =>
        obtain ⟨j, p, hj, rfl, hp, ho, hb⟩ := hrel
        have HJ := hide hj
        have HO2 := hide ho
        have HB2 := hide hb
        have hlen : ((padZ (U.take k) n).set k p).length = n := by rw [List.length_set, padZ_len (by rw [List.length_take]; omega)]
        have c1 := ho.cellAt hlen hlt
        rw [getD_put _ _ _ (by rw [padZ_len (by rw [List.length_take]; omega)]; exact hlt)] at c1
        have z1 := ho.frozenAt hlen k
        have H5 := hide (fun q => And.intro (ho.stored hlen k q) (bs hb (Nat.le_refl _) (b := w.heap.size) (o := k) (.int .u16 q)))
        simp only [set_set0] at H5
        clear ho hb hj hlen
        rcases hp.out with ⟨rfl, rfl⟩ | ⟨rfl, rfl⟩
        · have hc := HC0.out _ HB2.out
          clear hp
          go_wp2
          go_roundg (gk - 1)
          case measure => have := HJ.out; omega
          case rel => exact ⟨1, x0, by have := HJ.out; omega, by go_num, hide (.inr ⟨rfl, rfl⟩), (H5.out _).1, (H5.out _).2⟩
        · have hn2 := padZ_put U hlt HU.out
          rw [HE.out] at hn2
          have ho := HO2.out
          rw [hn2] at ho
          have HO3 := hide ho
          clear hp ho hn2 HO2 c1 z1 H5
          go_wp2
          go_roundg (G - 1)
          case measure => have := HK.out; omega
          case rel => exact ⟨k + 1, by have := HK.out; omega, by go_num, HO3.out, HB2.out⟩
    · obtain rfl : n = k := by have := HK.out; omega
      have ho := HO.out
      rw [List.take_of_length_le (by rw [HU.out]; exact Nat.le_refl _), padZ_full HU.out, ← HUX.out] at ho
      have HO3 := hide ho
      clear ho HO
      go_wp2
      go_ret
      exact ⟨_, rfl, HO3.out, HB.out⟩
end Go.Proofs.YtoppojilndnghaaDoor
