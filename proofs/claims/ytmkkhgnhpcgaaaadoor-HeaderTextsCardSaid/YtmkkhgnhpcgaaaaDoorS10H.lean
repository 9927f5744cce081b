/- Heads: the law on texts that are cut off, out of what the program's calls answer. -/
import Derived.Test.YtmkkhgnhpcgaaaaDoorS10G
namespace Go.Proofs.YtmkkhgnhpcgaaaaDoor
open Go.RowKit


theorem RowAt.first {k : IntKind} {w : World} {ad : Option Addr} {xs : List Int} (h : RowAt k w ad xs) (n : Nat) : RowAt k w ad (xs.take n) := by
  rcases h with rfl | ⟨b, off, e, c⟩
  · rw [List.take_nil]; exact Or.inl rfl
  · refine Or.inr ⟨b, off, e, fun j hj => ?_⟩
    rw [List.length_take] at hj
    rw [c j (by omega), List.getD_eq_getElem?_getD, List.getD_eq_getElem?_getD, List.getElem?_take, if_pos (by omega)]
/-- '[]byte(s)': a new row. -/
theorem str_bytes (t : ByteArray) (w : World) : ∃ (cap : Nat) (W : World), t.size ≤ cap ∧ (convert 9 24 (.string t)).run Tryd.prog w = .ok (.slice (some ⟨w.heap.size, 0, none⟩) t.size cap) W ∧ RowAt .u8 W (some ⟨w.heap.size, 0, none⟩) (byt t) ∧ Below w.heap.size w W := by
  refine ⟨_, _, ?_, run_bytes_of_string (P := Tryd.prog) w 9 24 5 t Tryd.underlying9 Tryd.underlying24 Tryd.underlying5, ?_, ?_⟩
  · exact grownCap_ge _ _ _ _
  · refine Or.inr ⟨w.heap.size, 0, rfl, fun j hj => ?_⟩
    rw [Nat.zero_add]
    have := cell_mark w.drew (bytesRow t (grownCap w t.size 0 5)) 5 ((bytesRow t (grownCap w t.size 0 5)).size, (bytesRow t (grownCap w t.size 0 5)).size + 1) j
    refine Eq.trans this ?_
    rw [byt_len] at hj
    unfold bytesRow
    rw [Array.getElem?_append_left (by rw [Array.size_map]; exact hj), Array.getElem?_map]
    have h' : j < t.data.size := hj
    rw [Array.getElem?_eq_getElem h', ← byt_at hj]
    rfl
  · exact ba (bd (Below.refl _ w)) _
theorem intF_len {n : Int} (h0 : 0 ≤ n) (h1 : n ≤ 65536) : 1 ≤ (intF n).length ∧ (intF n).length ≤ 5 := by
  rw [intF_pos h0]
  refine ⟨?_, decF_len n.toNat 5 (by omega) (by omega)⟩
  match h : decF n.toNat with
  | [] => exact absurd h (decF_ne _)
  | x :: t => simp
theorem intF_in (n : Int) : ∀ x ∈ intF n, 0 ≤ x ∧ x ≤ 255 := by
  intro x hx
  unfold intF at hx
  split at hx
  · rcases List.mem_cons.1 hx with rfl | hx
    · omega
    · have := decF_digit _ x hx
      omega
  · have := decF_digit _ x hx
    omega
theorem textF_in (h : Hd) : ∀ x ∈ textF h, 0 ≤ x ∧ x ≤ 255 := by
  intro x hx
  rw [textF_eq] at hx
  simp only [List.mem_append, List.mem_cons, List.not_mem_nil, or_false] at hx
  have e : ∀ c : Int, (if c = 3 then (54 : Int) else 53) = 54 ∨ (if c = 3 then (54 : Int) else 53) = 53 := fun c => by by_cases q : c = 3 <;> simp [q]
  have e' := e h.hc
  have i1 := intF_in h.hw x
  have i2 := intF_in h.hh x
  have i3 := intF_in h.ht x
  rcases hx with ((((((hx | hx) | hx) | hx) | hx) | hx) | hx) | hx
  all_goals first | exact i1 hx | exact i2 hx | exact i3 hx | omega
theorem textF_len {h : Hd} (hk : codeF h.hw h.hh h.hc h.ht = 0) : 8 ≤ (textF h).length ∧ (textF h).length ≤ 21 := by
  obtain ⟨t0, t1, a0, a1, b0, b1, hc, hm⟩ := codeF_zero hk
  have x1 := intF_len (show 0 ≤ h.hw by omega) (by omega)
  have x2 := intF_len (show 0 ≤ h.hh by omega) (by omega)
  have x3 := intF_len (show 0 ≤ h.ht by omega) (by omega)
  unfold textF
  simp only [List.length_cons, List.length_append, List.length_nil]
  omega
set_option maxHeartbeats 1000000 in
theorem of_HeaderCuts {K : World → Prop} (hKB : KB K) (CP : HParseC K) (CT : HTextC K) (a b t c : Int) (a0 : 0 ≤ a) (b0 : 0 ≤ b) (t0 : 0 ≤ t) (t1 : t ≤ 65535) (c0 : 0 ≤ c) (c1 : c ≤ 255) (w : World) (hk : K w) :
    Calls Tryd.prog 4 #[.int .u16 a, .int .u16 b, .int .u16 t, .int .u8 c] w fun e w' => e = .returned (.bool true) ∧ Below w.heap.size w w' := by
  have CL := fun w hk => hlives hKB CP w hk
  have hKB : ∀ w w', K w → Below w.heap.size w w' → K w' := hKB
  obtain ⟨W, hW, W0, W1⟩ : ∃ W, 1 + a % 2000 = W ∧ 1 ≤ W ∧ W ≤ 2000 := ⟨_, rfl, by omega, by omega⟩
  obtain ⟨H, hH, H0, H1⟩ : ∃ H, 1 + b % 2000 = H ∧ 1 ≤ H ∧ H ≤ 2000 := ⟨_, rfl, by omega, by omega⟩
  obtain ⟨T, hT, T0, T1⟩ : ∃ T, 1 + t % 65535 = T ∧ 1 ≤ T ∧ T ≤ 65535 := ⟨_, rfl, by omega, by omega⟩
  have hm := Int.mul_le_mul W1 H1 (by omega) (by omega)
  have hcd : codeF W H 3 T = 0 := codeF_of T0 T1 W0 (by omega) H0 (by omega) (.inr rfl) (by omega)
  have CX := fun w hk => CT ⟨3, W, H, T, 0⟩ ⟨⟨by show -9223372036854775808 ≤ W; omega, by show W ≤ 9223372036854775807; omega⟩, ⟨by show -9223372036854775808 ≤ H; omega, by show H ≤ 9223372036854775807; omega⟩, ⟨by show -9223372036854775808 ≤ T; omega, by show T ≤ 9223372036854775807; omega⟩⟩ w hk
  have hl := textF_len (h := ⟨3, W, H, T, 0⟩) hcd
  have hcut := fun k hk => parse_cut (h := ⟨3, W, H, T, 0⟩) hcd (k := k) hk
  obtain ⟨L, hL⟩ : ∃ L, textF ⟨3, W, H, T, 0⟩ = L := ⟨_, rfl⟩
  rw [hL] at CX hl hcut
  obtain ⟨m, hmm⟩ : ∃ m, L.length = m := ⟨_, rfl⟩
  rw [hmm] at hl hcut
  obtain ⟨l0, l1⟩ := hl
  obtain ⟨k, hkk, hkm⟩ : ∃ k : Nat, c % (m : Int) = (k : Int) ∧ k < m := ⟨(c % (m : Int)).toNat, by
    have := Int.emod_nonneg c (show (m : Int) ≠ 0 by omega)
    omega, by
    have := Int.emod_lt_of_pos c (show (0 : Int) < m by omega)
    have := Int.emod_nonneg c (show (m : Int) ≠ 0 by omega)
    omega⟩
  have hpk := hcut k hkm
  have hlk : (L.take k).length = k := by rw [List.length_take]; omega
  have hin : ∀ x ∈ L.take k, 0 ≤ x ∧ x ≤ 255 := by
    intro x hx
    have hx := List.mem_of_mem_take hx
    rw [← hL] at hx
    exact textF_in _ x hx
  have C1 := fun (ad : Option Addr) cap w hk hr hz => CP (L.take k) k ad cap w hk hlk (by omega) hin hr hz
  rw [hpk] at C1
  unfold hdV at C1 CX
  have HMM := hide hmm
  clear hcut hpk hlk hin hL hmm hcd hm CP CT
  by_cases h2 : k < 2
  · rw [if_pos h2] at C1
    go_enter Tryd.func4, Tryd.ntmps4
    go_wp2_with (first
      | (go_at_call 5; (with_reducible refine (CL _ hk).mono ?_); rintro e w1 ⟨rfl, b1⟩)
      | (go_at_call 6; (with_reducible refine (CX _ (hKB _ _ hk b1)).mono ?_); rintro e w2 ⟨s, rfl, hs, b2⟩; have hsz : s.size = m := (by rw [← byt_len, hs]; exact HMM.out); obtain ⟨cp, w3, hcp, hcv, hrow, b3⟩ := str_bytes s w2; rw [hsz] at hcp hcv; rw [hs] at hrow; have HROW := hide (hrow.first k))
      | (go_at_call 8; (with_reducible refine (C1 _ _ _ (hKB _ _ hk (bt (bt b1 b2) b3)) HROW.out (fun e => by cases e)).mono ?_); rintro e w4 ⟨rfl, b4⟩))
    go_ret
    exact ⟨rfl, ba (bt (bt (bt b1 b2) b3) b4) _⟩
  · rw [if_neg h2] at C1
    have h2' : 2 ≤ k := by omega
    go_enter Tryd.func4, Tryd.ntmps4
    go_wp2_with (first
      | (go_at_call 5; (with_reducible refine (CL _ hk).mono ?_); rintro e w1 ⟨rfl, b1⟩)
      | (go_at_call 6; (with_reducible refine (CX _ (hKB _ _ hk b1)).mono ?_); rintro e w2 ⟨s, rfl, hs, b2⟩; have hsz : s.size = m := (by rw [← byt_len, hs]; exact HMM.out); obtain ⟨cp, w3, hcp, hcv, hrow, b3⟩ := str_bytes s w2; rw [hsz] at hcp hcv; rw [hs] at hrow; have HROW := hide (hrow.first k))
      | (go_at_call 8; (with_reducible refine (C1 _ _ _ (hKB _ _ hk (bt (bt b1 b2) b3)) HROW.out (fun e => by cases e)).mono ?_); rintro e w4 ⟨rfl, b4⟩))
    go_ret
    exact ⟨rfl, ba (bt (bt (bt b1 b2) b3) b4) _⟩
end Go.Proofs.YtmkkhgnhpcgaaaaDoor
