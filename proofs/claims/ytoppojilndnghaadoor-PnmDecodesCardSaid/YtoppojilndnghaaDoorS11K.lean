/- Images as bytes: the laws on images' bytes: there and back, cut off, one sample above. -/
import Derived.Test.YtoppojilndnghaaDoorS11J
namespace Go.Proofs.YtoppojilndnghaaDoor
open Go.RowKit


theorem enc_small {I : Im} (h : ImOk I) (h1 : I.iw ≤ 20) (h2 : I.ih ≤ 20) : 8 ≤ (encF I).length ∧ (encF I).length ≤ 2470 ∧ 1 ≤ I.il.length ∧ I.il.length ≤ 1200 ∧ ∀ x ∈ encF I, 0 ≤ x ∧ x ≤ 255 := by
  have hT := textF_len (h := ⟨I.ic, I.iw, I.ih, I.it, 0⟩) (imOk_code h)
  have hin := imOk_in h
  have l0 := (imOk_len h).1
  obtain ⟨a0, a1, b0, b1, hc, t0, t1, hm, hl, hx⟩ := h
  have m : I.iw * I.ih ≤ 400 := by
    have := Int.mul_le_mul h1 h2 (by omega) (by omega)
    omega
  have hL : I.il.length ≤ 1200 := by rcases hc with e | e <;> rw [e] at hl <;> omega
  have hp := packF_len I.it I.il
  have hw := widthN_in I.it
  have hm2 : I.il.length * widthN I.it ≤ 1200 * 2 := Nat.mul_le_mul hL hw.2
  unfold encF
  rw [List.length_append, hp]
  refine ⟨by omega, by omega, l0, hL, fun x hx' => ?_⟩
  rcases List.mem_append.1 hx' with q | q
  · exact textF_in _ x q
  · exact packF_in I.it I.il (fun v hv => by have := hx v hv; omega) x q
set_option maxHeartbeats 2000000 in
set_option maxRecDepth 100000 in
theorem cuts_main {K : World → Prop} (hKB : KB K) (CP : HParseC K) (CT : HTextC K) (a b c t : Int) (xs : List Int) (ad : Option Addr) (cap : Nat) (u : Int) (w : World) (hk : K w) (a0 : 0 ≤ a) (b0 : 0 ≤ b) (c0 : 0 ≤ c) (t0 : 0 ≤ t) (t1 : t ≤ 65535) (u0 : 0 ≤ u) (u1 : u ≤ 65535) (hr : RowAt .u16 w ad xs) (hx : ∀ x ∈ xs, 0 ≤ x ∧ x ≤ 65535) (hl : xs.length ≤ maxLen) :
    Calls Tryd.prog 5 #[.int .u16 a, .int .u16 b, .int .u16 c, .int .u16 t, .slice ad xs.length cap, .int .u16 u] w fun e w' => e = .returned (.bool true) ∧ Below w.heap.size w w' := by
  have CL := fun w hk => plives hKB CP CT w hk
  have CE := fun {w : World} {g h : Nat} {I : Im} (H : ImgAt w g h I) hk => pencode_any hKB CT H hk
  have CD := fun w hr => draw_any a b c t xs ad cap w a0 b0 c0 t0 t1 hr hx hl
  have hKB : ∀ w w', K w → Below w.heap.size w w' → K w' := hKB
  have HR := hide hr
  have q1 : ∀ (g : Nat) (w : World), (binOp .eql 24 (.pointer (some ⟨g, 0, none⟩)) (.pointer none)).run Tryd.prog w = .ok (.bool false) w := fun g w => by kernel_rfl
  have q2 : ∀ (w : World), (binOp .eql 24 (.pointer none) (.pointer none)).run Tryd.prog w = .ok (.bool true) w := fun w => by kernel_rfl
  clear hr hx hl a0 b0 c0 t0 t1 CT
  generalize xs.length = nl at *
  go_enter Tryd.func5, Tryd.ntmps5
  go_upto_region 7 with (first
    | (go_at_call 8; (with_reducible refine (CL _ hk).mono ?_); rintro e w1 ⟨rfl, b1⟩)
    | (go_at_call 13; (with_reducible refine (CD _ (HR.out.below b1)).mono ?_); rintro e w2 ⟨v, I, rfl, ⟨g, h, rfl, gB, hB, hi⟩, i20, j20, b2⟩; have HI := hide hi; clear hi)
    | (go_at_call 14; (with_reducible refine (CE HI.out (hKB _ _ hk (bt b1 b2))).mono ?_); rintro e w3 ⟨v3, rfl, own3, b3⟩))
  obtain ⟨n0, n1, _, _, hin⟩ := enc_small HI.out.ok i20 j20
  have hcut := fun k hk => decode_cut HI.out.ok (k := k) hk
  obtain ⟨n, hn⟩ : ∃ n, (encF I).length = n := ⟨_, rfl⟩
  obtain ⟨ad3, cap3, rfl, hr3, hz3, _, hc3⟩ := own3.form
  rw [hn] at n0 n1 hcut hc3 ⊢
  obtain ⟨k, hkk, hkn⟩ : ∃ k : Nat, u % (n : Int) = (k : Int) ∧ k < n := ⟨(u % (n : Int)).toNat, by
    have := Int.emod_nonneg u (show (n : Int) ≠ 0 by omega)
    omega, by
    have := Int.emod_lt_of_pos u (show (0 : Int) < n by omega)
    have := Int.emod_nonneg u (show (n : Int) ≠ 0 by omega)
    omega⟩
  have hk2 : u.tmod (n : Int) = (k : Int) := by rw [Int.tmod_eq_emod_of_nonneg u0]; exact hkk
  have hpk := hcut k hkn
  have hlk : ((encF I).take k).length = k := by rw [List.length_take]; omega
  have hcode : ((if k < 2 then 1 else 3 : Int) ≠ 0) := by split <;> decide
  have HROW := hide (hr3.first k)
  have CDC := fun (w : World) (hk : K w) (hr : RowAt .u8 w ad3 ((encF I).take k)) => (pdecode_any CP ((encF I).take k) k hlk (by omega) (fun x hx => hin x (List.mem_of_mem_take hx)) ad3 cap3 (by omega) w hk hr (fun e => (hz3 e).2)).mono fun e w' (hA : DecAns w.heap.size e w' (decodeF ((encF I).take k)) ∧ Below w.heap.size w w') => show e = .returned (.tuple #[.pointer none, .int .i64 (if k < 2 then 1 else 3)]) ∧ Below w.heap.size w w' by
    rw [hpk] at hA
    obtain ⟨hA, hB⟩ := hA
    rcases hA with ⟨_, he⟩ | ⟨h0, _⟩
    · exact ⟨he, hB⟩
    · exact absurd h0 hcode
  have HK3 := hide (hKB _ _ hk (bt (bt b1 b2) b3))
  have nz : ((n : Int) == 0) = false := beq_eq_false_iff_ne.2 (by omega)
  have nz' : ((n : Int) != 0) = true := bne_iff_ne.2 (by omega)
  have hkc : k ≤ cap3 := by omega
  clear hcut hpk hlk hcode hin CP CE CD CL own3 hr3 hz3 hn
  by_cases h2 : k < 2
  · rw [if_pos h2] at CDC
    go_wp2_with (go_at_call 9; (with_reducible refine (CDC _ HK3.out HROW.out).mono ?_); rintro e w4 ⟨rfl, b4⟩)
    go_ret
    exact ⟨ret_bool (decide_eq_true (by omega)), bt (bt (bt b1 b2) b3) b4⟩
  · rw [if_neg h2] at CDC
    have h2' : 2 ≤ k := by omega
    go_wp2_with (go_at_call 9; (with_reducible refine (CDC _ HK3.out HROW.out).mono ?_); rintro e w4 ⟨rfl, b4⟩)
    go_ret
    exact ⟨rfl, bt (bt (bt b1 b2) b3) b4⟩
end Go.Proofs.YtoppojilndnghaaDoor
