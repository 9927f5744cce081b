/- Heads: the law on texts, out of what the program's calls answer. -/
import Derived.Test.YtmkkhgnhpcgaaaaDoorS10I
namespace Go.Proofs.YtmkkhgnhpcgaaaaDoor
open Go.RowKit


theorem intF_len2 {n : Int} (h0 : -9223372036854775808 ≤ n) (h1 : n ≤ 9223372036854775807) : (intF n).length ≤ 20 := by
  unfold intF
  split
  · have := decF_len (-n).toNat 19 (by omega) (by omega)
    rw [List.length_cons]
    omega
  · exact decF_len n.toNat 20 (by omega) (by omega)
theorem textF_len2 {h : Hd} (hin : HdIn h) : (textF h).length ≤ 70 := by
  obtain ⟨⟨x0, x1⟩, ⟨y0, y1⟩, ⟨z0, z1⟩⟩ := hin
  have a := intF_len2 x0 x1
  have b := intF_len2 y0 y1
  have c := intF_len2 z0 z1
  unfold textF
  simp only [List.length_cons, List.length_append, List.length_nil]
  omega
set_option maxHeartbeats 2000000 in
theorem texts_main {K : World → Prop} (hKB : KB K) (CP : HParseC K) (CT : HTextC K) (h : Hd) (hin : HdIn h) (xs : List Int) (n : Nat) (hn : xs.length = n) (h100 : n ≤ 100) (ad : Option Addr) (cap : Nat) (w : World) (hk : K w) (hr : RowAt .u8 w ad xs) (hx : ∀ x ∈ xs, 0 ≤ x ∧ x ≤ 255) (hz : ad = none → cap = 0) :
    Calls Tryd.prog 3 #[hdV h, .slice ad n cap] w fun e w' => e = .returned (.bool true) ∧ Below w.heap.size w w' := by
  have CL := fun w hk => hlives hKB CP w hk
  have hKB : ∀ w w', K w → Below w.heap.size w w' → K w' := hKB
  have C1 := fun w hk => CT h hin w hk
  have C2 := fun w => dtext_any h hin w
  have hlen := textF_len2 hin
  have hcode := fun hk => parse_text (h := h) hk xs
  have hbytes := textF_in h
  obtain ⟨L, hL⟩ : ∃ L, textF h = L := ⟨_, rfl⟩
  rw [hL] at C1 C2 hlen hcode hbytes
  obtain ⟨m, hm⟩ : ∃ m, L.length = m := ⟨_, rfl⟩
  rw [hm] at hlen hcode
  have C3 := fun (ad : Option Addr) cap w hk hr hz => CP (L ++ xs) (m + n) ad cap w hk (by rw [List.length_append, hm, hn]) (by omega) (by
    intro x hx'
    rcases List.mem_append.1 hx' with q | q
    · exact hbytes x q
    · exact hx x q) hr hz
  have C4 := fun w => dcode_any h.hw h.hh h.hc h.ht w
  unfold hdV at C1 C2 C3 ⊢
  have HR := hide hr
  have HN := hide hn
  have HZ := hide hz
  have HM := hide hm
  obtain ⟨cd, hcd⟩ : ∃ cd, codeF h.hw h.hh h.hc h.ht = cd := ⟨_, rfl⟩
  rw [hcd] at C4 hcode
  obtain ⟨⟨⟨a', b', c', d', e'⟩, k'⟩, hP⟩ : ∃ r, parseF (L ++ xs) = r := ⟨_, rfl⟩
  rw [hP] at C3 hcode
  simp only at C3
  clear hL hm hn hr hz hx hbytes hP CP CT hcd hin
  by_cases hc0 : cd = 0
  · subst hc0
    have hq := hcode rfl
    simp only [Prod.mk.injEq, Hd.mk.injEq] at hq
    obtain ⟨⟨rfl, rfl, rfl, rfl, rfl⟩, rfl⟩ := hq
    clear hcode
    generalize h.hc = a at *
    generalize h.hw = b at *
    generalize h.hh = c at *
    generalize h.ht = d at *
    generalize h.hs = z at *
    have qa : (a == a) = true := beq_self_eq_true a
    have qb : (b == b) = true := beq_self_eq_true b
    have qc : (c == c) = true := beq_self_eq_true c
    have qd : (d == d) = true := beq_self_eq_true d
    have qm : ((m : Int) == (m : Int)) = true := beq_self_eq_true _
    go_enter Tryd.func3, Tryd.ntmps3
    go_wp2_with (first
      | (go_at_call 5; (with_reducible refine (CL _ (hKB _ _ hk (below1 _ _))).mono ?_); rintro e w1 ⟨rfl, b1⟩; have p0 := cb b1 (b := w.heap.size) (o := 0) (v := .int .i64 a) (by simp) (by simp); have p1 := cb b1 (b := w.heap.size) (o := 1) (v := .int .i64 b) (by simp) (by simp); have p2 := cb b1 (b := w.heap.size) (o := 2) (v := .int .i64 c) (by simp) (by simp); have p3 := cb b1 (b := w.heap.size) (o := 3) (v := .int .i64 d) (by simp) (by simp); have p4 := cb b1 (b := w.heap.size) (o := 4) (v := .int .i64 z) (by simp) (by simp); have z4 := fb b1 (b := w.heap.size) (o := 4) (by simp) (by simp); have lR1 : w.heap.size < w1.heap.size := (by have := b1.size; simp at this; omega))
      | (go_at_call 6; (with_reducible refine (C1 _ (hKB _ _ hk (bt (below1 _ _) b1))).mono ?_); rintro e w2 ⟨t, rfl, ht, b2⟩; have hsz : t.size = m := (by rw [← byt_len, ht]; exact HM.out); replace p0 := cb b2 lR1 p0; replace p1 := cb b2 lR1 p1; replace p2 := cb b2 lR1 p2; replace p3 := cb b2 lR1 p3; replace p4 := cb b2 lR1 p4; replace z4 := fb b2 lR1 z4; have lR2 : w.heap.size < w2.heap.size := Nat.lt_of_lt_of_le lR1 b2.size)
      | (go_at_call 7; (with_reducible refine (C2 _).mono ?_); rintro e w3 ⟨t', rfl, ht', b3⟩; obtain rfl := byt_inj (ht'.trans ht.symm); clear ht; replace p0 := cb b3 lR2 p0; replace p1 := cb b3 lR2 p1; replace p2 := cb b3 lR2 p2; replace p3 := cb b3 lR2 p3; replace p4 := cb b3 lR2 p4; replace z4 := fb b3 lR2 z4; have lR3 : w.heap.size < w3.heap.size := Nat.lt_of_lt_of_le lR2 b3.size; have bw3 := bt (bt (bt (below1 w _) b1) b2) b3; obtain ⟨cp, w4, v5, w5, hcv, hap, ⟨g5, c5, rfl, hrow5⟩, b5⟩ := str_app t' HN.out w3 (HR.out.below bw3) HZ.out (by omega); rw [hsz] at hcv hap; rw [ht'] at hrow5; have HROW := hide hrow5; clear hrow5 ht')
      | (at_builtin; refine wpList_append_run _ rfl _ _ 24 rfl _ _ rfl rfl _ _ hap ?_)
      | (go_at_call 8; (with_reducible refine (C3 _ _ _ (hKB _ _ hk (bt bw3 b5)) HROW.out (fun e => by cases e)).mono ?_); rintro e w6 ⟨rfl, b6⟩; have b56 := bt b5 b6; replace p0 := cb b56 lR3 p0; replace p1 := cb b56 lR3 p1; replace p2 := cb b56 lR3 p2; replace p3 := cb b56 lR3 p3; replace p4 := cb b56 lR3 p4; replace z4 := fb b56 lR3 z4; have lR6 : w.heap.size < w6.heap.size := Nat.lt_of_lt_of_le lR3 b56.size)
      | (go_at_call 9; (with_reducible refine (C4 _).mono ?_); rintro e w7 ⟨rfl, rfl⟩))
    go_ret
    exact ⟨rfl, ba (bs (bt bw3 b56) (b := w.heap.size) (o := 4) (Nat.le_refl _) _) _⟩
  · clear hcode
    have hcz : (cd != 0) = true := bne_iff_ne.2 hc0
    clear hc0
    generalize h.hc = a at *
    generalize h.hw = b at *
    generalize h.hh = c at *
    generalize h.ht = d at *
    generalize h.hs = z at *
    go_enter Tryd.func3, Tryd.ntmps3
    go_wp2_with (first
      | (go_at_call 5; (with_reducible refine (CL _ (hKB _ _ hk (below1 _ _))).mono ?_); rintro e w1 ⟨rfl, b1⟩; have p0 := cb b1 (b := w.heap.size) (o := 0) (v := .int .i64 a) (by simp) (by simp); have p1 := cb b1 (b := w.heap.size) (o := 1) (v := .int .i64 b) (by simp) (by simp); have p2 := cb b1 (b := w.heap.size) (o := 2) (v := .int .i64 c) (by simp) (by simp); have p3 := cb b1 (b := w.heap.size) (o := 3) (v := .int .i64 d) (by simp) (by simp); have p4 := cb b1 (b := w.heap.size) (o := 4) (v := .int .i64 z) (by simp) (by simp); have z4 := fb b1 (b := w.heap.size) (o := 4) (by simp) (by simp); have lR1 : w.heap.size < w1.heap.size := (by have := b1.size; simp at this; omega))
      | (go_at_call 6; (with_reducible refine (C1 _ (hKB _ _ hk (bt (below1 _ _) b1))).mono ?_); rintro e w2 ⟨t, rfl, ht, b2⟩; have hsz : t.size = m := (by rw [← byt_len, ht]; exact HM.out); replace p0 := cb b2 lR1 p0; replace p1 := cb b2 lR1 p1; replace p2 := cb b2 lR1 p2; replace p3 := cb b2 lR1 p3; replace p4 := cb b2 lR1 p4; replace z4 := fb b2 lR1 z4; have lR2 : w.heap.size < w2.heap.size := Nat.lt_of_lt_of_le lR1 b2.size)
      | (go_at_call 7; (with_reducible refine (C2 _).mono ?_); rintro e w3 ⟨t', rfl, ht', b3⟩; obtain rfl := byt_inj (ht'.trans ht.symm); clear ht; replace p0 := cb b3 lR2 p0; replace p1 := cb b3 lR2 p1; replace p2 := cb b3 lR2 p2; replace p3 := cb b3 lR2 p3; replace p4 := cb b3 lR2 p4; replace z4 := fb b3 lR2 z4; have lR3 : w.heap.size < w3.heap.size := Nat.lt_of_lt_of_le lR2 b3.size; have bw3 := bt (bt (bt (below1 w _) b1) b2) b3; obtain ⟨cp, w4, v5, w5, hcv, hap, ⟨g5, c5, rfl, hrow5⟩, b5⟩ := str_app t' HN.out w3 (HR.out.below bw3) HZ.out (by omega); rw [hsz] at hcv hap; rw [ht'] at hrow5; have HROW := hide hrow5; clear hrow5 ht')
      | (at_builtin; refine wpList_append_run _ rfl _ _ 24 rfl _ _ rfl rfl _ _ hap ?_)
      | (go_at_call 8; (with_reducible refine (C3 _ _ _ (hKB _ _ hk (bt bw3 b5)) HROW.out (fun e => by cases e)).mono ?_); rintro e w6 ⟨rfl, b6⟩; have b56 := bt b5 b6; replace p0 := cb b56 lR3 p0; replace p1 := cb b56 lR3 p1; replace p2 := cb b56 lR3 p2; replace p3 := cb b56 lR3 p3; replace p4 := cb b56 lR3 p4; replace z4 := fb b56 lR3 z4; have lR6 : w.heap.size < w6.heap.size := Nat.lt_of_lt_of_le lR3 b56.size)
      | (go_at_call 9; (with_reducible refine (C4 _).mono ?_); rintro e w7 ⟨rfl, rfl⟩))
    go_ret
    exact ⟨rfl, ba (bt bw3 b56) _⟩
theorem of_HeaderTexts {K : World → Prop} (hKB : KB K) (CP : HParseC K) (CT : HTextC K) (h : Hd) (hin : HdIn h) (xs : List Int) (ad : Option Addr) (cap : Nat) (w : World) (hk : K w) (hr : RowAt .u8 w ad xs) (hx : AllK .u8 xs) (hl : xs.length ≤ maxLen) (hz : ad = none → cap = 0) :
    Calls Tryd.prog 3 #[hdV h, .slice ad xs.length cap] w fun e w' => e = .returned (.bool true) ∧ Below w.heap.size w w' := by
  by_cases h1 : xs.length ≤ 100
  · exact texts_main hKB CP CT h hin xs _ rfl h1 ad cap w hk hr (fun x hx' => by simpa [Lit.wf, IntKind.min, IntKind.max, IntKind.signed, IntKind.bits] using hx x hx') hz
  · have hl2 : xs.length ≤ 9223372036854775807 := hl
    have CL := fun w hk => hlives hKB CP w hk
    have hKB : ∀ w w', K w → Below w.heap.size w w' → K w' := hKB
    generalize xs.length = n at *
    unfold hdV
    generalize h.hc = a at *
    generalize h.hw = b at *
    generalize h.hh = c at *
    generalize h.ht = d at *
    generalize h.hs = z at *
    clear hr hx hz hl CP CT hin
    go_enter Tryd.func3, Tryd.ntmps3
    go_wp2_with (first
      | (go_at_call 5; (with_reducible refine (CL (w.alloc _) (hKB _ _ hk (below1 _ _))).mono ?_); rintro e w1 ⟨rfl, b1⟩)
      | (go_at_call 5; (with_reducible refine (CL w1 (hKB _ _ hk (bt (below1 _ _) b1))).mono ?_); rintro e w2 ⟨rfl, b2⟩))
    go_ret
    exact ⟨rfl, bt (bt (below1 _ _) b1) b2⟩
end Go.Proofs.YtmkkhgnhpcgaaaaDoor
