/- The document's heads: no head; a head's text. -/
import Derived.Test.YtoppojilndnghaaDoorS10D
namespace Go.Proofs.YtoppojilndnghaaDoor
open Go.RowKit


theorem hd0_V : hdV hd0 = .agg #[.int .i64 0, .int .i64 0, .int .i64 0, .int .i64 0, .int .i64 0] := rfl
set_option maxHeartbeats 2000000 in
theorem dparse_magic (s : ByteArray) (h : ¬(2 ≤ (byt s).length ∧ (byt s).getD 0 0 = 80 ∧ ((byt s).getD 1 0 = 53 ∨ (byt s).getD 1 0 = 54))) (w : World) :
    Calls Tryd.prog 27 #[.string s] w fun e w' => e = .returned (.tuple #[hdV hd0, .int .i64 1]) ∧ Below w.heap.size w w' := by
  rw [hd0_V]
  rw [byt_len] at h
  have HB := hide (below1 w (.cells #[.int .i64 0, .int .i64 0, .int .i64 0, .int .i64 0, .int .i64 0] 56))
  by_cases h2 : s.size < 2
  · clear h
    obtain ⟨m, hm⟩ : ∃ m, s.size = m := ⟨_, rfl⟩
    rw [hm] at h2
    go_enter Tryd.func27, Tryd.ntmps27
    go_wp2
    exact bodyPost_ret (v := .tuple #[.agg #[.int .i64 0, .int .i64 0, .int .i64 0, .int .i64 0, .int .i64 0], .int .i64 1]) (by simp [results, Tryd.results27, go_sem]) rfl ⟨rfl, HB.out⟩
  · have h2' : 2 ≤ s.size := by omega
    have p0 : 0 < s.size := by omega
    have p1 : 1 < s.size := by omega
    have e0 := byt_at p0
    have e1 := byt_at p1
    generalize (byt s).getD 0 0 = x at *
    generalize (byt s).getD 1 0 = y at *
    obtain ⟨m, hm⟩ : ∃ m, s.size = m := ⟨_, rfl⟩
    have h3 : 2 ≤ m := by omega
    by_cases hx : x = 80
    · have hy : y ≠ 53 ∧ y ≠ 54 := ⟨fun g => h ⟨h2', hx, .inl g⟩, fun g => h ⟨h2', hx, .inr g⟩⟩
      subst hx
      have n1 : (y != 53) = true := bne_iff_ne.2 hy.1
      have n2 : (y != 54) = true := bne_iff_ne.2 hy.2
      clear h hy h2
      go_enter Tryd.func27, Tryd.ntmps27
      go_wp2
      exact bodyPost_ret (v := .tuple #[.agg #[.int .i64 0, .int .i64 0, .int .i64 0, .int .i64 0, .int .i64 0], .int .i64 1]) (by simp [results, Tryd.results27, go_sem]) rfl ⟨rfl, HB.out⟩
    · have n0 : (x != 80) = true := bne_iff_ne.2 hx
      clear h hx h2 e1
      go_enter Tryd.func27, Tryd.ntmps27
      go_wp2
      exact bodyPost_ret (v := .tuple #[.agg #[.int .i64 0, .int .i64 0, .int .i64 0, .int .i64 0, .int .i64 0], .int .i64 1]) (by simp [results, Tryd.results27, go_sem]) rfl ⟨rfl, HB.out⟩
theorem dparse_any (s : ByteArray) (hs : s.size ≤ 1048576) (w : World) :
    Calls Tryd.prog 27 #[.string s] w fun e w' => e = .returned (.tuple #[hdV (parseF (byt s)).1, .int .i64 (parseF (byt s)).2]) ∧ Below w.heap.size w w' := by
  by_cases h : 2 ≤ (byt s).length ∧ (byt s).getD 0 0 = 80 ∧ ((byt s).getD 1 0 = 53 ∨ (byt s).getD 1 0 = 54)
  · have e : parseF (byt s) = bodyF s.size (if (byt s).getD 1 0 = 54 then 3 else 1) ((byt s).drop 2) := by unfold parseF; rw [if_pos h, byt_len]
    rw [e]
    have hl := byt_len s
    obtain ⟨a, b, d⟩ := h
    rcases d with d | d
    · rw [if_neg (by omega)]
      exact dparse_body s hs 1 (.inl rfl) (by omega) b (by rw [d]; rfl) w
    · rw [if_pos d]
      exact dparse_body s hs 3 (.inr rfl) (by omega) b (by rw [d]; rfl) w
  · rw [show parseF (byt s) = (hd0, 1) by unfold parseF; rw [if_neg h]]
    exact dparse_magic s h w
/-! ### Texts -/
theorem conv1 (x : Int) (h0 : 0 ≤ x) (h1 : x ≤ 255) : ∃ q : ByteArray, byt q = [x] ∧ q.size = 1 ∧ ∀ w : World, (convert 22 9 (.slice (some ⟨w.heap.size, 0, none⟩) 1 1)).run Tryd.prog (w.alloc (.cells #[.int .u8 x] 5)) = .ok (.string q) (w.alloc (.cells #[.int .u8 x] 5)) := by
  refine ⟨strOfNums [x], byt_nums (by intro y hy; simp at hy; subst hy; exact ⟨h0, h1⟩), by rw [strOfNums_size]; rfl, fun w => ?_⟩
  refine run_convert_bytes_arg (P := Tryd.prog) (w.alloc (.cells #[.int .u8 x] 5)) 22 5 Tryd.underlying22 Tryd.underlying5 w.heap.size 0 1 1 [x] rfl ?_ 9 Tryd.underlying9
  intro i hi
  obtain rfl : i = 0 := by omega
  simp
theorem decF_len (n : Nat) : ∀ k, 1 ≤ k → n < 10 ^ k → (decF n).length ≤ k := by
  induction n using Nat.strongRecOn with
  | ind n ih =>
    intro k hk hn
    by_cases h : n < 10
    · rw [decF_small h]; simpa using hk
    · rw [decF_more (by omega), List.length_append, List.length_singleton]
      obtain ⟨j, rfl⟩ : ∃ j, k = j + 1 := ⟨k - 1, by omega⟩
      have hj : 1 ≤ j := by
        rcases Nat.eq_zero_or_pos j with e | e
        · subst e; omega
        · exact e
      have := ih (n / 10) (by omega) j hj (by rw [Nat.pow_succ] at hn; omega)
      omega
/-- The digits ahead of the last one. -/
def hiF (n : Nat) : List Int := if n < 10 then [] else decF (n / 10)
theorem decF_last (n : Nat) : decF n = hiF n ++ [48 + ((n % 10 : Nat) : Int)] := by
  unfold hiF
  by_cases h : n < 10
  · rw [if_pos h, decF_small h, Nat.mod_eq_of_lt h]; rfl
  · rw [if_neg h]; exact decF_more (by omega)
set_option maxHeartbeats 1000000 in
theorem dpos_any (N : Nat) (hN : N < 18446744073709551616) (w : World) : Calls Tryd.prog 59 #[.int .u64 (N : Int)] w fun e w' => ∃ t, e = .returned (.string t) ∧ byt t = decF N ∧ Below w.heap.size w w' := by
  have HL := hide (decF_len N 20 (by omega) (by omega))
  have HD := hide (decF_last N)
  obtain ⟨d, hd, hd9⟩ : ∃ d : Int, (N : Int) % 10 = d ∧ 0 ≤ d ∧ d ≤ 9 := ⟨_, rfl, by omega, by omega⟩
  obtain ⟨q, hq, hqs, hqr⟩ := conv1 (48 + d) (by omega) (by omega)
  have HQ := hide (show byt q = [48 + ((N % 10 : Nat) : Int)] by rw [hq, ← hd]; rfl)
  obtain ⟨d0, d1⟩ := hd9
  clear hq
  go_enter Tryd.func59, Tryd.ntmps59
  go_wp2
  clear hd hqr d0 d1
  go_loopw [0, 3] (fun a b wr => ∃ (n : Nat) (t : ByteArray), n < 18446744073709551616 ∧ a = .int .u64 (n : Int) ∧ b = .string t ∧ Hid (hiF n ++ byt t = decF N) ∧ Hid (Below w.heap.size w wr)) (fun a _ _ => (intOf a).toNat)
  case atStart => exact ⟨N, q, hN, rfl, rfl, hide (by rw [HQ.out]; exact HD.out.symm), hide (below1 _ _)⟩
  case round =>
    obtain ⟨n, t, hn, rfl, rfl, ht, hb⟩ := hrel
    by_cases h10 : n < 10
    · have h1 := ht.out
      unfold hiF at h1
      rw [if_pos h10] at h1
      have H1 := hide h1
      clear h1
      go_wp2
      go_ret
      exact ⟨t, rfl, H1.out, hb.out⟩
    · have h1 := ht.out
      have hts : t.size ≤ 20 := by
        have a := congrArg List.length h1
        rw [List.length_append, byt_len] at a
        have := HL.out
        omega
      obtain ⟨n', hn'⟩ : ∃ n' : Nat, n / 10 = n' := ⟨_, rfl⟩
      have hni : (n : Int) / 10 = (n' : Int) := by omega
      obtain ⟨e, he, he0, he1⟩ : ∃ e : Int, (n' : Int) % 10 = e ∧ 0 ≤ e ∧ e ≤ 9 := ⟨_, rfl, by omega, by omega⟩
      obtain ⟨p, hp, hps, hpr⟩ := conv1 (48 + e) (by omega) (by omega)
      have H1 := hide (show hiF n' ++ byt (p ++ t) = decF N by
        rw [byt_add, hp, ← h1]
        have a : hiF n = decF n' := by unfold hiF; rw [if_neg h10, hn']
        rw [a, decF_last n', ← he, List.append_assoc]
        rfl)
      clear h1 hp
      have hnl : n' < n := by omega
      clear hn'
      go_wp2
      go_roundw
      case rel => exact ⟨n', p ++ t, by omega, rfl, rfl, H1, hide (ba hb.out _)⟩
      case measure => simp [intOf]; omega
theorem ddec_any (n : Int) (h0 : -9223372036854775808 ≤ n) (h1 : n ≤ 9223372036854775807) (w : World) : Calls Tryd.prog 50 #[.int .i64 n] w fun e w' => ∃ t, e = .returned (.string t) ∧ byt t = intF n ∧ t.size ≤ 21 ∧ Below w.heap.size w w' := by
  by_cases h : n < 0
  · have CP := fun (x : Int) (hx : x = ((-n).toNat : Int)) w => (show Calls Tryd.prog 59 #[.int .u64 x] w _ from hx ▸ dpos_any (-n).toNat (by omega) w)
    have HL := hide (decF_len (-n).toNat 20 (by omega) (by omega))
    have HE := hide (show intF n = [45] ++ decF (-n).toNat by unfold intF; rw [if_pos h]; rfl)
    go_enter Tryd.func50, Tryd.ntmps50
    go_wp2_with (go_at_call 59; (with_reducible refine (CP _ (by omega) _).mono ?_); rintro e w1 ⟨t, rfl, ht, b1⟩; have hts : t.size ≤ 20 := (by have a := byt_len t; rw [ht] at a; have := HL.out; omega))
    go_ret
    refine ⟨_, rfl, ?_, ?_, b1⟩
    · rw [byt_add, ht, HE.out]; rfl
    · rw [ByteArray.size_append]; show 1 + t.size ≤ 21; omega
  · have CP := fun (x : Int) (hx : x = (n.toNat : Int)) w => (show Calls Tryd.prog 59 #[.int .u64 x] w _ from hx ▸ dpos_any n.toNat (by omega) w)
    have HL := hide (decF_len n.toNat 20 (by omega) (by omega))
    have HE := hide (show intF n = decF n.toNat by unfold intF; rw [if_neg h])
    have h' : 0 ≤ n := by omega
    go_enter Tryd.func50, Tryd.ntmps50
    go_wp2_with (go_at_call 59; (with_reducible refine (CP _ (by omega) _).mono ?_); rintro e w1 ⟨t, rfl, ht, b1⟩; have hts : t.size ≤ 20 := (by have a := byt_len t; rw [ht] at a; have := HL.out; omega))
    go_ret
    exact ⟨_, rfl, by rw [ht, HE.out], by omega, b1⟩
theorem textF_eq (h : Hd) : textF h = ((([80, if h.hc = 3 then 54 else 53] ++ [10]) ++ intF h.hw ++ [32]) ++ intF h.hh ++ [10]) ++ intF h.ht ++ [10] := by unfold textF; simp
theorem s3_below {w w' : World} {R : Nat} {y1 y2 y3 : Value} (h : w.cell? ⟨R, 1, none⟩ = some y1 ∧ w.cell? ⟨R, 2, none⟩ = some y2 ∧ w.cell? ⟨R, 3, none⟩ = some y3) (hb : Below w.heap.size w w') :
    w'.cell? ⟨R, 1, none⟩ = some y1 ∧ w'.cell? ⟨R, 2, none⟩ = some y2 ∧ w'.cell? ⟨R, 3, none⟩ = some y3 := by
  obtain ⟨b1, b2, b3⟩ := h
  have l := cell_ltL b1
  exact ⟨cb hb l b1, cb hb l b2, cb hb l b3⟩
/-- What a head's numbers may be. -/
def HdIn (h : Hd) : Prop := (-9223372036854775808 ≤ h.hw ∧ h.hw ≤ 9223372036854775807) ∧ (-9223372036854775808 ≤ h.hh ∧ h.hh ≤ 9223372036854775807) ∧ (-9223372036854775808 ≤ h.ht ∧ h.ht ≤ 9223372036854775807)
set_option maxHeartbeats 1000000 in
theorem dtext_any (h : Hd) (hin : HdIn h) (w : World) : Calls Tryd.prog 33 #[hdV h] w fun e w' => ∃ t, e = .returned (.string t) ∧ byt t = textF h ∧ Below w.heap.size w w' := by
  rw [textF_eq]
  unfold hdV
  obtain ⟨⟨x0, x1⟩, ⟨y0, y1⟩, ⟨z0, z1⟩⟩ := hin
  have C1 := fun w => ddec_any h.hw x0 x1 w
  have C2 := fun w => ddec_any h.hh y0 y1 w
  have C3 := fun w => ddec_any h.ht z0 z1 w
  clear x0 x1 y0 y1 z0 z1
  by_cases h3 : h.hc = 3
  · have hb : (h.hc == 3) = true := beq_iff_eq.2 h3
    rw [if_pos h3]
    clear h3
    generalize intF h.hw = L1 at *
    generalize intF h.hh = L2 at *
    generalize intF h.ht = L3 at *
    generalize h.hc = c at *
    generalize h.hw = a at *
    generalize h.hh = b at *
    generalize h.ht = t at *
    generalize h.hs = z at *
    go_enter Tryd.func33, Tryd.ntmps33
    go_upto_region 4 with fail
    have q1 : (w.alloc (.cells #[.int .i64 c, .int .i64 a, .int .i64 b, .int .i64 t, .int .i64 z] 56)).cell? ⟨w.heap.size, 1, none⟩ = some (.int .i64 a) := by simp
    have q2 : (w.alloc (.cells #[.int .i64 c, .int .i64 a, .int .i64 b, .int .i64 t, .int .i64 z] 56)).cell? ⟨w.heap.size, 2, none⟩ = some (.int .i64 b) := by simp
    have q3 : (w.alloc (.cells #[.int .i64 c, .int .i64 a, .int .i64 b, .int .i64 t, .int .i64 z] 56)).cell? ⟨w.heap.size, 3, none⟩ = some (.int .i64 t) := by simp
    have HB := hide (below1 w (.cells #[.int .i64 c, .int .i64 a, .int .i64 b, .int .i64 t, .int .i64 z] 56))
    generalize w.alloc (.cells #[.int .i64 c, .int .i64 a, .int .i64 b, .int .i64 t, .int .i64 z] 56) = w1 at *
    obtain ⟨R, hR⟩ : ∃ R, w.heap.size = R := ⟨_, rfl⟩
    have HR := hide hR
    rw [hR] at q1 q2 q3
    simp only [hR]
    clear hR
    have lR := cell_ltL q1
    have hs1 : w1.drew.cell? ⟨R, 1, none⟩ = some (.int .i64 a) ∧ w1.drew.cell? ⟨R, 2, none⟩ = some (.int .i64 b) ∧ w1.drew.cell? ⟨R, 3, none⟩ = some (.int .i64 t) := ⟨q1, q2, q3⟩
    clear q1 q2 q3
    go_region_held3 (fun w' => w'.cell? ⟨R, 1, none⟩ = some (.int .i64 a) ∧ w'.cell? ⟨R, 2, none⟩ = some (.int .i64 b) ∧ w'.cell? ⟨R, 3, none⟩ = some (.int .i64 t)) (first | assumption | go_keep)
      (first
        | (go_at_call 50; (with_reducible refine (C1 _).mono ?_); rintro e w2 ⟨t1, rfl, ht1, hz1, b2⟩; have hs2 := s3_below hs1 b2; have g1 : ¬ (9223372036854775807 < 3 + t1.size) := (by omega); have g1' : ¬ (9223372036854775807 < 3 + t1.size + 1) := (by omega))
        | (go_at_call 50; (with_reducible refine (C2 _).mono ?_); rintro e w3 ⟨t2, rfl, ht2, hz2, b3⟩; have hs3 := s3_below hs2 b3; have g2 : ¬ (9223372036854775807 < 3 + t1.size + 1 + t2.size) := (by omega); have g2' : ¬ (9223372036854775807 < 3 + t1.size + 1 + t2.size + 1) := (by omega))
        | (go_at_call 50; (with_reducible refine (C3 _).mono ?_); rintro e w4 ⟨t3, rfl, ht3, hz3, b4⟩; have hs4 := s3_below hs3 b4; have g3 : ¬ (9223372036854775807 < 3 + t1.size + 1 + t2.size + 1 + t3.size) := (by omega); have g3' : ¬ (9223372036854775807 < 3 + t1.size + 1 + t2.size + 1 + t3.size + 1) := (by omega)))
    go_wp2
    go_ret
    refine ⟨_, rfl, ?_, bt (bt (bt (bd HB.out) b2) b3) b4⟩
    simp only [byt_add, ht1, ht2, ht3]
    rfl
  · have hb : (h.hc == 3) = false := beq_eq_false_iff_ne.2 h3
    rw [if_neg h3]
    clear h3
    generalize intF h.hw = L1 at *
    generalize intF h.hh = L2 at *
    generalize intF h.ht = L3 at *
    generalize h.hc = c at *
    generalize h.hw = a at *
    generalize h.hh = b at *
    generalize h.ht = t at *
    generalize h.hs = z at *
    go_enter Tryd.func33, Tryd.ntmps33
    go_upto_region 4 with fail
    have q1 : (w.alloc (.cells #[.int .i64 c, .int .i64 a, .int .i64 b, .int .i64 t, .int .i64 z] 56)).cell? ⟨w.heap.size, 1, none⟩ = some (.int .i64 a) := by simp
    have q2 : (w.alloc (.cells #[.int .i64 c, .int .i64 a, .int .i64 b, .int .i64 t, .int .i64 z] 56)).cell? ⟨w.heap.size, 2, none⟩ = some (.int .i64 b) := by simp
    have q3 : (w.alloc (.cells #[.int .i64 c, .int .i64 a, .int .i64 b, .int .i64 t, .int .i64 z] 56)).cell? ⟨w.heap.size, 3, none⟩ = some (.int .i64 t) := by simp
    have HB := hide (below1 w (.cells #[.int .i64 c, .int .i64 a, .int .i64 b, .int .i64 t, .int .i64 z] 56))
    generalize w.alloc (.cells #[.int .i64 c, .int .i64 a, .int .i64 b, .int .i64 t, .int .i64 z] 56) = w1 at *
    obtain ⟨R, hR⟩ : ∃ R, w.heap.size = R := ⟨_, rfl⟩
    have HR := hide hR
    rw [hR] at q1 q2 q3
    simp only [hR]
    clear hR
    have lR := cell_ltL q1
    have hs1 : w1.drew.cell? ⟨R, 1, none⟩ = some (.int .i64 a) ∧ w1.drew.cell? ⟨R, 2, none⟩ = some (.int .i64 b) ∧ w1.drew.cell? ⟨R, 3, none⟩ = some (.int .i64 t) := ⟨q1, q2, q3⟩
    clear q1 q2 q3
    go_region_held3 (fun w' => w'.cell? ⟨R, 1, none⟩ = some (.int .i64 a) ∧ w'.cell? ⟨R, 2, none⟩ = some (.int .i64 b) ∧ w'.cell? ⟨R, 3, none⟩ = some (.int .i64 t)) (first | assumption | go_keep)
      (first
        | (go_at_call 50; (with_reducible refine (C1 _).mono ?_); rintro e w2 ⟨t1, rfl, ht1, hz1, b2⟩; have hs2 := s3_below hs1 b2; have g1 : ¬ (9223372036854775807 < 3 + t1.size) := (by omega); have g1' : ¬ (9223372036854775807 < 3 + t1.size + 1) := (by omega))
        | (go_at_call 50; (with_reducible refine (C2 _).mono ?_); rintro e w3 ⟨t2, rfl, ht2, hz2, b3⟩; have hs3 := s3_below hs2 b3; have g2 : ¬ (9223372036854775807 < 3 + t1.size + 1 + t2.size) := (by omega); have g2' : ¬ (9223372036854775807 < 3 + t1.size + 1 + t2.size + 1) := (by omega))
        | (go_at_call 50; (with_reducible refine (C3 _).mono ?_); rintro e w4 ⟨t3, rfl, ht3, hz3, b4⟩; have hs4 := s3_below hs3 b4; have g3 : ¬ (9223372036854775807 < 3 + t1.size + 1 + t2.size + 1 + t3.size) := (by omega); have g3' : ¬ (9223372036854775807 < 3 + t1.size + 1 + t2.size + 1 + t3.size + 1) := (by omega)))
    go_wp2
    go_ret
    refine ⟨_, rfl, ?_, bt (bt (bt (bd HB.out) b2) b3) b4⟩
    simp only [byt_add, ht1, ht2, ht3]
    rfl
end Go.Proofs.YtoppojilndnghaaDoor
