/- Heads: the law on remarks and blanks, out of what the program's calls answer. -/
import Derived.Test.YtmkkhgnhpcgaaaaS10H
import Derived.Deep.AppendSrc
import Derived.Laws.IdiomCopy
import Derived.OwnWalk
namespace Go.Proofs.Ytmkkhgnhpcgaaaa
open Go.RowKit


theorem keepF_snoc (l : List Int) (x : Int) : keepF (l ++ [x]) = keepF l ++ (if x ≠ 10 ∧ x ≠ 13 then [x] else []) := by
  unfold keepF
  rw [List.filter_append]
  by_cases h : x ≠ 10 ∧ x ≠ 13
  · rw [if_pos h, List.filter_cons, if_pos (by exact decide_eq_true h), List.filter_nil]
  · rw [if_neg h, List.filter_cons, if_neg (by rw [decide_eq_false h]; decide), List.filter_nil]
set_option maxHeartbeats 1000000 in
theorem gap_any (xs : List Int) (n : Nat) (hn : xs.length = n) (hl : n ≤ 100) (hx : ∀ x ∈ xs, 0 ≤ x ∧ x ≤ 255) (ad : Option Addr) (cap : Nat) (w : World) (hr : RowAt .u8 w ad xs) :
    Calls Try.prog 9 #[.slice ad n cap] w fun e w' => ∃ t, e = .returned (.string t) ∧ byt t = gapF xs ∧ t.size ≤ 102 ∧ Below w.heap.size w w' := by
  have HR := hide hr
  have HN := hide hn
  have HX := hide hx
  clear hr hn hx
  go_enter Try.func9, Try.ntmps9
  go_wp2
  go_loopw [3, 8] (fun a b wr => ∃ (k : Nat) (t : ByteArray), k ≤ n ∧ a = .string t ∧ b = .int .i64 (k : Int) ∧ t.size ≤ 1 + k ∧ Hid (byt t = 35 :: keepF (xs.take k)) ∧ Hid (Below w.heap.size w wr)) (fun _ b _ => n - (intOf b).toNat)
  case atStart => exact ⟨0, ⟨#[35]⟩, by omega, rfl, rfl, (by show 1 ≤ 1 + 0; omega), (by rw [List.take_zero]; rfl), hide (Below.refl _ _)⟩
  case round =>
    obtain ⟨k, t, hk, rfl, rfl, hts, ht, hb⟩ := hrel
    by_cases hlt : k < n
    · obtain ⟨b, off, rfl, hc⟩ := (HR.out.below hb.out).get (show k < xs.length by rw [HN.out]; exact hlt)
      have hst := take_step xs (show k < xs.length by rw [HN.out]; exact hlt)
      have hu : 0 ≤ xs.getD k 0 ∧ xs.getD k 0 ≤ 255 := by
        rw [List.getD_eq_getElem?_getD, List.getElem?_eq_getElem (show k < xs.length by rw [HN.out]; exact hlt)]
        exact HX.out _ (List.getElem_mem _)
      generalize xs.getD k 0 = x at *
      have hkp := keepF_snoc (xs.take k) x
      rw [← hst] at hkp
      by_cases hs : x = 10 ∨ x = 13
      · rw [if_neg (by omega), List.append_nil] at hkp
        have HK := hide hkp
        clear hkp hst
        rcases hs with rfl | rfl
        all_goals
          go_wp2
          go_roundw
          case rel => exact ⟨k + 1, t, by omega, rfl, by go_num, by omega, hide (by rw [HK.out]; exact ht.out), hb⟩
          case measure => simp [intOf]; omega
      · rw [if_pos (by omega)] at hkp
        have e10 : (x != 10) = true := bne_iff_ne.2 (by omega)
        have e13 : (x != 13) = true := bne_iff_ne.2 (by omega)
        obtain ⟨q, hq, hqs, hqr⟩ := conv1 x hu.1 hu.2
        have HK := hide (show byt (t ++ q) = 35 :: keepF (xs.take (k + 1)) by rw [byt_add, hkp, ht.out, hq]; rfl)
        have HS := hide (show (t ++ q).size ≤ 1 + (k + 1) by rw [ByteArray.size_append]; omega)
        clear hkp hst hs hq
        go_wp2
        go_roundw
        case rel => exact ⟨k + 1, t ++ q, by omega, rfl, by go_num, HS.out, HK, hide (ba hb.out _)⟩
        case measure => simp [intOf]; omega
    · obtain rfl : n = k := by omega
      have h1 := ht.out
      rw [List.take_of_length_le (by rw [HN.out]; exact Nat.le_refl _)] at h1
      have HE := hide h1
      clear hlt h1
      go_wp2
      go_ret
      refine ⟨_, rfl, ?_, ?_, hb.out⟩
      · rw [byt_add, HE.out]; rfl
      · rw [ByteArray.size_append]; show t.size + 1 ≤ 102; omega
theorem num_any (n : Int) (h0 : -9223372036854775808 ≤ n) (h1 : n ≤ 9223372036854775807) (w : World) : Calls Try.prog 10 #[.int .i64 n] w fun e w' => ∃ t, e = .returned (.string t) ∧ byt t = intF n ∧ t.size ≤ 21 ∧ Below w.heap.size w w' := by
  have C := fun w => ddec_any n h0 h1 w
  go_enter Try.func10, Try.ntmps10
  go_wp2_with (go_at_call 11; (with_reducible refine (C _).mono ?_); rintro e w1 ⟨t, rfl, ht, hz, b1⟩)
  go_ret
  exact ⟨_, rfl, ht, hz, b1⟩
set_option maxHeartbeats 4000000 in
theorem remarks_main {K : World → Prop} (hKB : KB K) (CP : HParseC K) (a b t : Int) (a0 : 0 ≤ a) (b0 : 0 ≤ b) (t0 : 0 ≤ t) (t9 : t ≤ 65535) (xs ys zs : List Int) (n1 n2 n3 : Nat) (m1 : xs.length = n1) (m2 : ys.length = n2) (m3 : zs.length = n3) (h60 : n1 + n2 + n3 ≤ 60) (ad1 ad2 ad3 : Option Addr) (c1 c2 c3 : Nat) (w : World) (hk : K w) (r1 : RowAt .u8 w ad1 xs) (r2 : RowAt .u8 w ad2 ys) (r3 : RowAt .u8 w ad3 zs) (x1 : ∀ x ∈ xs, 0 ≤ x ∧ x ≤ 255) (x2 : ∀ x ∈ ys, 0 ≤ x ∧ x ≤ 255) (x3 : ∀ x ∈ zs, 0 ≤ x ∧ x ≤ 255) :
    Calls Try.prog 4 #[.int .u16 a, .int .u16 b, .int .u16 t, .slice ad1 n1 c1, .slice ad2 n2 c2, .slice ad3 n3 c3] w fun e w' => e = .returned (.bool true) ∧ Below w.heap.size w w' := by
  have CL := fun w hk => hlives hKB CP w hk
  have hKB : ∀ w w', K w → Below w.heap.size w w' → K w' := hKB
  obtain ⟨W, hW, W0, W1⟩ : ∃ W, 1 + a % 2000 = W ∧ 1 ≤ W ∧ W ≤ 2000 := ⟨_, rfl, by omega, by omega⟩
  obtain ⟨H, hH, H0, H1⟩ : ∃ H, 1 + b % 2000 = H ∧ 1 ≤ H ∧ H ≤ 2000 := ⟨_, rfl, by omega, by omega⟩
  obtain ⟨T, hT, T0, T1⟩ : ∃ T, 1 + t % 65535 = T ∧ 1 ≤ T ∧ T ≤ 65535 := ⟨_, rfl, by omega, by omega⟩
  have hm := Int.mul_le_mul W1 H1 (by omega) (by omega)
  have hcd : codeF W H 1 T = 0 := codeF_of T0 T1 W0 (by omega) H0 (by omega) (.inl rfl) (by omega)
  have hpg := parse_gaps (a := W.toNat) (b := H.toNat) (t := T.toNat) (by rw [show ((W.toNat : Nat) : Int) = W by omega, show ((H.toNat : Nat) : Int) = H by omega, show ((T.toNat : Nat) : Int) = T by omega]; exact hcd) xs ys zs
  rw [show ((W.toNat : Nat) : Int) = W by omega, show ((H.toNat : Nat) : Int) = H by omega, show ((T.toNat : Nat) : Int) = T by omega] at hpg
  have G1 := fun w hr => gap_any xs n1 m1 (by omega) x1 ad1 c1 w hr
  have G2 := fun w hr => gap_any ys n2 m2 (by omega) x2 ad2 c2 w hr
  have G3 := fun w hr => gap_any zs n3 m3 (by omega) x3 ad3 c3 w hr
  have N1 := fun w => num_any W (by omega) (by omega) w
  have N2 := fun w => num_any H (by omega) (by omega) w
  have N3 := fun w => num_any T (by omega) (by omega) w
  rw [intF_pos (by omega)] at N1 N2 N3
  have HPG := hide hpg
  have HR1 := hide r1
  have HR2 := hide r2
  have HR3 := hide r3
  clear hpg hcd hm r1 r2 r3 x1 x2 x3 m1 m2 m3
  go_enter Try.func4, Try.ntmps4
  go_upto_region 6 with (go_at_call 6; (with_reducible refine (CL _ hk).mono ?_); rintro e w1 ⟨rfl, b1⟩)
  have p0 : (w1.alloc (.cells #[.int .i64 1, .int .i64 W, .int .i64 H, .int .i64 T, .int .i64 0] 25)).cell? ⟨w1.heap.size, 0, none⟩ = some (.int .i64 1) := by simp
  have p1 : (w1.alloc (.cells #[.int .i64 1, .int .i64 W, .int .i64 H, .int .i64 T, .int .i64 0] 25)).cell? ⟨w1.heap.size, 1, none⟩ = some (.int .i64 W) := by simp
  have p2 : (w1.alloc (.cells #[.int .i64 1, .int .i64 W, .int .i64 H, .int .i64 T, .int .i64 0] 25)).cell? ⟨w1.heap.size, 2, none⟩ = some (.int .i64 H) := by simp
  have p3 : (w1.alloc (.cells #[.int .i64 1, .int .i64 W, .int .i64 H, .int .i64 T, .int .i64 0] 25)).cell? ⟨w1.heap.size, 3, none⟩ = some (.int .i64 T) := by simp
  have p4 : (w1.alloc (.cells #[.int .i64 1, .int .i64 W, .int .i64 H, .int .i64 T, .int .i64 0] 25)).cell? ⟨w1.heap.size, 4, none⟩ = some (.int .i64 0) := by simp
  have z4 : (w1.alloc (.cells #[.int .i64 1, .int .i64 W, .int .i64 H, .int .i64 T, .int .i64 0] 25)).frozen? ⟨w1.heap.size, 4, none⟩ = false := by simp
  have HB := hide (ba b1 (.cells #[.int .i64 1, .int .i64 W, .int .i64 H, .int .i64 T, .int .i64 0] 25))
  have hRB : w.heap.size ≤ w1.heap.size := b1.size
  generalize w1.alloc (.cells #[.int .i64 1, .int .i64 W, .int .i64 H, .int .i64 T, .int .i64 0] 25) = v1 at *
  generalize w1.heap.size = R at *
  clear b1
  have lR := cell_ltL p0
  have hs1 : v1.drew.cell? ⟨R, 1, none⟩ = some (.int .i64 W) ∧ v1.drew.cell? ⟨R, 2, none⟩ = some (.int .i64 H) ∧ v1.drew.cell? ⟨R, 3, none⟩ = some (.int .i64 T) := ⟨p1, p2, p3⟩
  have bb1 := bd HB.out
  have HP0 := hide p0
  have HP4 := hide p4
  have HZ4 := hide z4
  clear p0 p1 p2 p3 p4 z4
  go_region_held3 (fun w' => w'.cell? ⟨R, 1, none⟩ = some (.int .i64 W) ∧ w'.cell? ⟨R, 2, none⟩ = some (.int .i64 H) ∧ w'.cell? ⟨R, 3, none⟩ = some (.int .i64 T)) (first | assumption | go_keep)
      (first
        | (go_at_call 9; (with_reducible refine (G1 _ (HR1.out.below bb1)).mono ?_); rintro e v2 ⟨t1, rfl, ht1, zt1, b2⟩; have hs2 := s3_below hs1 b2; have fg10 : ¬ (9223372036854775807 < 2 + t1.size) := (by omega))
        | (go_at_call 10; (with_reducible refine (N1 _).mono ?_); rintro e v3 ⟨s1, rfl, hs1, zs1, b3⟩; have hs3 := s3_below hs2 b3; have fn10 : ¬ (9223372036854775807 < 2 + t1.size + s1.size) := (by omega); have fn11 : ¬ (9223372036854775807 < 2 + t1.size + s1.size + 2) := (by omega))
        | (go_at_call 9; (with_reducible refine (G2 _ (HR2.out.below (bt (bt bb1 b2) b3))).mono ?_); rintro e v4 ⟨t2, rfl, ht2, zt2, b4⟩; have hs4 := s3_below hs3 b4; have fg20 : ¬ (9223372036854775807 < 2 + t1.size + s1.size + 2 + t2.size) := (by omega); have fg21 : ¬ (9223372036854775807 < 2 + t1.size + s1.size + 2 + t2.size + 1) := (by omega))
        | (go_at_call 10; (with_reducible refine (N2 _).mono ?_); rintro e v5 ⟨s2, rfl, hs2, zs2, b5⟩; have hs5 := s3_below hs4 b5; have fn20 : ¬ (9223372036854775807 < 2 + t1.size + s1.size + 2 + t2.size + 1 + s2.size) := (by omega))
        | (go_at_call 9; (with_reducible refine (G3 _ (HR3.out.below (bt (bt (bt (bt bb1 b2) b3) b4) b5))).mono ?_); rintro e v6 ⟨t3, rfl, ht3, zt3, b6⟩; have hs6 := s3_below hs5 b6; have fg30 : ¬ (9223372036854775807 < 2 + t1.size + s1.size + 2 + t2.size + 1 + s2.size + t3.size) := (by omega))
        | (go_at_call 10; (with_reducible refine (N3 _).mono ?_); rintro e v7 ⟨s3, rfl, hs3, zs3, b7⟩; have hs7 := s3_below hs6 b7; have fn30 : ¬ (9223372036854775807 < 2 + t1.size + s1.size + 2 + t2.size + 1 + s2.size + t3.size + s3.size) := (by omega); have fn31 : ¬ (9223372036854775807 < 2 + t1.size + s1.size + 2 + t2.size + 1 + s2.size + t3.size + s3.size + 1) := (by omega)))
  have bq := bt (bt (bt (bt (bt b2 b3) b4) b5) b6) b7
  have BB7 := hide (bt bb1 bq)
  have p0 := cb bq lR HP0.out
  have p1 := hs7.1
  have p2 := hs7.2.1
  have p3 := hs7.2.2
  have p4 := cb bq lR HP4.out
  have z4 := fb bq lR HZ4.out
  have lR7 : R < v7.heap.size := Nat.lt_of_lt_of_le lR bq.size
  obtain ⟨S, hS⟩ : ∃ S, (⟨#[80, 53]⟩ ++ t1 ++ s1 ++ ⟨#[32, 9]⟩ ++ t2 ++ ⟨#[32]⟩ ++ s2 ++ t3 ++ s3 ++ ⟨#[13]⟩ : ByteArray) = S := ⟨_, rfl⟩
  simp only [hS]
  have hbs : byt S = 80 :: 53 :: (gapF xs ++ (decF W.toNat ++ 32 :: 9 :: (gapF ys ++ 32 :: (decF H.toNat ++ (gapF zs ++ (decF T.toNat ++ [13])))))) := by
    rw [← hS]
    simp only [byt_add, ht1, hs1, ht2, hs2, ht3, hs3]
    rw [show byt ⟨#[80, 53]⟩ = [80, 53] from rfl, show byt ⟨#[32, 9]⟩ = [32, 9] from rfl, show byt ⟨#[32]⟩ = [32] from rfl, show byt ⟨#[13]⟩ = [13] from rfl]
    simp
  have hms : S.size ≤ 1048576 := by
    rw [← hS]
    simp only [ByteArray.size_append]
    rw [show ByteArray.size ⟨#[80, 53]⟩ = 2 from rfl, show ByteArray.size ⟨#[32, 9]⟩ = 2 from rfl, show ByteArray.size ⟨#[32]⟩ = 1 from rfl, show ByteArray.size ⟨#[13]⟩ = 1 from rfl]
    omega
  have hln := byt_len S
  obtain ⟨cp, v8, hcp, hcv, hrow, b8⟩ := str_bytes S v7
  have CPS := fun w hk hr => CP (byt S) S.size (some ⟨v7.heap.size, 0, none⟩) cp w hk hln hms (byt_in S) hr (fun e => by cases e)
  rw [← hbs] at HPG
  rw [HPG.out, hln] at CPS
  unfold hdV at CPS
  have HROW := hide hrow
  obtain ⟨m, hm⟩ : ∃ m, S.size = m := ⟨_, rfl⟩
  rw [hm] at CPS hcv
  have qW : (W == W) = true := beq_self_eq_true W
  have qH : (H == H) = true := beq_self_eq_true H
  have qT : (T == T) = true := beq_self_eq_true T
  have qm : ((m : Int) == (m : Int)) = true := beq_self_eq_true _
  have hmm : m ≤ 1048576 := by omega
  clear bq hs1 hs2 hs3 hs4 hs5 hs6 hs7 ht1 ht2 ht3 zt1 zs1 zt2 zs2 zt3 zs3 hbs hms hln hrow HPG CP b2 b3 b4 b5 b6 b7 hS fg10 fn10 fn11 fg20 fg21 fn20 fg30 fn30 fn31 lR HP0 HP4 HZ4 bb1 hcp
  go_wp2_with (go_at_call 7; (with_reducible refine (CPS _ (hKB _ _ hk (bt BB7.out b8)) HROW.out).mono ?_); rintro e v9 ⟨rfl, b9⟩; have b89 := bt b8 b9; replace p0 := cb b89 lR7 p0; replace p1 := cb b89 lR7 p1; replace p2 := cb b89 lR7 p2; replace p3 := cb b89 lR7 p3; replace p4 := cb b89 lR7 p4; replace z4 := fb b89 lR7 z4; have lR9 : R < v9.heap.size := Nat.lt_of_lt_of_le lR7 b89.size)
  go_ret
  exact ⟨rfl, ba (bs (bt BB7.out b89) (b := R) (o := 4) hRB _) _⟩
theorem of_HeaderRemarks {K : World → Prop} (hKB : KB K) (CP : HParseC K) (a b t : Int) (a0 : 0 ≤ a) (b0 : 0 ≤ b) (t0 : 0 ≤ t) (t9 : t ≤ 65535) (xs ys zs : List Int) (ad1 ad2 ad3 : Option Addr) (c1 c2 c3 : Nat) (w : World) (hk : K w) (r1 : RowAt .u8 w ad1 xs) (r2 : RowAt .u8 w ad2 ys) (r3 : RowAt .u8 w ad3 zs) (x1 : AllK .u8 xs) (x2 : AllK .u8 ys) (x3 : AllK .u8 zs) (l1 : xs.length ≤ 140737488351232) (l2 : ys.length ≤ 140737488351232) (l3 : zs.length ≤ 140737488351232) :
    Calls Try.prog 4 #[.int .u16 a, .int .u16 b, .int .u16 t, .slice ad1 xs.length c1, .slice ad2 ys.length c2, .slice ad3 zs.length c3] w fun e w' => e = .returned (.bool true) ∧ Below w.heap.size w w' := by
  have hu : ∀ {l : List Int}, AllK .u8 l → ∀ x ∈ l, 0 ≤ x ∧ x ≤ 255 := fun h x hx' => by simpa [Lit.wf, IntKind.min, IntKind.max, IntKind.signed, IntKind.bits] using h x hx'
  by_cases h : xs.length + ys.length + zs.length ≤ 60
  · exact remarks_main hKB CP a b t a0 b0 t0 t9 xs ys zs _ _ _ rfl rfl rfl h ad1 ad2 ad3 c1 c2 c3 w hk r1 r2 r3 (hu x1) (hu x2) (hu x3)
  · have CL := fun w hk => hlives hKB CP w hk
    have hKB : ∀ w w', K w → Below w.heap.size w w' → K w' := hKB
    clear CP r1 r2 r3 x1 x2 x3 hu
    generalize xs.length = n1 at *
    generalize ys.length = n2 at *
    generalize zs.length = n3 at *
    go_enter Try.func4, Try.ntmps4
    go_wp2_with (first
      | (go_at_call 6; (with_reducible refine (CL w hk).mono ?_); rintro e w1 ⟨rfl, b1⟩)
      | (go_at_call 6; (with_reducible refine (CL w1 (hKB _ _ hk b1)).mono ?_); rintro e w2 ⟨rfl, b2⟩))
    go_ret
    exact ⟨rfl, bt b1 b2⟩
end Go.Proofs.Ytmkkhgnhpcgaaaa
