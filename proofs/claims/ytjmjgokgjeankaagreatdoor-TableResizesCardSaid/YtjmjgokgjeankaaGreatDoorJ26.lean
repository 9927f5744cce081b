/- Parts, joined. -/
import Derived.Test.YtjmjgokgjeankaaGreatDoorJ25
/- Lines of a table: what the document's filter answers. -/
namespace Go.Proofs.YtjmjgokgjeankaaGreatDoor
open Go.RowKit


theorem more_kept {T : TypeId} (hT : 2 ≠ T) {wc w2 : World} {base base' n : Nat} {v y : Value} {us : List Value} {xs : List Int} {o : Obj} (hown : wc.ownsRow base' T 2 v n us) (hy : OwnI .i64 2 wc base y xs) (hgrow : (wc.alloc o).grownBy w2 v.ownBlock) : OwnI .i64 2 w2 base y xs :=
  OwnI.kept (hy.alloc o) hgrow (own_apart hT (hy.alloc o) (World.ownsRow.alloc hown o))
theorem reffilter_six (xs : List Int) (ad : Option Addr) (cap : Nat) (n : Int) (h : sideB n = false) (w : World) :
    Calls Tryz.prog 10 #[.slice ad xs.length cap, .int .i64 n] w fun e w' => e = .returned (.tuple #[.slice none 0 0, .int .i64 6]) ∧ w = w' := by
  have S1 := refside_no n (by
    have := fun g => Bool.false_ne_true (h.symm.trans ((sideB_iff n).2 g))
    by_cases a : n < 1
    · exact Or.inl a
    · by_cases b : 65536 < n
      · exact Or.inr b
      · exact absurd ⟨by omega, by omega⟩ this)
  clear h
  generalize xs.length = k at *
  go_enter Tryz.func10, Tryz.ntmps10
  go_wp2_with (go_at_call 21; (with_reducible refine (S1 _).mono ?_); rintro e w1 ⟨rfl, rfl⟩)
  exact bodyPost_ret (v := .tuple #[.slice none 0 0, .int .i64 6]) (by simp [results, Tryz.results10, go_sem]) rfl ⟨rfl, rfl⟩
theorem reffilter_seven (xs : List Int) (ad : Option Addr) (cap : Nat) (n : Int) (h : sideB n = true) (h2 : xs.length % 2 = 0) (hl : xs.length ≤ 9223372036854775807) (w : World) :
    Calls Tryz.prog 10 #[.slice ad xs.length cap, .int .i64 n] w fun e w' => e = .returned (.tuple #[.slice none 0 0, .int .i64 7]) ∧ w = w' := by
  obtain ⟨n0, n1⟩ := (sideB_iff n).1 h
  have S1 := refside_yes n n0 n1
  clear h
  generalize xs.length = k at *
  have b1 : ((k : Int) % 2 == 0) = true := beq_iff_eq.2 (by omega)
  clear h2
  go_enter Tryz.func10, Tryz.ntmps10
  go_wp2_with (go_at_call 21; (with_reducible refine (S1 _).mono ?_); rintro e w1 ⟨rfl, rfl⟩)
  exact bodyPost_ret (v := .tuple #[.slice none 0 0, .int .i64 7]) (by simp [results, Tryz.results10, go_sem]) rfl ⟨rfl, rfl⟩
theorem reffilter_code (xs : List Int) (ad : Option Addr) (cap : Nat) (n : Int) (h : sideB n = true) (h2 : xs.length % 2 = 1) (cd : Int) (hc : appCode xs = cd) (hz : cd ≠ 0) (hl : xs.length ≤ 9223372036854775807) (w : World) (hr : RowAt .i64 w ad xs) (hx : All64 xs) :
    Calls Tryz.prog 10 #[.slice ad xs.length cap, .int .i64 n] w fun e w' => e = .returned (.tuple #[.slice none 0 0, .int .i64 cd]) ∧ Below w.heap.size w w' := by
  obtain ⟨n0, n1⟩ := (sideB_iff n).1 h
  have S1 := refside_yes n n0 n1
  have CA := app_own_n xs.length xs rfl ad cap w hr hx hl
  rw [hc] at CA
  clear h hc hr
  generalize xs.length = k at *
  have b1 : ((k : Int) % 2 == 0) = false := beq_eq_false_iff_ne.2 (by omega)
  have hzb : (cd != 0) = true := by simpa using hz
  clear h2 hz
  go_enter Tryz.func10, Tryz.ntmps10
  go_wp2_with (first
    | (go_at_call 21; (with_reducible refine (S1 _).mono ?_); rintro e w1 ⟨rfl, rfl⟩)
    | (go_at_call 23; (with_reducible refine CA.mono ?_); rintro e w3 ⟨v2, rfl, _, b3⟩))
  exact bodyPost_ret (v := .tuple #[.slice none 0 0, .int .i64 cd]) (by simp [results, Tryz.results10, go_sem]) rfl ⟨rfl, b3⟩
set_option maxHeartbeats 2000000 in
set_option maxRecDepth 100000 in
theorem reffilter_ok (xs : List Int) (ad : Option Addr) (cap : Nat) (n : Nat) (n0 : 1 ≤ n) (n1 : n ≤ 65536) (h2 : xs.length % 2 = 1) (hc : appCode xs = 0) (hl : xs.length ≤ 1048576) (w : World) (hr : RowAt .i64 w ad xs) (hx : All64 xs) :
    Calls Tryz.prog 10 #[.slice ad xs.length cap, .int .i64 (n : Int)] w fun e w' => ∃ v, e = .returned (.tuple #[v, .int .i64 0]) ∧ OwnLs 56 w' w.heap.size v (filTo xs n) ∧ Below w.heap.size w w' := by
  have S1 := refside_yes (n : Int) (by omega) (by omega)
  have CA := app_own_n xs.length xs rfl ad cap w hr hx (by omega)
  rw [hc] at CA
  obtain ⟨i0, hi, hz0, hz1, hz2⟩ := info_parts infoLnR
  obtain ⟨k, hk⟩ : ∃ k, xs.length = k := ⟨_, rfl⟩
  obtain ⟨an, han⟩ : ∃ an, (appR xs).length = an := ⟨_, rfl⟩
  have HAN := hide han
  have HK := hide hk
  rw [hk] at CA h2 hl ⊢
  clear hk hc hr han
  have b1 : ((k : Int) % 2 == 0) = false := beq_eq_false_iff_ne.2 (by omega)
  clear h2
  go_enter Tryz.func10, Tryz.ntmps10
  go_wp2_with (first
    | (go_at_call 21; (with_reducible refine (S1 _).mono ?_); rintro e w1 ⟨rfl, rfl⟩)
    | (go_at_call 23; (with_reducible refine CA.mono ?_); rintro e w3 ⟨v2, rfl, ho2, b3⟩; have ho3 := hide (ho2 (by trivial)); clear ho2; obtain ⟨ad2, cap2, rfl, _, _⟩ := ho3.out.formn HAN.out))
  have HB3 := hide b3
  clear S1 CA b3 b1
  go_loopw [8, 26] (fun u i wr => ∃ j : Nat, j ≤ n ∧ i = .int .i64 (j : Int) ∧ OwnLs 56 wr w.heap.size u (filTo xs j) ∧ OwnI .i64 2 wr w.heap.size (.slice ad2 an cap2) (appR xs) ∧ Below w.heap.size w wr) (fun _ i _ => n - (intOf i).toNat)
  case atStart => exact ⟨0, by omega, rfl, OwnLs.nil _ _ _, ho3.out, HB3.out⟩
  case round =>
    clear ho3 HB3
    obtain ⟨j, hj, rfl, ho, hq, hb⟩ := hrel
    have HO := hide ho
    have HQ := hide hq
    have HB := hide hb
    clear ho hq hb
    by_cases hlt : j < n
    · obtain ⟨us, hu, how, hin⟩ := HO.out
      have HU := hide hu
      have HOW := hide how
      have HIN := hide hin
      have HLS := hide (filTo_snoc xs j)
      have hlr : filLine xs j = ((j : Int) - ((xs.length / 2 : Nat) : Int), appR xs) := rfl
      rw [HK.out, show ((k / 2 : Nat) : Int) = (k : Int) / 2 by omega] at hlr
      have HLR := hide hlr
      have HLL := hide (filTo_len xs j)
      clear hu how hin HO hlr
      go_wp2_with (at_builtin; refine wpList_append_own _ rfl _ _ 28 rfl w.heap.size 56 i0 (.agg #[.int .i64 0, .slice none 0 0]) 2 32 Tryz.underlying28 hi hz0 hz1 hz2 rfl (by decide) _ _ _ rfl (World.ownsRow.alloc HOW.out _) ⟨wr.heap.size, 0, none⟩ 1 1 [.int .i64 ((j : Int) - (k : Int) / 2), .slice ad2 an cap2] rfl rfl (new_line _ _ _ _) (by intro u hu; simp at hu; rcases hu with rfl | rfl <;> rfl) (by rw [HLL.out]; unfold maxLen; omega) (by rw [HLL.out]; omega) (by have := HB.out.size; simp; omega) ?_; intro u' w4 own4 grow4 _)
      have R := hide (And.intro (OwnLs.more (x := ((j : Int) - (k : Int) / 2, appR xs)) (by decide) HB.out HU.out HOW.out HIN.out HQ.out own4 grow4) (more_kept (by decide) HOW.out HQ.out grow4))
      clear own4 grow4
      go_wp2
      go_roundw
      case rel => exact ⟨j + 1, by omega, by go_num, by rw [HLS.out, HLR.out]; exact R.out.1.1, R.out.2, R.out.1.2⟩
      case measure => simp [intOf]; omega
    · obtain rfl : j = n := by omega
      go_wp2
      exact bodyPost_ret (v := .tuple #[u8, .int .i64 0]) (by simp [results, Tryz.results10, go_sem]) rfl ⟨u8, rfl, HO.out, HB.out⟩
theorem reffilter_any (xs : List Int) (ad : Option Addr) (cap : Nat) (n : Int) (w : World) (hr : RowAt .i64 w ad xs) (hx : All64 xs) (hl : xs.length ≤ 9223372036854775807) :
    Calls Tryz.prog 10 #[.slice ad xs.length cap, .int .i64 n] w fun e w' => ∃ v, e = .returned (.tuple #[v, .int .i64 (filCode xs n)]) ∧ (filCode xs n = 0 → OwnLs 56 w' w.heap.size v (filTo xs n.toNat)) ∧ (filCode xs n ≠ 0 → v = .slice none 0 0) ∧ Below w.heap.size w w' := by
  unfold filCode
  cases h : sideB n with
  | false =>
    rw [if_neg (by decide)]
    refine (reffilter_six xs ad cap n h w).mono ?_
    rintro e w1 ⟨rfl, rfl⟩
    exact ⟨_, rfl, (fun g => absurd g (by decide)), (fun _ => rfl), Below.refl _ _⟩
  | true =>
    rw [if_pos rfl]
    by_cases h2 : xs.length % 2 = 0
    · rw [if_pos h2]
      refine (reffilter_seven xs ad cap n h h2 hl w).mono ?_
      rintro e w1 ⟨rfl, rfl⟩
      exact ⟨_, rfl, (fun g => absurd g (by decide)), (fun _ => rfl), Below.refl _ _⟩
    · rw [if_neg h2]
      by_cases hz : appCode xs = 0
      · rw [hz]
        obtain ⟨n0, n1⟩ := (sideB_iff n).1 h
        obtain ⟨k, rfl⟩ : ∃ k : Nat, n = (k : Int) := ⟨n.toNat, by omega⟩
        rw [Int.toNat_natCast]
        refine (reffilter_ok xs ad cap k (by omega) (by omega) (by omega) hz (appCode_fits.1 hz).n1 w hr hx).mono ?_
        rintro e w1 ⟨v, rfl, o, b⟩
        exact ⟨v, rfl, (fun _ => o), (fun g => absurd rfl g), b⟩
      · refine (reffilter_code xs ad cap n h (by omega) _ rfl hz hl w hr hx).mono ?_
        rintro e w1 ⟨rfl, b⟩
        exact ⟨_, rfl, (fun g => absurd g hz), (fun _ => rfl), b⟩
end Go.Proofs.YtjmjgokgjeankaaGreatDoor

/- Tables: what the program's calls are to answer; and that a table is the document's. -/
namespace Go.Proofs.YtjmjgokgjeankaaGreatDoor
open Go.RowKit


/-- What the program's own calls are to answer. 'T w v n L': in memory v is a table from n with lines L. 'K': what memory holds beside. -/
structure TabC (K : World → Prop) (T : World → Value → Int → List (Int × List Int) → Prop) : Prop where
  kbelow : ∀ {w w' : World}, K w → Below w.heap.size w w' → K w'
  below : ∀ {w w' : World} {v : Value} {n : Int} {L : List (Int × List Int)}, T w v n L → Below w.heap.size w w' → T w' v n L
  ptr : ∀ {w : World} {v : Value} {n : Int} {L : List (Int × List Int)}, T w v n L → ∃ a, v = .pointer (some a)
  ok : ∀ {w : World} {v : Value} {n : Int} {L : List (Int × List Int)}, T w v n L → LinesOk L ∧ 1 ≤ L.length ∧ L.length ≤ 65536 ∧ 1 ≤ n ∧ n ≤ 65536
  cfrom : ∀ {w : World} {v : Value} {n : Int} {L : List (Int × List Int)}, T w v n L → Calls Tryz.prog 24 #[v] w fun e w' => e = .returned (.int .i64 n) ∧ Below w.heap.size w w'
  cto : ∀ {w : World} {v : Value} {n : Int} {L : List (Int × List Int)}, T w v n L → Calls Tryz.prog 25 #[v] w fun e w' => e = .returned (.int .i64 (L.length : Int)) ∧ Below w.heap.size w w'
  line : ∀ {w : World} {v : Value} {n : Int} {L : List (Int × List Int)}, T w v n L → ∀ j : Nat, j < L.length → Calls Tryz.prog 12 #[v, .int .i64 (j : Int)] w fun e w' => ∃ u, e = .returned (.agg #[.int .i64 (lnAt L j).1, u]) ∧ OwnI .i64 2 w' w.heap.size u (lnAt L j).2 ∧ Below w.heap.size w w'
  noline : ∀ {w : World} {v : Value} {n : Int} {L : List (Int × List Int)}, T w v n L → ∀ i : Int, -9223372036854775808 ≤ i → i ≤ 9223372036854775807 → i < 0 ∨ (L.length : Int) ≤ i → Calls Tryz.prog 12 #[v, .int .i64 i] w fun e w' => ∃ ad cap, e = .returned (.agg #[.int .i64 0, .slice ad 0 cap]) ∧ Below w.heap.size w w'
  most : ∀ {w : World} {v : Value} {n : Int} {L : List (Int × List Int)}, T w v n L → Calls Tryz.prog 28 #[v] w fun e w' => e = .returned (.int .i64 (mostF L)) ∧ Below w.heap.size w w'
  size : ∀ {w : World} {v : Value} {n : Int} {L : List (Int × List Int)}, T w v n L → Calls Tryz.prog 29 #[v] w fun e w' => e = .returned (.int .i64 (sizeF L)) ∧ Below w.heap.size w w'
  reach : ∀ {w : World} {v : Value} {n : Int} {L : List (Int × List Int)}, T w v n L → ∀ i k : Int, -9223372036854775808 ≤ i → i ≤ 9223372036854775807 → -9223372036854775808 ≤ k → k ≤ 9223372036854775807 → Calls Tryz.prog 15 #[v, .int .i64 i, .int .i64 k] w fun e w' => e = .returned (.tuple #[.int .i64 (reachF L i k).1, .int .i64 ((reachF L i k).2.1 - (reachF L i k).1)]) ∧ Below w.heap.size w w'
def ResizeC (K : World → Prop) (T : World → Value → Int → List (Int × List Int) → Prop) : Prop := ∀ (f n m : Int), -9223372036854775808 ≤ f → f ≤ 9223372036854775807 → -9223372036854775808 ≤ n → n ≤ 9223372036854775807 → -9223372036854775808 ≤ m → m ≤ 9223372036854775807 → ∀ w : World, K w →
  Calls Tryz.prog 6 #[.int .i64 f, .int .i64 n, .int .i64 m] w fun e w' => ∃ v, e = .returned (.tuple #[v, .int .i64 (resCode f n m)]) ∧ (resCode f n m = 0 → T w' v n (linesTo f n m m.toNat)) ∧ (resCode f n m ≠ 0 → v = .pointer none) ∧ Below w.heap.size w w'
def FilterC (K : World → Prop) (T : World → Value → Int → List (Int × List Int) → Prop) : Prop := ∀ (xs : List Int) (ad : Option Addr) (cap : Nat) (n : Int) (w : World), K w → RowAt .i64 w ad xs → All64 xs → xs.length ≤ 9223372036854775807 → -9223372036854775808 ≤ n → n ≤ 9223372036854775807 →
  Calls Tryz.prog 9 #[.slice ad xs.length cap, .int .i64 n] w fun e w' => ∃ v, e = .returned (.tuple #[v, .int .i64 (filCode xs n)]) ∧ (filCode xs n = 0 → T w' v n (filTo xs n.toNat)) ∧ (filCode xs n ≠ 0 → v = .pointer none) ∧ Below w.heap.size w w'
theorem sizes_n (n : Nat) (xs : List Int) (hn : xs.length = n) (ad : Option Addr) (cap : Nat) (w : World) (hr : RowAt .i64 w ad xs) (hx : All64 xs) (hl : n ≤ 1048576) :
    Calls Tryz.prog 26 #[.slice ad n cap] w fun e w' => e = .returned (.int .i64 (sizeH xs)) ∧ w = w' := by
  subst hn
  exact refsizes_any xs ad cap w hr hx (by omega)
set_option maxHeartbeats 4000000 in
set_option maxRecDepth 100000 in
theorem same_table {K : World → Prop} {T : World → Value → Int → List (Int × List Int) → Prop} (TC : TabC K T) (v : Value) (n : Int) (L : List (Int × List Int)) (g cap : Nat) (i k : Int) (w : World) (hT : T w v n L) (hr : LinesAt w g L)
    (i0 : -9223372036854775808 ≤ i) (i1 : i ≤ 9223372036854775807) (k0 : -9223372036854775808 ≤ k) (k1 : k ≤ 9223372036854775807) :
    Calls Tryz.prog 8 #[v, .slice (some ⟨g, 0, none⟩) L.length cap, .int .i64 n, .int .i64 i, .int .i64 k] w fun e w' => e = .returned (.bool true) ∧ Below w.heap.size w w' := by
  obtain ⟨hok, l0, l1, n0, n1⟩ := TC.ok hT
  obtain ⟨a, rfl⟩ := TC.ptr hT
  have CT : ∀ w' : World, Below w.heap.size w w' → T w' (.pointer (some a)) n L := fun w' b => TC.below hT b
  have CF := fun w' b => TC.cfrom (CT w' b)
  have CO := fun w' b => TC.cto (CT w' b)
  have CL := fun w' b => TC.line (CT w' b)
  have CN := fun w' b => TC.noline (CT w' b)
  have CM := fun w' b => TC.most (CT w' b)
  have CS := fun w' b => TC.size (CT w' b)
  have CR := fun w' b => TC.reach (CT w' b) i k i0 i1 k0 k1
  have RR := fun w' hr => refreach_any L hok (by omega) g cap i k w' hr
  have RI := reachTo_in hok i k L.length (Nat.le_refl _)
  rw [show reachTo L i k L.length = reachF L i k from rfl] at RI
  have HMF := hide (show mostF L = mostTo L L.length from rfl)
  have HSF := hide (show sizeF L = sizeTo L L.length from rfl)
  have HOK := hide hok
  have HR := hide hr
  obtain ⟨N, hN⟩ : ∃ N, L.length = N := ⟨_, rfl⟩
  have HN := hide hN
  rw [hN] at l0 l1 CO CL CN RR ⊢
  rw [hN] at HMF HSF
  obtain ⟨R, hR⟩ : ∃ R, reachF L i k = R := ⟨_, rfl⟩
  rw [hR] at CR RI
  have RR' : ∀ w', LinesAt w' g L → Calls Tryz.prog 27 #[.slice (some ⟨g, 0, none⟩) N cap, .int .i64 i, .int .i64 k] w' fun e w'' => e = .returned (.tuple #[.int .i64 R.1, .int .i64 R.2.1, .bool R.2.2]) ∧ Below w'.heap.size w' w'' := by
    intro w' h
    have := RR w' h
    rw [hR] at this
    exact this
  have CM' : ∀ w', Below w.heap.size w w' → Calls Tryz.prog 28 #[.pointer (some a)] w' fun e w'' => e = .returned (.int .i64 (mostTo L N)) ∧ Below w'.heap.size w' w'' := by
    intro w' b
    have := CM w' b
    rw [HMF.out] at this
    exact this
  have CS' : ∀ w', Below w.heap.size w w' → Calls Tryz.prog 29 #[.pointer (some a)] w' fun e w'' => e = .returned (.int .i64 (sizeTo L N)) ∧ Below w'.heap.size w' w'' := by
    intro w' b
    have := CS w' b
    rw [HSF.out] at this
    exact this
  obtain ⟨⟨lo, hi, is⟩, hRe⟩ : ∃ x, R = x := ⟨_, rfl⟩
  subst hRe
  obtain ⟨r0, r1, r2, r3, r4, r5⟩ := RI
  have r0 : -1099511627776 ≤ lo := r0
  have r1 : lo ≤ 1099511627776 := r1
  have r2 : -1099511627776 ≤ hi := r2
  have r3 : hi ≤ 1099512676352 := r3
  have hq : (is = true ∧ lo < hi) ∨ (is = false ∧ lo = 0 ∧ hi = 0) := by
    cases is with
    | true => exact Or.inl ⟨rfl, r4 rfl⟩
    | false => exact Or.inr ⟨rfl, r5 rfl⟩
  have HQ := hide hq
  clear hR hN hok hr hT CT RR CM CS r4 r5 hq HMF HSF
  go_enter Tryz.func8, Tryz.ntmps8
  go_wp2_with (first
    | (go_at_call 24; (with_reducible refine (CF _ (by repeat (first | exact Below.refl _ _ | assumption))).mono ?_); rintro e w1 ⟨rfl, b1⟩)
    | (go_at_call 25; (with_reducible refine (CO _ (by repeat (first | exact Below.refl _ _ | assumption))).mono ?_); rintro e w2 ⟨rfl, b2⟩))
  have B2 := hide (bt b1 b2)
  clear b1 b2 CF CO
  go_loopw [11, 12, 36] (fun u s o' wr => ∃ o : Nat, o ≤ N ∧ o' = .int .i64 (o : Int) ∧ u = .int .i64 (mostTo L o) ∧ s = .int .i64 (sizeTo L o) ∧ Below w.heap.size w wr) (fun _ _ o' _ => N - (intOf o').toNat)
  case atStart => exact ⟨0, by omega, rfl, rfl, rfl, B2.out⟩
  case round =>
    clear B2
    obtain ⟨o, ho, rfl, rfl, rfl, hb⟩ := hrel
    have HB := hide hb
    clear hb
    by_cases hlt : o < N
    · obtain ⟨c1, u, c2, ad, cp, rfl, hrow⟩ := (HR.out.below HB.out) o (by rw [HN.out]; exact hlt)
      obtain ⟨f0, f1, t0, t1, hx⟩ := HOK.out o (by rw [HN.out]; exact hlt)
      have CL1 := fun w' b => CL w' b o hlt
      have hm1 : mostTo L (o + 1) = max (mostTo L o) ((lnAt L o).2.length : Int) := rfl
      have hs1 : sizeTo L (o + 1) = max (sizeTo L o) (sizeH (lnAt L o).2) := rfl
      obtain ⟨m, hm⟩ : ∃ m, (lnAt L o).2.length = m := ⟨_, rfl⟩
      obtain ⟨f, ts, he⟩ : ∃ f ts, lnAt L o = (f, ts) := ⟨_, _, rfl⟩
      rw [he] at c1 f0 f1 hx hrow CL1 hs1
      rw [hm] at c2 t0 t1 hm1
      have hm2 : ts.length = m := by rw [← hm, he]
      have HMM := hide hm2
      have HX := hide hx
      have HM1 := hide hm1
      have HS1 := hide hs1
      have HROW := hide hrow
      have MI := mostTo_in HOK.out o (by rw [HN.out]; exact ho)
      have SI := sizeTo_in L o
      clear CL he hm hm1 hs1 hm2 hx hrow
      go_wp2_with (first
        | (go_at_call 12; (with_reducible refine (CL1 _ (by repeat (first | exact Below.refl _ _ | exact HB.out | (with_reducible refine bt ?_ (by assumption)) | with_reducible refine bd ?_ | with_reducible refine ba ?_ _))).mono ?_); rintro e w3 ⟨u3, rfl, ou, b3⟩; obtain ⟨ad2, cap2, rfl, ra2, _⟩ := ou.formn HMM.out; have z3 : wr.heap.size < w3.heap.size := (by have := b3.size; simp at this; omega); have p0 := cb b3 (b := wr.heap.size) (o := 0) (v := .int .i64 f) (by simp) (by simp); have p1 := cb b3 (b := wr.heap.size) (o := 1) (v := .slice ad m cp) (by simp) (by simp); have q0 := ca (ob := .cells #[.int .i64 f, .slice ad2 m cap2] 38) z3 p0; have q1 := ca (ob := .cells #[.int .i64 f, .slice ad2 m cap2] 38) z3 p1)
        | (go_at_call 11; (with_reducible refine (same_n m ts HMM.out _ _ _ _ _ (ra2.below (by repeat (first | exact Below.refl _ _ | exact HB.out | (with_reducible refine bt ?_ (by assumption)) | with_reducible refine bd ?_ | with_reducible refine ba ?_ _))) (HROW.out.below (by repeat (first | exact Below.refl _ _ | exact HB.out | (with_reducible refine bt ?_ (by assumption)) | with_reducible refine bd ?_ | with_reducible refine ba ?_ _))) (by omega)).mono ?_); rintro e w4 ⟨rfl, b4⟩; have y1 := cb b4 (by simp; omega) q1)
        | (go_at_call 26; (with_reducible refine (sizes_n m ts HMM.out _ _ _ (HROW.out.below (by repeat (first | exact Below.refl _ _ | exact HB.out | (with_reducible refine bt ?_ (by assumption)) | with_reducible refine bd ?_ | with_reducible refine ba ?_ _))) HX.out (by omega)).mono ?_); rintro e w5 ⟨rfl, rfl⟩))
      have B6 := hide (show Below w.heap.size w w4 from (by repeat (first | exact Below.refl _ _ | exact HB.out | (with_reducible refine bt ?_ (by assumption)) | with_reducible refine bd ?_ | with_reducible refine ba ?_ _)))
      clear ou ra2 b3
      go_wp2
      go_roundw
      case rel => exact ⟨o + 1, by omega, by go_num, by rw [HM1.out], by rw [HS1.out], B6.out⟩
      case measure => simp [intOf]; omega
    · obtain rfl : o = N := by omega
      clear hlt ho
      have CN1 := fun w' b => CN w' b (-1) (by omega) (by omega) (Or.inl (by omega))
      have CN2 := fun w' b => CN w' b (o : Int) (by omega) (by omega) (Or.inr (by omega))
      clear CN CL
      have MI := mostTo_in HOK.out o (by rw [HN.out]; exact Nat.le_refl _)
      have SI := sizeTo_in L o
      rcases HQ.out with ⟨rfl, q⟩ | ⟨rfl, rfl, rfl⟩
      all_goals
        clear HQ
        generalize mostTo L o = mo at *
        generalize sizeTo L o = so at *
        go_wp2_with (first
          | (go_at_call 27; (with_reducible refine (RR' _ (HR.out.below (by repeat (first | exact Below.refl _ _ | exact HB.out | (with_reducible refine bt ?_ (by assumption)) | with_reducible refine bd ?_ | with_reducible refine ba ?_ _)))).mono ?_); rintro e w3 ⟨rfl, b3⟩)
          | (go_at_call 15; (with_reducible refine (CR _ (by repeat (first | exact Below.refl _ _ | exact HB.out | (with_reducible refine bt ?_ (by assumption)) | with_reducible refine bd ?_ | with_reducible refine ba ?_ _))).mono ?_); rintro e w4 ⟨rfl, b4⟩)
          | (go_at_call 12; (with_reducible refine (CN1 _ (by repeat (first | exact Below.refl _ _ | exact HB.out | (with_reducible refine bt ?_ (by assumption)) | with_reducible refine bd ?_ | with_reducible refine ba ?_ _))).mono ?_); rintro e w5 ⟨ad5, cap5, rfl, b5⟩)
          | (go_at_call 12; (with_reducible refine (CN2 _ (by repeat (first | exact Below.refl _ _ | exact HB.out | (with_reducible refine bt ?_ (by assumption)) | with_reducible refine bd ?_ | with_reducible refine ba ?_ _))).mono ?_); rintro e w6 ⟨ad6, cap6, rfl, b6⟩)
          | (go_at_call 28; (with_reducible refine (CM' _ (by repeat (first | exact Below.refl _ _ | exact HB.out | (with_reducible refine bt ?_ (by assumption)) | with_reducible refine bd ?_ | with_reducible refine ba ?_ _))).mono ?_); rintro e w7 ⟨rfl, b7⟩; have z7 : w6.heap.size + 1 < w7.heap.size := (by have := b7.size; simp at this; omega); have m0 := cb b7 (b := w6.heap.size) (o := 0) (v := .int .i64 0) (by simp; omega) (by simp); have m1 := cb b7 (b := w6.heap.size) (o := 1) (v := .slice ad5 0 cap5) (by simp; omega) (by simp); have m2 := cb b7 (b := w6.heap.size + 1) (o := 0) (v := .int .i64 0) (by simp) (by simp); have m3 := cb b7 (b := w6.heap.size + 1) (o := 1) (v := .slice ad6 0 cap6) (by simp) (by simp))
          | (go_at_call 29; (with_reducible refine (CS' _ (by repeat (first | exact Below.refl _ _ | exact HB.out | (with_reducible refine bt ?_ (by assumption)) | with_reducible refine bd ?_ | with_reducible refine ba ?_ _))).mono ?_); rintro e w8 ⟨rfl, b8⟩; have k0 := cb b8 (by omega) m0; have k1 := cb b8 (by omega) m1; have k2 := cb b8 (by omega) m2; have k3 := cb b8 (by omega) m3))
        go_ret
        refine ⟨rfl, ?_⟩
        exact (by repeat (first | exact Below.refl _ _ | exact HB.out | (with_reducible refine bt ?_ (by assumption)) | with_reducible refine bd ?_ | with_reducible refine ba ?_ _))
end Go.Proofs.YtjmjgokgjeankaaGreatDoor
