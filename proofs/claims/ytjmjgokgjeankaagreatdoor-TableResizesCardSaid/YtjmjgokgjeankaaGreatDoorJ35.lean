/- Parts, joined. -/
import Derived.Test.YtjmjgokgjeankaaGreatDoorJ34
import Derived.Test.YtjmjgokgjeankaaGreatDoorJ27
import Derived.Test.YtjmjgokgjeankaaGreatDoorJ19
import Derived.Test.YtjmjgokgjeankaaGreatDoorJ25
import Derived.Test.YtjmjgokgjeankaaGreatDoorJ01
import Derived.Test.YtjmjgokgjeankaaGreatDoorJ20
import Derived.Test.YtjmjgokgjeankaaGreatDoorJ23
import Derived.Test.YtjmjgokgjeankaaGreatDoorJ18
import Derived.Test.YtjmjgokgjeankaaGreatDoorJ21
import Derived.Test.YtjmjgokgjeankaaGreatDoorJ32
import Derived.Deep.LoopGhost
import Derived.Laws.FloatArith
import Derived.RowKit
import Derived.WalkLawsBesides
import Derived.Deep.RegionHeld3
/- The program's table: a filter. -/
namespace Go.Proofs.YtjmjgokgjeankaaGreatDoor
open Go.RowKit


theorem filter_six (xs : List Int) (ad : Option Addr) (cap : Nat) (n : Int) (h : sideB n = false) (w : World) :
    Calls Tryz.prog 9 #[.slice ad xs.length cap, .int .i64 n] w fun e w' => e = .returned (.tuple #[.pointer none, .int .i64 6]) ∧ w = w' := by
  have S1 := tside_no n (by
    have q := fun g => Bool.false_ne_true (h.symm.trans ((sideB_iff n).2 g))
    by_cases q1 : n < 1
    · exact Or.inl q1
    · refine Or.inr ?_
      by_cases q2 : 65536 < n
      · exact q2
      · exact absurd ⟨by omega, by omega⟩ q)
  clear h
  generalize xs.length = l at *
  go_enter Tryz.func9, Tryz.ntmps9
  go_wp2_with (go_at_call 17; (with_reducible refine (S1 _).mono ?_); rintro e w1 ⟨rfl, rfl⟩)
  exact bodyPost_ret (v := .tuple #[.pointer none, .int .i64 6]) (by simp [results, Tryz.results9, go_sem]) rfl ⟨rfl, rfl⟩
theorem filter_seven (l : Nat) (ad : Option Addr) (cap : Nat) (n : Int) (n0 : 1 ≤ n) (n1 : n ≤ 65536) (h2 : l % 2 = 0) (hl : l ≤ 9223372036854775807) (w : World) :
    Calls Tryz.prog 9 #[.slice ad l cap, .int .i64 n] w fun e w' => e = .returned (.tuple #[.pointer none, .int .i64 7]) ∧ w = w' := by
  have S1 := tside_yes n n0 n1
  have h3 : (l : Int) % 2 = 0 := by omega
  go_enter Tryz.func9, Tryz.ntmps9
  go_wp2_with (go_at_call 17; (with_reducible refine (S1 _).mono ?_); rintro e w1 ⟨rfl, rfl⟩)
  exact bodyPost_ret (v := .tuple #[.pointer none, .int .i64 7]) (by simp [results, Tryz.results9, go_sem]) rfl ⟨rfl, rfl⟩
theorem filter_code (xs : List Int) (l : Nat) (hn : xs.length = l) (ad : Option Addr) (cap : Nat) (n : Int) (n0 : 1 ≤ n) (n1 : n ≤ 65536) (h2 : l % 2 = 1) (hl : l ≤ 9223372036854775807) (cd : Int) (hc : appCode xs = cd) (hz : cd ≠ 0) (w : World) (hr : RowAt .i64 w ad xs) (hx : All64 xs) :
    Calls Tryz.prog 9 #[.slice ad l cap, .int .i64 n] w fun e w' => e = .returned (.tuple #[.pointer none, .int .i64 cd]) ∧ Below w.heap.size w w' := by
  have S1 := tside_yes n n0 n1
  have CA := papp_own_n l xs hn ad cap w hr hx hl
  rw [hc] at CA
  have h3 : (l : Int) % 2 = 1 := by omega
  have hzb : (cd != 0) = true := by simpa using hz
  clear hr hx hc hn
  go_enter Tryz.func9, Tryz.ntmps9
  go_wp2_with (first
    | (go_at_call 17; (with_reducible refine (S1 _).mono ?_); rintro e w1 ⟨rfl, rfl⟩)
    | (go_at_call 19; (with_reducible refine CA.mono ?_); rintro e w2 ⟨v, rfl, _, b2⟩))
  exact bodyPost_ret (v := .tuple #[.pointer none, .int .i64 cd]) (by simp [results, Tryz.results9, go_sem]) rfl ⟨rfl, b2⟩
theorem filter_ok (xs : List Int) (l : Nat) (hn : xs.length = l) (ad : Option Addr) (cap : Nat) (n : Nat) (n0 : 1 ≤ n) (n1 : n ≤ 65536) (h2 : l % 2 = 1) (hc : appCode xs = 0) (w : World) (hr : RowAt .i64 w ad xs) (hx : All64 xs) :
    Calls Tryz.prog 9 #[.slice ad l cap, .int .i64 (n : Int)] w fun e w' => ∃ v, e = .returned (.tuple #[v, .int .i64 0]) ∧ Tab w' v n (filTo xs n) ∧ Below w.heap.size w w' := by
  have hf := appCode_fits.1 hc
  have l1 : l ≤ 1048576 := by
    obtain ⟨_, h1, _⟩ := hf
    omega
  have l0 : 1 ≤ l := by omega
  have S1 := tside_yes n (by omega) (by omega)
  have CA := papp_own_n l xs hn ad cap w hr hx (by omega)
  rw [hc] at CA
  have CR := fun b cap w hr => around_any (appR xs) l (by rw [appR_length]; exact hn) l0 l1 (appR_64 hf) n n0 n1 b cap w hr
  rw [← around_fil] at CR
  have CT : ∀ (w' : World) (v : Value), TabM w' v n (filTo xs n) → Tab w' v n (filTo xs n) := fun w' v h => h.tab (fil_ok hf n1) (fil_moves xs n) (by rw [filTo_len]; exact n0) (by rw [filTo_len]; exact n1) (by omega) (by omega)
  have HT := hide CT
  have h3 : (l : Int) % 2 = 1 := by omega
  have HA := hide (show (appR xs).length = l by rw [appR_length]; exact hn)
  clear CT hr hx hc hn hf
  generalize filTo xs n = L at *
  go_enter Tryz.func9, Tryz.ntmps9
  go_wp2_with (first
    | (go_at_call 17; (with_reducible refine (S1 _).mono ?_); rintro e w1 ⟨rfl, rfl⟩)
    | (go_at_call 19; (with_reducible refine CA.mono ?_); rintro e w2 ⟨v, rfl, ho, b2⟩; obtain ⟨b, cap2, rfl, _, hrt⟩ := own_some (ho (by trivial)) HA.out l0; clear ho)
    | (go_at_call 30; (with_reducible refine (CR _ _ _ hrt).mono ?_); rintro e w3 ⟨v, rfl, hm, b3⟩))
  exact bodyPost_ret (v := .tuple #[v, .int .i64 0]) (by simp [results, Tryz.results9, go_sem]) rfl ⟨_, rfl, HT.out _ _ hm, bt b2 b3⟩
theorem filter_c : FilterC Kinds Tab := by
  intro xs ad cap n w _ hr hx hl n0 n1
  cases hB : sideB n with
  | false =>
    have e : filCode xs n = 6 := by unfold filCode; rw [hB]; rfl
    rw [e]
    refine (filter_six xs ad cap n hB w).mono ?_
    rintro e w1 ⟨rfl, rfl⟩
    exact ⟨_, rfl, (fun g => absurd g (by decide)), (fun _ => rfl), Below.refl _ _⟩
  | true =>
    obtain ⟨a0, a1⟩ := (sideB_iff n).1 hB
    by_cases h2 : xs.length % 2 = 0
    · have e : filCode xs n = 7 := by unfold filCode; rw [hB, if_pos rfl, if_pos h2]
      rw [e]
      refine (filter_seven xs.length ad cap n a0 a1 h2 hl w).mono ?_
      rintro e w1 ⟨rfl, rfl⟩
      exact ⟨_, rfl, (fun g => absurd g (by decide)), (fun _ => rfl), Below.refl _ _⟩
    · have e : filCode xs n = appCode xs := by unfold filCode; rw [hB, if_pos rfl, if_neg h2]
      rw [e]
      by_cases hz : appCode xs = 0
      · obtain ⟨k, rfl⟩ : ∃ k : Nat, n = (k : Int) := ⟨n.toNat, by omega⟩
        rw [hz, Int.toNat_natCast]
        refine (filter_ok xs xs.length rfl ad cap k (by omega) (by omega) (by omega) hz w hr hx).mono ?_
        rintro e w1 ⟨v, rfl, hT, b⟩
        exact ⟨v, rfl, (fun _ => hT), (fun g => absurd rfl g), b⟩
      · have HZ := hide hz
        refine (filter_code xs xs.length rfl ad cap n a0 a1 (by omega) hl (appCode xs) rfl hz w hr hx).mono ?_
        rintro e w1 ⟨rfl, b⟩
        exact ⟨_, rfl, (fun g => absurd g HZ.out), (fun _ => rfl), b⟩
end Go.Proofs.YtjmjgokgjeankaaGreatDoor

/- Tables: the law on filters, out of what the program's calls answer. -/
namespace Go.Proofs.YtjmjgokgjeankaaGreatDoor
open Go.RowKit


theorem appR_len (xs : List Int) : (appR xs).length = xs.length := by
  unfold appR
  rw [(giveN_len _ _ _).1, quotsW_len]
theorem own_head {k : IntKind} {T : TypeId} {w : World} {base n cap : Nat} {ad : Option Addr} {xs : List Int} (h : OwnI k T w base (.slice ad n cap) xs) (hn : xs.length = n) (h0 : 1 ≤ n) : ∃ g, ad = some ⟨g, 0, none⟩ ∧ base ≤ g ∧ g < w.heap.size := by
  obtain ⟨ad', cap', hv, _, h1, h2, _⟩ := h.form
  have e : ad = ad' := by injection hv
  subst e
  cases ad with
  | none => have e := (h1 rfl).1; rw [e] at hn; simp at hn; omega
  | some a =>
    obtain ⟨g, rfl, a, b⟩ := h2 a rfl
    exact ⟨g, rfl, a, b⟩
theorem cell_other {w : World} {b o g q : Nat} {u v : Value} (hne : b ≠ g) (h : w.cell? ⟨b, o, none⟩ = some v) : (w.setCell ⟨g, q, none⟩ u).cell? ⟨b, o, none⟩ = some v := by
  rw [World.cell?_setCell_other _ _ _ _ (by intro e'; simp only [Addr.mk.injEq] at e'; omega)]
  exact h
theorem filters_far (xs : List Int) (ad : Option Addr) (cap : Nat) (n i k : Int) (w : World) {K : World → Prop} (hk : K w) (CL : LiveC K 5) (KB : ∀ {w w' : World}, K w → Below w.heap.size w w' → K w') (hl : xs.length ≤ 9223372036854775807) (h : 100 < xs.length ∨ (xs.length ≤ 100 ∧ 60 < n ∧ n ≤ 65536)) :
    Calls Tryz.prog 4 #[.slice ad xs.length cap, .int .i64 n, .int .i64 i, .int .i64 k] w fun e w' => e = .returned (.bool true) ∧ Below w.heap.size w w' := by
  have CL := fun w hk => CL w hk
  have CK : ∀ w' : World, Below w.heap.size w w' → K w' := fun w' b => KB hk b
  clear hk
  generalize xs.length = m at *
  rcases h with h1 | ⟨h1, h3, h4⟩
  · have h1' : (100 : Int) < (m : Int) := by omega
    go_enter Tryz.func4, Tryz.ntmps4
    go_wp2_with (go_at_call 5; (with_reducible refine (CL _ (CK _ (by repeat (first | exact Below.refl _ _ | assumption | exact HB.out | (with_reducible refine bt ?_ (by assumption)) | with_reducible refine bd ?_ | with_reducible refine ba ?_ _)))).mono ?_); rintro e w1 ⟨rfl, b1⟩)
    go_ret
    refine ⟨rfl, ?_⟩
    exact (by repeat (first | exact Below.refl _ _ | assumption | exact HB.out | (with_reducible refine bt ?_ (by assumption)) | with_reducible refine bd ?_ | with_reducible refine ba ?_ _))
  · have h1' : (m : Int) ≤ 100 := by omega
    go_enter Tryz.func4, Tryz.ntmps4
    go_wp2_with (go_at_call 5; (with_reducible refine (CL _ (CK _ (by repeat (first | exact Below.refl _ _ | assumption | exact HB.out | (with_reducible refine bt ?_ (by assumption)) | with_reducible refine bd ?_ | with_reducible refine ba ?_ _)))).mono ?_); rintro e w1 ⟨rfl, b1⟩)
    go_ret
    refine ⟨rfl, ?_⟩
    exact (by repeat (first | exact Below.refl _ _ | assumption | exact HB.out | (with_reducible refine bt ?_ (by assumption)) | with_reducible refine bd ?_ | with_reducible refine ba ?_ _))
set_option maxRecDepth 100000 in
set_option maxHeartbeats 2000000 in
theorem filters_near {K : World → Prop} {T : World → Value → Int → List (Int × List Int) → Prop} (TC : TabC K T) (CR : FilterC K T) (CL : LiveC K 5) (xs : List Int) (ad : Option Addr) (cap : Nat) (n i k : Int) (w : World) (hk : K w) (hr : RowAt .i64 w ad xs) (hx : All64 xs) (hz : ad = none → cap = 0) (hl : xs.length ≤ 100) (hn : n ≤ 60 ∨ (60 < n ∧ 65536 < n))
    (n0 : -9223372036854775808 ≤ n) (n1 : n ≤ 9223372036854775807) (i0 : -9223372036854775808 ≤ i) (i1 : i ≤ 9223372036854775807) (k0 : -9223372036854775808 ≤ k) (k1 : k ≤ 9223372036854775807) :
    Calls Tryz.prog 4 #[.slice ad xs.length cap, .int .i64 n, .int .i64 i, .int .i64 k] w fun e w' => e = .returned (.bool true) ∧ Below w.heap.size w w' := by
  have CL := fun w hk => CL w hk
  have CK : ∀ w' : World, Below w.heap.size w w' → K w' := fun w' b => TC.kbelow hk b
  have C1 := fun ad cap w hk hr => CR xs ad cap n w hk hr hx (by omega) n0 n1
  have C2 := fun ad cap w hr => reffilter_any xs ad cap n w hr hx (by omega)
  obtain ⟨j0, hi, hz0, hz1, hz2⟩ := info_parts infoI64A
  have HR := hide hr
  have HZ := hide hz
  clear CR hk hr hz hx
  obtain ⟨m, hm⟩ : ∃ m, xs.length = m := ⟨_, rfl⟩
  have HN := hide hm
  have hal := appR_len xs
  have hfl := filTo_len xs n.toNat
  have hf0 : ∀ q, 1 ≤ q → lnAt (filTo xs q) 0 = (((0 : Nat) : Int) - ((xs.length / 2 : Nat) : Int), appR xs) := fun q hq => lnAt_map (filLine xs) (by omega)
  rw [hm] at hl C1 C2 hal hf0 ⊢
  have hcz : filCode xs n = 0 → 1 ≤ n ∧ n ≤ 65536 ∧ m % 2 = 1 := by
    intro h
    unfold filCode at h
    by_cases g : sideB n = true
    · rw [if_pos g] at h
      obtain ⟨a, b⟩ := (sideB_iff n).1 g
      refine ⟨a, b, ?_⟩
      by_cases g2 : xs.length % 2 = 0
      · rw [if_pos g2] at h; omega
      · rw [hm] at g2; omega
    · rw [if_neg g] at h; omega
  clear hm
  have hl' : (m : Int) ≤ 100 := by omega
  by_cases hcd : filCode xs n = 0
  · obtain ⟨x0, x1, x2⟩ := hcz hcd
    have hn2 : n ≤ 60 := by omega
    have hf1 := hf0 n.toNat (by omega)
    rw [hcd] at C1 C2
    have HAL := hide hal
    have HFL := hide hfl
    obtain ⟨L, hL⟩ : ∃ L, filTo xs n.toNat = L := ⟨_, rfl⟩
    rw [hL] at C1 C2 hfl hf1 HFL
    have hLl : 0 < L.length := by omega
    have HF1 := hide hf1
    have HLN := hide (show L ≠ [] from fun e => by rw [e] at hLl; simp at hLl)
    have HLL := hide hLl
    have CT : ∀ {w' : World} {v : Value}, T w' v n L → Calls Tryz.prog 12 #[v, .int .i64 0] w' fun e w'' => ∃ u, e = .returned (.agg #[.int .i64 (((0 : Nat) : Int) - ((m / 2 : Nat) : Int)), u]) ∧ OwnI .i64 2 w'' w'.heap.size u (appR xs) ∧ Below w'.heap.size w' w'' := by
      intro w' v h
      have := TC.line h 0 HLL.out
      rw [HF1.out] at this
      exact this
    clear hcz hcd hf0 hf1 hal hfl hL hn hLl
    obtain ⟨fv, hfv⟩ : ∃ fv, ((0 : Nat) : Int) - ((m / 2 : Nat) : Int) = fv := ⟨_, rfl⟩
    rw [hfv] at CT
    clear hfv HF1
    have m0 : 1 ≤ m := by omega
    clear x2
    go_enter Tryz.func4, Tryz.ntmps4
    go_wp2_with (first
      | (go_at_call 5; (with_reducible refine (CL _ (CK _ (by repeat (first | exact Below.refl _ _ | assumption | exact HB.out | (with_reducible refine bt ?_ (by assumption)) | with_reducible refine bd ?_ | with_reducible refine ba ?_ _)))).mono ?_); rintro e w1 ⟨rfl, b1⟩)
      | (at_builtin; refine wpList_append_row .i64 _ rfl _ _ 33 rfl w.heap.size 2 j0 (.int .i64 0) 8 Tryz.underlying33 hi hz0 hz1 hz2 rfl (.slice (some ⟨w1.heap.size, 0, none⟩) 0 0) [] rfl (own_lit0 _ _ _ _ (by have := b1.size; omega)) ad m cap xs rfl HN.out ((HR.out.below b1).below (below1 _ _)) HZ.out (by simp; unfold maxLen; omega) (by simp; omega) (by have := b1.size; simp; omega) ?_; intro v1 w2 own2 grow2 _; have bw2 := grown_lit b1 grow2; rw [List.nil_append] at own2; obtain ⟨ad1, cap1, rfl, r1, _⟩ := own2.formn HN.out)
      | (go_at_call 9; (with_reducible refine (C1 _ _ _ (CK _ bw2) r1).mono ?_); rintro e w3 ⟨v3, rfl, hT, _, b3⟩; have HT := hide (hT (by trivial)); clear hT; obtain ⟨a, rfl⟩ := TC.ptr HT.out)
      | (go_at_call 10; (with_reducible refine (C2 _ _ _ (HR.out.below (bt bw2 b3))).mono ?_); rintro e w4 ⟨v4, rfl, ho, _, b4⟩; obtain ⟨g, gcap, rfl, _, hrl⟩ := (ho (by trivial)).read HLN.out; have HRL := hide hrl; clear ho hrl)
      | (go_at_call 11; (with_reducible refine (same_n m xs HN.out _ _ _ _ _ (r1.below (bt b3 b4)) (HR.out.below (bt (bt bw2 b3) b4)) (by omega)).mono ?_); rintro e w5 ⟨rfl, b5⟩)
      | (go_at_call 12; (with_reducible refine (CT (TC.below HT.out (bt b4 b5))).mono ?_); rintro e w6 ⟨u6, rfl, ou, b6⟩; obtain ⟨ad6, cap6, rfl, _, _⟩ := ou.formn HAL.out; have OU := hide ou; clear ou))
    obtain ⟨g6, rfl, gb, gl⟩ := own_head OU.out HAL.out m0
    have z6 := b6.size
    have B5 := hide (ba b6 (.cells #[.int .i64 fv, .slice (some ⟨g6, 0, none⟩) m cap6] 38))
    have BW := hide (bt (bt (bt bw2 b3) b4) b5)
    have BT := hide (bt b4 b5)
    have BR := hide b5
    have ON := hide (OU.out.alloc (.cells #[.int .i64 fv, .slice (some ⟨g6, 0, none⟩) m cap6] 38))
    clear b1 b3 b4 b5 b6 bw2 own2 grow2 r1 OU C1 C2 CT CL CK
    go_loopw [70] (fun j wr => ∃ (q : Nat) (ys : List Int), q ≤ m ∧ j = .int .i64 (q : Int) ∧ Hid (ys.length = m) ∧ OwnI .i64 2 wr w5.heap.size (.slice (some ⟨g6, 0, none⟩) m cap6) ys ∧ wr.cell? ⟨w6.heap.size, 0, none⟩ = some (.int .i64 fv) ∧ wr.cell? ⟨w6.heap.size, 1, none⟩ = some (.slice (some ⟨g6, 0, none⟩) m cap6) ∧ Below w5.heap.size w5 wr) (fun j _ => m - (intOf j).toNat)
    case atStart => exact ⟨0, _, by omega, rfl, HAL, ON.out, by simp, by simp, B5.out⟩
    case round =>
      clear B5 ON
      obtain ⟨q, ys, hq, rfl, hyl, ho, p0, p1, hb⟩ := hrel
      have HO := hide ho
      have HB := hide hb
      clear ho hb
      by_cases hlt : q < m
      · have c := HO.out.cellAt hyl.out hlt
        have z := HO.out.frozenAt hyl.out q
        generalize ys.getD q 0 = x at c
        go_wp2
        go_roundw
        case rel => exact ⟨q + 1, _, by omega, by go_num, (by show List.length (List.set _ _ _) = m; rw [List.length_set]; exact hyl.out), HO.out.stored hyl.out q _, cell_other (by omega) p0, cell_other (by omega) p1, bs HB.out gb _⟩
        case measure => simp [intOf]; omega
      · obtain rfl : q = m := by omega
        clear hlt hq
        go_wp2_with (go_at_call 8; (with_reducible refine (same_table TC _ n L g gcap i k _ (TC.below HT.out (bt BT.out HB.out)) (HRL.out.below (bt BR.out HB.out)) i0 i1 k0 k1).mono ?_); rintro e w7 ⟨rfl, b7⟩)
        go_ret
        exact ⟨rfl, bt (bt BW.out HB.out) b7⟩
  · have hzb : (filCode xs n != 0) = true := by simpa using hcd
    have hzb2 : (filCode xs n == 0) = false := by simpa using hcd
    have HCZ := hide hcd
    clear hcz hcd hf0 hal hfl
    generalize filCode xs n = cd at *
    rcases hn with hn | ⟨hn, hn'⟩
    all_goals
      go_enter Tryz.func4, Tryz.ntmps4
      go_wp2_with (first
        | (go_at_call 5; (with_reducible refine (CL _ (CK _ (by repeat (first | exact Below.refl _ _ | assumption | exact HB.out | (with_reducible refine bt ?_ (by assumption)) | with_reducible refine bd ?_ | with_reducible refine ba ?_ _)))).mono ?_); rintro e w1 ⟨rfl, b1⟩)
        | (at_builtin; refine wpList_append_row .i64 _ rfl _ _ 33 rfl w.heap.size 2 j0 (.int .i64 0) 8 Tryz.underlying33 hi hz0 hz1 hz2 rfl (.slice (some ⟨w1.heap.size, 0, none⟩) 0 0) [] rfl (own_lit0 _ _ _ _ (by have := b1.size; omega)) ad m cap xs rfl HN.out ((HR.out.below b1).below (below1 _ _)) HZ.out (by simp; unfold maxLen; omega) (by simp; omega) (by have := b1.size; simp; omega) ?_; intro v1 w2 own2 grow2 _; have bw2 := grown_lit b1 grow2; rw [List.nil_append] at own2; obtain ⟨ad1, cap1, rfl, r1, _⟩ := own2.formn HN.out)
        | (go_at_call 9; (with_reducible refine (C1 _ _ _ (CK _ bw2) r1).mono ?_); rintro e w3 ⟨v3, rfl, _, hv3, b3⟩; obtain rfl := hv3 HCZ.out)
        | (go_at_call 10; (with_reducible refine (C2 _ _ _ (HR.out.below (bt bw2 b3))).mono ?_); rintro e w4 ⟨v4, rfl, _, hv4, b4⟩; obtain rfl := hv4 HCZ.out)
        | (go_at_call 11; (with_reducible refine (same_n m xs HN.out _ _ _ _ _ (r1.below (bt b3 b4)) (HR.out.below (bt (bt bw2 b3) b4)) (by omega)).mono ?_); rintro e w5 ⟨rfl, b5⟩))
      go_ret
      exact ⟨rfl, bt (bt (bt bw2 b3) b4) b5⟩
theorem of_TableFilters {K : World → Prop} {T : World → Value → Int → List (Int × List Int) → Prop} (TC : TabC K T) (CR : FilterC K T) (CL : LiveC K 5) (xs : List Int) (ad : Option Addr) (cap : Nat) (n i k : Int) (w : World) (hk : K w) (hr : RowAt .i64 w ad xs) (hx : AllK .i64 xs) (hl : xs.length ≤ maxLen) (hz : ad = none → cap = 0)
    (hn : -9223372036854775808 ≤ n ∧ n ≤ 9223372036854775807) (hi : -9223372036854775808 ≤ i ∧ i ≤ 9223372036854775807) (hkk : -9223372036854775808 ≤ k ∧ k ≤ 9223372036854775807) :
    Calls Tryz.prog 4 #[.slice ad xs.length cap, .int .i64 n, .int .i64 i, .int .i64 k] w fun e w' => e = .returned (.bool true) ∧ Below w.heap.size w w' := by
  unfold maxLen at hl
  by_cases h : 100 < xs.length ∨ (xs.length ≤ 100 ∧ 60 < n ∧ n ≤ 65536)
  · exact filters_far xs ad cap n i k w hk CL TC.kbelow (by omega) h
  · exact filters_near TC CR CL xs ad cap n i k w hk hr (fun j hj => allK_i64 hx hj) hz (by omega) (by omega) hn.1 hn.2 hi.1 hi.2 hkk.1 hkk.2
end Go.Proofs.YtjmjgokgjeankaaGreatDoor

/- The program's table is a table; and the laws in whose seat Same stands. -/
namespace Go.Proofs.YtjmjgokgjeankaaGreatDoor
open Go.RowKit


theorem tab_c : TabC Kinds Tab where
  kbelow := fun h b => kinds_below h b
  below := fun h b => h.below b
  ptr := fun h => h.ptr
  ok := fun h => h.ok
  cfrom := fun h => tab_from h
  cto := fun h => tab_to h
  line := fun h j hj => tab_line h j hj
  noline := fun h i i0 i1 hi => tab_noline h i i0 i1 hi
  most := fun h => tab_most h
  size := fun h => tab_size h
  reach := fun h i k i0 i1 k0 k1 => tab_reach h i k i0 i1 k0 k1
theorem live_c : LiveC Kinds 5 :=
  table_lives tab_c resize_c (fun w hk => rlives row_yes keysC w hk) (fun w hk => tlives (K := Kinds) (fun _ _ h b => kinds_below h b) (fun xs ad cap w _ hr hx hl => apportion_any xs ad cap w hr hx hl) (fun s w _ _ _ => gaussian_any s w) w hk)
theorem law_TableResizes (f n m i k : Int) (w : World) (hk : Kinds w) (hf : -9223372036854775808 ≤ f ∧ f ≤ 9223372036854775807) (hn : -9223372036854775808 ≤ n ∧ n ≤ 9223372036854775807) (hm : -9223372036854775808 ≤ m ∧ m ≤ 9223372036854775807) (hi : -9223372036854775808 ≤ i ∧ i ≤ 9223372036854775807) (hkk : -9223372036854775808 ≤ k ∧ k ≤ 9223372036854775807) :
    Calls Tryz.prog 3 #[.int .i64 f, .int .i64 n, .int .i64 m, .int .i64 i, .int .i64 k] w fun e w' => e = .returned (.bool true) ∧ Below w.heap.size w w' :=
  of_TableResizes tab_c resize_c live_c f n m i k w hk hf.1 hf.2 hn.1 hn.2 hm.1 hm.2 hi.1 hi.2 hkk.1 hkk.2
theorem law_TableFilters (xs : List Int) (ad : Option Addr) (cap : Nat) (n i k : Int) (w : World) (hk : Kinds w) (hr : RowAt .i64 w ad xs) (hx : AllK .i64 xs) (hl : xs.length ≤ maxLen) (hz : ad = none → cap = 0)
    (hn : -9223372036854775808 ≤ n ∧ n ≤ 9223372036854775807) (hi : -9223372036854775808 ≤ i ∧ i ≤ 9223372036854775807) (hkk : -9223372036854775808 ≤ k ∧ k ≤ 9223372036854775807) :
    Calls Tryz.prog 4 #[.slice ad xs.length cap, .int .i64 n, .int .i64 i, .int .i64 k] w fun e w' => e = .returned (.bool true) ∧ Below w.heap.size w w' :=
  of_TableFilters tab_c filter_c live_c xs ad cap n i k w hk hr hx hl hz hn hi hkk
end Go.Proofs.YtjmjgokgjeankaaGreatDoor
