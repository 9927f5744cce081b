/- Parts, joined. -/
import Derived.Test.YtclgghhpiljgfaaGreatDoorJ26
import Derived.Test.YtclgghhpiljgfaaGreatDoorJ23
import Derived.Test.YtclgghhpiljgfaaGreatDoorJ04
import Derived.Test.YtclgghhpiljgfaaGreatDoorJ20
import Derived.Test.YtclgghhpiljgfaaGreatDoorJ19
import Derived.Test.YtclgghhpiljgfaaGreatDoorJ13
/- Weights that come to one: the program's taps. -/
namespace Go.Proofs.YtclgghhpiljgfaaGreatDoor
open Go.RowKit


theorem RowAt.apart {k : IntKind} {w : World} {g off : Nat} {xs : List Int} (h : RowAt k w (some ⟨g, off, none⟩) xs) {b : Nat} (hne : b ≠ g) (o : Nat) (u : Value) : RowAt k (w.setCell ⟨b, o, none⟩ u) (some ⟨g, off, none⟩) xs := by
  by_cases e : xs = []
  · exact Or.inl e
  · refine Or.inr ⟨g, off, rfl, fun j hj => ?_⟩
    rw [World.cell?_setCell_other _ _ _ _ (by intro e'; simp only [Addr.mk.injEq] at e'; omega)]
    exact h.at hj
theorem modF_rest {s x : Int} (s0 : 0 < s) (h : smallW x) : modF (x * 16384) s = restW s x := by
  obtain ⟨_, e, _⟩ := quotW_at s0 h
  rw [modF_of (by omega), e]
  unfold floorR
  rw [if_neg (by omega)]
set_option maxHeartbeats 8000000 in
set_option maxRecDepth 1000000 in
theorem apportion_fits (xs : List Int) (ad : Option Addr) (cap : Nat) (w : World) (hr : RowAt .i64 w ad xs) (hx : All64 xs) (hf : Fits xs) :
    Calls Tryz.prog 59 #[.slice ad xs.length cap] w fun e w' => ∃ v, e = .returned (.tuple #[v, .int .i64 0]) ∧ OwnI .i64 2 w' w.heap.size v (appR xs) ∧ Below w.heap.size w w' := by
  have HF := hide hf
  obtain ⟨h0, h1, h, s0⟩ := hf
  have CB := fun w hr => bounded_any xs ad cap w hr hx (by omega) true (by
    have B := badB_iff xs
    cases hb : badB xs with
    | false => rfl
    | true =>
      exfalso
      rcases B.1 hb with q | q | q
      · omega
      · omega
      · exact q h)
  have CS := fun w hr => tsum_any xs ad cap w hr hx (by omega)
  have s1 := (sumH_in xs).2
  have HR := hide hr
  have HX := hide hx
  have HH := hide h
  clear hr hx h
  obtain ⟨n, hn⟩ : ∃ n, xs.length = n := ⟨_, rfl⟩
  have HN := hide hn
  rw [hn] at h0 h1 CS CB ⊢
  obtain ⟨s, hs⟩ : ∃ s, sumH xs = s := ⟨_, rfl⟩
  have HS := hide hs
  rw [hs] at s0 s1 CS
  have ub : s ≤ 1152921504606846976 := by
    obtain ⟨a, _, b⟩ := sumH_small xs HH.out (by omega)
    rw [← hs, a]
    rw [hn] at b
    omega
  clear hn hs
  obtain ⟨zs, MK, MO, _⟩ := make64 n (by omega)
  have HMO := hide MO
  clear MO
  go_enter Tryz.func59, Tryz.ntmps59
  go_upto_region 6 with (first
    | (go_at_call 84; (with_reducible refine (CB _ HR.out).mono ?_); rintro e w1 ⟨rfl, rfl⟩)
    | (go_at_call 85; (with_reducible refine (CS _ HR.out).mono ?_); rintro e w1 ⟨rfl, rfl⟩))
  clear CS CB
  go_cut [5, 6] (fun u v wx => ∃ g1 g2, u = .slice (some ⟨g1, 0, none⟩) n n ∧ v = .slice (some ⟨g2, 0, none⟩) n n ∧ g1 ≠ g2 ∧ w.heap.size ≤ g1 ∧ w.heap.size ≤ g2 ∧ OwnI .i64 2 wx w.heap.size (.slice (some ⟨g1, 0, none⟩) n n) (List.replicate n 0) ∧ OwnI .i64 2 wx w.heap.size (.slice (some ⟨g2, 0, none⟩) n n) (List.replicate n 0) ∧ Below w.heap.size w wx)
  case first =>
    have O1 := (HMO.out w w.heap.size (Nat.le_refl _)).alloc (.cells zs 2)
    have O2 := HMO.out (w.alloc (.cells zs 2)) w.heap.size (by simp)
    rw [show (w.alloc (.cells zs 2)).heap.size = w.heap.size + 1 by simp] at O2
    have B2 := bd (ba (ba (Below.refl w.heap.size w) (.cells zs 2)) (.cells zs 2))
    have H4 := hide (And.intro O1 (And.intro O2 B2))
    clear O1 O2 B2
    go_region
    all_goals (go_wp2_with fail; go_meet)
    · exact ⟨_, _, rfl, rfl, Nat.ne_of_lt (Nat.lt_succ_self _), Nat.le_refl _, Nat.le_succ _, H4.out.1, H4.out.2.1, H4.out.2.2⟩
    · exact ⟨_, _, rfl, rfl, Nat.ne_of_gt (Nat.lt_succ_self _), Nat.le_succ _, Nat.le_refl _, H4.out.2.1, H4.out.1, H4.out.2.2⟩
  case rest =>
    obtain ⟨g1, g2, rfl, rfl, hne, gb1, gb2, ho, hq, hb⟩ := hcut
    clear MK HMO
    rw [← fillZ_zero (quotW s) xs n] at ho
    rw [← fillZ_zero (restW s) xs n] at hq
    go_wp2
    go_loopw [7, 28] (fun t i wr => ∃ k : Nat, k ≤ n ∧ i = .int .i64 (k : Int) ∧ t = .int .i64 (16384 - (quotsW s (xs.take k)).sum) ∧ OwnI .i64 2 wr w.heap.size (.slice (some ⟨g1, 0, none⟩) n n) (fillZ (quotW s) xs n k) ∧ OwnI .i64 2 wr w.heap.size (.slice (some ⟨g2, 0, none⟩) n n) (fillZ (restW s) xs n k) ∧ Below w.heap.size w wr) (fun _ i _ => n - (intOf i).toNat)
    case atStart => exact ⟨0, by omega, rfl, rfl, ho, hq, hb⟩
    case round =>
      clear ho hq hb
      obtain ⟨k, hk, rfl, rfl, ho, hq, hb⟩ := hrel
      have HO := hide ho
      have HQ := hide hq
      have HB := hide hb
      clear ho hq hb
      have HL1 := hide (fillZ_len (F := quotW s) (j := k) HN.out)
      have HL2 := hide (fillZ_len (F := restW s) (j := k) HN.out)
      by_cases hlt : k < n
      · obtain ⟨b, off, rfl, hc⟩ := (HR.out.below HB.out).get (show k < xs.length by rw [HN.out]; exact hlt)
        have hsm := mem_getD HH.out (show k < xs.length by rw [HN.out]; exact hlt)
        obtain ⟨q0, q1, r0, r1⟩ := quotW_small s0 hsm
        have CF := fun w => fixfloor_any (xs.getD k 0 * 16384) s (by unfold smallW at hsm; omega) (by unfold smallW at hsm; omega) (by omega) (by omega) w
        have CM := fun w => fixmod_any (xs.getD k 0 * 16384) s (by unfold smallW at hsm; omega) (by unfold smallW at hsm; omega) (by omega) (by omega) w
        rw [show floorF (xs.getD k 0 * 16384) s = quotW s (xs.getD k 0) from rfl] at CF
        rw [modF_rest (by omega) hsm] at CM
        have HT := hide (take_step xs (show k < xs.length by rw [HN.out]; exact hlt))
        have sq := quots_in s0 (xs.take k) (fun x hx => HH.out x (List.mem_of_mem_take hx))
        have tl : (xs.take k).length = k := by rw [List.length_take]; have := HN.out; omega
        rw [tl] at sq
        obtain ⟨sq0, sq1⟩ := sq
        clear tl
        have HZ1 := hide (fillZ_set (F := quotW s) HN.out hlt)
        have HZ2 := hide (fillZ_set (F := restW s) HN.out hlt)
        have OO := HO.out
        have QQ := HQ.out
        have c1 := OO.cellAt HL1.out hlt
        have z1 := OO.frozenAt HL1.out k
        have QS := OwnI.other (u := .int .i64 (quotW s (xs.getD k 0))) QQ g1 k hne
        have c2 := QS.cellAt HL2.out hlt
        have z2 := QS.frozenAt HL2.out k
        have OS := OwnI.other (u := .int .i64 (restW s (xs.getD k 0))) (OO.stored HL1.out k (quotW s (xs.getD k 0))) g2 k hne.symm
        have c3 := OS.cellAt (by rw [List.length_set]; exact HL1.out) hlt
        rw [getD_set _ _ _ _ (by rw [HL1.out]; exact hlt), if_pos rfl] at c3
        have QS2 := QS.stored HL2.out k (restW s (xs.getD k 0))
        rw [HZ1.out] at OS
        rw [HZ2.out] at QS2
        have H5 := hide (And.intro OS (And.intro QS2 (bs (bs HB.out gb1 (b := g1) (o := k) (.int .i64 (quotW s (xs.getD k 0)))) gb2 (b := g2) (o := k) (.int .i64 (restW s (xs.getD k 0))))))
        clear OO QQ QS OS QS2 HO HQ HZ1 HZ2
        unfold smallW at hsm
        obtain ⟨x0, x1⟩ := hsm
        generalize xs.getD k 0 = x at *
        generalize hqe : quotW s x = q at *
        generalize restW s x = r at *
        generalize hse : (quotsW s (xs.take k)).sum = S at *
        have HQE := hide hqe
        have HSE := hide hse
        clear hqe hse
        go_wp2_with (first
          | (go_at_call 86; (with_reducible refine (CF _).mono ?_); rintro e w2 ⟨rfl, rfl⟩)
          | (go_at_call 87; (with_reducible refine (CM _).mono ?_); rintro e w2 ⟨rfl, rfl⟩))
        go_roundw
        case rel =>
          obtain ⟨O4, Q4, B4⟩ := H5.out
          refine ⟨k + 1, by omega, by go_num, ?_, O4, Q4, B4⟩
          rw [HT.out, quotsW_snoc, HQE.out, List.sum_append, HSE.out, List.sum_singleton, show 16384 - (S + q) = 16384 - S - q by omega]
        case measure => simp [intOf]; omega
      · obtain rfl : k = n := by omega
        have HO0 := HO.out
        have HQ0 := HQ.out
        rw [fillZ_all HN.out, show xs.map (quotW s) = quotsW s xs from rfl] at HO0
        rw [fillZ_all HN.out, show xs.map (restW s) = restsW s xs from rfl] at HQ0
        rw [show xs.take k = xs from List.take_of_length_le (by rw [HN.out]; exact Nat.le_refl _)]
        obtain ⟨ST, L0, LL⟩ := fits_setting HF.out
        rw [HS.out] at ST L0 LL
        rw [HN.out] at ST LL
        have EX : appR xs = (giveN (quotsW s xs) (restsW s xs) (leftW s xs).toNat).1 := by unfold appR; rw [HS.out]
        obtain ⟨lf, hlf⟩ : ∃ lf : Nat, leftW s xs = (lf : Int) := ⟨(leftW s xs).toNat, by omega⟩
        rw [show (leftW s xs).toNat = lf by omega] at ST EX
        have lk : lf < k := by omega
        rw [show (16384 - (quotsW s xs).sum : Int) = (lf : Int) from hlf]
        have QI : ∀ b, b < k → -67108864 ≤ (quotsW s xs).getD b 0 ∧ (quotsW s xs).getD b 0 ≤ 67108864 := by
          intro b hb
          unfold quotsW
          rw [getD_map _ _ (by rw [HN.out]; exact hb)]
          have := quotW_small s0 (mem_getD HH.out (show b < xs.length by rw [HN.out]; exact hb))
          exact ⟨this.1, this.2.1⟩
        have CBR := fun wq hr => byrest_any (restsW s xs) k (some ⟨g2, 0, none⟩) k wq ST.rl h0 h1 hr
        have HRR := hide (show RowAt .i64 wr (some ⟨g2, 0, none⟩) (restsW s xs) from Or.inr ⟨g2, 0, rfl, fun j hj => by
          rw [ST.rl] at hj
          rw [Nat.zero_add]; exact HQ0.cellAt ST.rl hj⟩)
        have HST := hide ST
        have HEX := hide EX
        have HQI := hide QI
        have glt := HO0.lt g1 rfl
        have HO1 := hide HO0
        generalize quotsW s xs = Q0 at *
        generalize restsW s xs = R0 at *
        clear HO0 HQ0 ST EX QI L0 LL hlf hk hlt HO HQ HL1 HL2
        go_wp2_with (go_at_call 88; (with_reducible refine (CBR _ HRR.out).mono ?_); rintro e w4 ⟨g, p, rfl, hrk, hrow, hg, b4⟩)
        have HRK := hide hrk
        have HBW := hide (bt HB.out b4)
        have HO2 := hide (HO1.out.below b4)
        have HROW := hide hrow
        have hgne : g1 ≠ g := by omega
        have pl : p.length = k := by rw [hrk.len, HST.out.rl]
        have HPL := hide pl
        clear hrk hrow hg b4 HO1 HB HRR CBR pl glt
        go_loopg [59] lf (fun r i wq => ∃ m : Nat, m + r = lf ∧ i = .int .i64 (m : Int) ∧ OwnI .i64 2 wq w.heap.size (.slice (some ⟨g1, 0, none⟩) k k) (bumpN Q0 p m) ∧ RowAt .i64 wq (some ⟨g, 0, none⟩) (p.map fun k : Nat => (k : Int)) ∧ Below w.heap.size w wq)
        case atStart => exact ⟨0, by omega, by simp, HO2.out, HROW.out, HBW.out⟩
        case round =>
          clear HO2 HROW HBW
          obtain ⟨m, hm, rfl, ho, hrw, hb⟩ := hrel
          obtain ⟨W, hW⟩ : ∃ W, W = wr := ⟨_, rfl⟩
          subst hW
          have HM := hide hm
          have HO := hide ho
          have HRW := hide hrw
          have HB := hide hb
          have mle : m ≤ lf := by omega
          have HL := hide ((bumpN_len Q0 p m).trans HST.out.ql)
          clear hm ho hrw hb
          by_cases hlt : m < lf
          · have pm : p.getD m 0 < k := by
              have := HRK.out.lt m (by rw [HPL.out]; omega)
              rw [HST.out.rl] at this
              exact this
            have cp := HRW.out.at (show m < (p.map fun k : Nat => (k : Int)).length by rw [List.length_map, HPL.out]; omega)
            rw [Nat.zero_add] at cp
            rw [show (p.map fun k : Nat => (k : Int)).getD m 0 = ((p.getD m 0 : Nat) : Int) by
              rw [List.getD_eq_getElem?_getD, List.getD_eq_getElem?_getD, List.getElem?_map, List.getElem?_eq_getElem (by rw [HPL.out]; omega)]; rfl] at cp
            have ob : -67108864 ≤ (bumpN Q0 p m).getD (p.getD m 0) 0 ∧ (bumpN Q0 p m).getD (p.getD m 0) 0 ≤ 67108865 := by
              have e := (bumpN_give HRK.out (fun j hj => ((HST.out.rin j (by rw [HST.out.rl] at hj; exact hj))).1) (HST.out.ql.trans HST.out.rl.symm) m (by rw [HST.out.rl]; omega)).1
              rw [e]
              have q := HQI.out _ pm
              rcases (give_inv HST.out m (by omega)).each _ pm with e | e
              · have := e.2; omega
              · have := e.2.1; omega
            obtain ⟨ob0, ob1⟩ := ob
            have c1 := HO.out.cellAt HL.out pm
            have z1 := HO.out.frozenAt HL.out (p.getD m 0)
            have HS2 := hide (show bumpN Q0 p (m + 1) = (bumpN Q0 p m).set (p.getD m 0) ((bumpN Q0 p m).getD (p.getD m 0) 0 + 1) from rfl)
            have H7 := hide (And.intro (HO.out.stored HL.out (p.getD m 0) ((bumpN Q0 p m).getD (p.getD m 0) 0 + 1)) (And.intro (HRW.out.apart hgne (p.getD m 0) (.int .i64 ((bumpN Q0 p m).getD (p.getD m 0) 0 + 1))) (bs HB.out gb1 (b := g1) (o := p.getD m 0) (.int .i64 ((bumpN Q0 p m).getD (p.getD m 0) 0 + 1)))))
            clear HO HRW HB
            generalize (bumpN Q0 p m).getD (p.getD m 0) 0 = a at *
            generalize p.getD m 0 = P at *
            go_wp2
            go_roundg (gk - 1)
            case measure => have := HM.out; omega
            case rel => exact ⟨m + 1, by have := HM.out; omega, by go_num, by rw [HS2.out]; exact H7.out.1, H7.out.2.1, H7.out.2.2⟩
          · obtain rfl : m = lf := by have := HM.out; omega
            have e := (bumpN_give HRK.out (fun j hj => ((HST.out.rin j (by rw [HST.out.rl] at hj; exact hj))).1) (HST.out.ql.trans HST.out.rl.symm) m (by rw [HST.out.rl]; omega)).1
            have O5 := hide (show OwnI .i64 2 W w.heap.size (.slice (some ⟨g1, 0, none⟩) k k) (appR xs) by rw [HEX.out, ← e]; exact HO.out)
            clear HO e
            go_wp2
            exact bodyPost_ret (v := .tuple #[.slice (some ⟨g1, 0, none⟩) k k, .int .i64 0]) (by simp [results, Tryz.results59, go_sem]) rfl ⟨_, rfl, O5.out, HB.out⟩
end Go.Proofs.YtclgghhpiljgfaaGreatDoor

/- Weights that come to one: the program's calls, whatever comes in. -/
namespace Go.Proofs.YtclgghhpiljgfaaGreatDoor
open Go.RowKit


theorem apportion_any (xs : List Int) (ad : Option Addr) (cap : Nat) (w : World) (hr : RowAt .i64 w ad xs) (hx : All64 xs) (hl : xs.length ≤ 9223372036854775807) :
    Calls Tryz.prog 59 #[.slice ad xs.length cap] w fun e w' => ∃ v, e = .returned (.tuple #[v, .int .i64 (appCode xs)]) ∧ Ret .i64 (appOut xs) w' v ∧ Below w.heap.size w w' := by
  by_cases hf : Fits xs
  · have e := appCode_fits.2 hf
    have e2 : appOut xs = appR xs := by unfold appOut; rw [if_pos e]
    rw [e, e2]
    refine (apportion_fits xs ad cap w hr hx hf).mono ?_
    rintro e w1 ⟨v, rfl, o, b⟩
    exact ⟨v, rfl, o.ret, b⟩
  · have e : appCode xs ≠ 0 := fun g => hf (appCode_fits.1 g)
    have e2 : appOut xs = [] := by unfold appOut; rw [if_neg e]
    rw [e2]
    have HR := hide hr
    have CS := fun w hr => tsum_any xs ad cap w hr hx hl
    by_cases hb : badB xs = true
    · have e3 : appCode xs = 7 := by unfold appCode; rw [if_pos hb]
      rw [e3]
      have CB := fun w hr => bounded_any xs ad cap w hr hx hl false (by rw [hb]; rfl)
      clear hr hx CS hf e e2 e3 hb
      generalize xs.length = n at *
      go_enter Tryz.func59, Tryz.ntmps59
      go_wp2_with (go_at_call 84; (with_reducible refine (CB _ HR.out).mono ?_); rintro e w1 ⟨rfl, rfl⟩)
      exact bodyPost_ret (v := .tuple #[.slice none 0 0, .int .i64 7]) (by simp [results, Tryz.results59, go_sem]) rfl ⟨_, rfl, ret_nil _ _ _ _, Below.refl _ _⟩
    · have hb' : badB xs = false := by
        cases h : badB xs with
        | true => exact absurd h hb
        | false => rfl
      have h3 : sumH xs < 268435456 := by
        by_cases q : sumH xs < 268435456
        · exact q
        · have nb : ¬ (xs.length < 1 ∨ 1048576 < xs.length ∨ ¬ ∀ x ∈ xs, smallW x) := fun q => hb ((badB_iff xs).2 q)
          refine absurd ⟨?_, ?_, ?_, by omega⟩ hf
          · by_cases q : xs.length < 1
            · exact absurd (Or.inl q) nb
            · omega
          · by_cases q : 1048576 < xs.length
            · exact absurd (Or.inr (Or.inl q)) nb
            · omega
          · exact Classical.byContradiction fun q => nb (Or.inr (Or.inr q))
      have e3 : appCode xs = 8 := by unfold appCode; rw [if_neg hb, if_pos h3]
      rw [e3]
      have CB := fun w hr => bounded_any xs ad cap w hr hx hl true (by rw [hb']; rfl)
      obtain ⟨s0, s1⟩ := sumH_in xs
      generalize sumH xs = s at *
      clear hr hx hf e e2 e3 hb hb'
      generalize xs.length = n at *
      go_enter Tryz.func59, Tryz.ntmps59
      go_wp2_with (first
        | (go_at_call 84; (with_reducible refine (CB _ HR.out).mono ?_); rintro e w1 ⟨rfl, rfl⟩)
        | (go_at_call 85; (with_reducible refine (CS _ HR.out).mono ?_); rintro e w1 ⟨rfl, rfl⟩))
      exact bodyPost_ret (v := .tuple #[.slice none 0 0, .int .i64 8]) (by simp [results, Tryz.results59, go_sem]) rfl ⟨_, rfl, ret_nil _ _ _ _, Below.refl _ _⟩
theorem user_any (xs : List Int) (ad : Option Addr) (cap : Nat) (w : World) (hr : RowAt .i64 w ad xs) (hx : All64 xs) (hl : xs.length ≤ 9223372036854775807) :
    Calls Tryz.prog 65 #[.slice ad xs.length cap] w fun e w' => ∃ v, e = .returned (.tuple #[v, .int .i64 (userCode xs)]) ∧ Ret .i64 (userOut xs) w' v ∧ Below w.heap.size w w' := by
  unfold userCode userOut
  by_cases hu : userB xs = true
  · rw [if_pos hu, if_pos hu]
    refine (user_ok xs ad cap w hr hx ((userB_iff xs).1 hu)).mono ?_
    rintro e w1 ⟨v, rfl, o, b⟩
    exact ⟨v, rfl, o.ret, b⟩
  · rw [if_neg hu, if_neg hu]
    refine (user_bad xs ad cap w hr hx hl (fun q => hu ((userB_iff xs).2 q))).mono ?_
    rintro e w1 ⟨rfl, b⟩
    exact ⟨_, rfl, ret_nil _ _ _ _, b⟩
theorem gaussian_any (s : Int) (w : World) :
    Calls Tryz.prog 60 #[.int .i64 s] w fun e w' => ∃ v, e = .returned (.tuple #[v, .int .i64 (gauCode s)]) ∧ Ret .i64 (gauOut s) w' v ∧ Below w.heap.size w w' := by
  unfold gauCode gauOut
  by_cases h : 1 ≤ s ∧ s ≤ 4194304
  · rw [if_pos h, if_pos h]
    refine (gaussian_ok s h.1 h.2 w).mono ?_
    rintro e w1 ⟨v, rfl, o, b⟩
    exact ⟨v, rfl, o.ret, b⟩
  · rw [if_neg h, if_neg h]
    refine (gaussian_bad s (by omega) w).mono ?_
    rintro e w1 ⟨rfl, b⟩
    exact ⟨_, rfl, ret_nil _ _ _ _, b⟩
theorem bitsmul_one (m : Nat) (h : m < 18446744073709551616) (w : World) :
    Calls Tryz.prog 124 #[.int .u64 1, .int .u64 (m : Int)] w fun e w' => e = .returned (.tuple #[.int .u64 0, .int .u64 (m : Int)]) ∧ w = w' := by
  have C : ∀ w : World, Calls Tryz.prog 132 #[.int .u64 1, .int .u64 (m : Int)] w fun e w' => e = .returned (.tuple #[.int .u64 0, .int .u64 (m : Int)]) ∧ w = w' := fun w => by
    have := mul64_any 1 m (by omega) h w
    rw [Nat.one_mul, Nat.mod_eq_of_lt h, Nat.div_eq_of_lt h] at this
    exact this
  go_enter Tryz.func124, Tryz.ntmps124
  go_wp2_with (go_at_call 132; (with_reducible refine (C _).mono ?_); rintro e w1 ⟨rfl, rfl⟩)
  exact bodyPost_ret (v := .tuple #[.int .u64 0, .int .u64 (m : Int)]) (by simp [results, Tryz.results124, go_sem]) rfl ⟨rfl, rfl⟩
/-- So many ones, the rest nought. -/
def onesZ (c m : Nat) : List Value := List.replicate c (.int .i64 1) ++ List.replicate (m - c) (.int .i64 0)
theorem onesZ_len {c m : Nat} (h : c ≤ m) : (onesZ c m).length = m := by unfold onesZ; rw [List.length_append, List.length_replicate, List.length_replicate]; omega
theorem onesZ_get {c m j : Nat} (h : j < c) : (onesZ c m)[j]? = some (.int .i64 1) := by
  unfold onesZ
  rw [List.getElem?_append_left (by rw [List.length_replicate]; exact h), List.getElem?_replicate, if_pos h]
theorem onesZ_more {c m d : Nat} (h : c + d ≤ m) : splice (onesZ c m) c (List.replicate d (.int .i64 1)) = onesZ (c + d) m := by
  unfold splice onesZ
  rw [List.length_replicate, List.take_left' (by rw [List.length_replicate]), List.drop_append, List.length_replicate, List.drop_of_length_le (by rw [List.length_replicate]; omega), List.nil_append, List.drop_replicate, ← List.append_assoc, List.replicate_append_replicate]
  congr 2
  omega
theorem onesZ_all (m : Nat) : onesZ m m = (List.replicate m (1 : Int)).map (Value.int .i64) := by unfold onesZ; simp
theorem infoSzV : (Tryz.prog.info? 2).map (·.size) = some 1 := by kernel_rfl
theorem bdG {B : Nat} {a w : World} (h : Below B a w) : Below B a w.drew := h.trans ⟨rfl, rfl, rfl, Nat.le_refl _, fun _ _ => rfl⟩
set_option maxHeartbeats 4000000 in
set_option maxRecDepth 1000000 in
theorem repeat_one (m : Nat) (m0 : 1 ≤ m) (m1 : m ≤ 2000) (k : Nat) (w : World) (hc : w.cell? ⟨k, 0, none⟩ = some (.int .i64 1)) :
    Calls Tryz.prog 92 #[.slice (some ⟨k, 0, none⟩) 1 1, .int .i64 (m : Int)] w fun e w' => ∃ v, e = .returned v ∧ OwnI .i64 2 w' w.heap.size v (List.replicate m 1) ∧ Below w.heap.size w w' := by
  have CM := fun w => bitsmul_one m (by omega) w
  obtain ⟨zs, MK, _, MZ⟩ := make64 m (by omega)
  have hsz := infoSzV
  have HC := hide hc
  have kl := cell_ltL hc
  have HW := hide (show (w.alloc (.cells zs 2)).heap[w.heap.size]? = some (.cells (onesZ 0 m).toArray 2 (0, 0)) by
    have e : zs = (onesZ 0 m).toArray := by
      apply Array.toList_inj.1
      rw [MZ]; unfold onesZ; simp
    rw [← e]; exact heap_alloc_new w _)
  have HC1 := hide (show (w.alloc (.cells zs 2)).cell? ⟨k, 0, none⟩ = some (.int .i64 1) from cb (ba (Below.refl _ _) _) kl hc)
  have HS := hide hsz
  obtain ⟨w2, hrun, hg2, hb2⟩ := copy_run (P := Tryz.prog) (w.alloc (.cells zs 2)) 25 25 3 2 Tryz.underlying25 hsz w.heap.size 0 m m ⟨k, 0, none⟩ 1 1 (onesZ 0 m) 2 [.int .i64 1] 1 HW.out rfl (show 1 = min 1 m by omega) (fun j v hj => by
    match j, hj with
    | 0, hj => simp at hj; subst hj; exact HC1.out) (by rw [onesZ_len (Nat.zero_le _)]; omega) (one_int _ _) w.heap.size (Nat.le_refl _)
  have hg2' : w2.heap[w.heap.size]? = some (.cells (onesZ 1 m).toArray 2 (0, 0)) := by
    rw [hg2]
    have := onesZ_more (c := 0) (d := 1) (m := m) (by omega)
    rw [List.replicate_one, Nat.zero_add] at this
    rw [this]
  have hb2' : Below w.heap.size w w2 := (ba (Below.refl _ _) _).trans hb2
  have HG2 := hide hg2'
  have HB2 := hide hb2'
  clear MZ hc hsz hg2 hg2' hb2 hb2' HC HC1 kl
  go_enter Tryz.func92, Tryz.ntmps92
  go_wp2_with (go_at_call 124; (with_reducible refine (CM _).mono ?_); rintro e w1 ⟨rfl, rfl⟩)
  clear hrun CM MK HW
  obtain ⟨g, hg⟩ : ∃ g, w.heap.size = g := ⟨_, rfl⟩
  have HGE := hide hg
  rw [hg] at HG2 HB2 ⊢
  clear hg
  go_loopw [8] (fun u wr => ∃ c : Nat, 1 ≤ c ∧ c ≤ m ∧ u = .int .i64 (c : Int) ∧ Hid (wr.heap[g]? = some (.cells (onesZ c m).toArray 2 (0, 0))) ∧ Below g w wr) (fun u _ => m - (intOf u).toNat)
  case atStart => exact ⟨1, by omega, by omega, rfl, HG2, HB2.out⟩
  case round =>
    obtain ⟨c, c0, c1, rfl, HG, hb⟩ := hrel
    have HB := hide hb
    clear hb HG2 HB2
    by_cases hlt : c < m
    · obtain ⟨d, hd⟩ : ∃ d, min c (m - c) = d := ⟨_, rfl⟩
      have d0 : 1 ≤ d := by omega
      have d1 : c + d ≤ m := by omega
      have d2 : d ≤ c := by omega
      obtain ⟨w3, hrun, hg3, hb3⟩ := copy_run (P := Tryz.prog) wr.drew 25 25 3 2 Tryz.underlying25 HS.out g c (m - c) (m - c) ⟨g, 0, none⟩ c m (onesZ c m) 2 (List.replicate d (.int .i64 1)) d HG.out List.length_replicate (show d = Nat.min c (m - c) from hd.symm) (fun j v hj => by
        rw [List.getElem?_replicate] at hj
        by_cases h : j < d
        · rw [if_pos h] at hj
          obtain rfl := Option.some.inj hj
          rw [addr_add, Nat.zero_add]
          have e : wr.drew.heap[g]? = some (.cells (onesZ c m).toArray 2 (0, 0)) := HG.out
          unfold World.cell?
          simp only [e, List.getElem?_toArray]
          exact onesZ_get (by omega)
        · rw [if_neg h] at hj; cases hj) (by rw [onesZ_len c1]; omega) (fun v hv => by obtain rfl := List.eq_of_mem_replicate hv; rfl) g (Nat.le_refl _)
      rw [onesZ_more d1] at hg3
      have HG3 := hide hg3
      have HB3 := hide (Below.trans (bdG HB.out) hb3)
      have hmc : ¬ m = c := by omega
      have HD := hide hd
      clear hg3 hb3 hd HG HB
      go_wp2_with fail
      go_region
      go_wp2
      go_roundw
      case rel => exact ⟨c + d, by omega, d1, by go_num, HG3, HB3.out⟩
      case measure => simp [intOf]; omega
    · obtain rfl : c = m := by omega
      have e := HG.out
      rw [onesZ_all] at e
      have HO := hide (OwnI.of_block (base := w.heap.size) e List.length_replicate (by rw [HGE.out]; exact Nat.le_refl _) (by unfold maxLen; omega))
      have HBW := hide (show Below w.heap.size w wr by rw [HGE.out]; exact HB.out)
      clear HG e HB
      go_wp2
      go_ret
      exact ⟨_, rfl, HO.out, HBW.out⟩
theorem blur_bad (r : Int) (h : r < 0 ∨ 511 < r) (w : World) :
    Calls Tryz.prog 64 #[.int .i64 r] w fun e w' => e = .returned (.tuple #[.slice none 0 0, .int .i64 7]) ∧ Below w.heap.size w w' := by
  rcases h with h | h
  · go_enter Tryz.func64, Tryz.ntmps64
    go_wp2
    exact bodyPost_ret (v := .tuple #[.slice none 0 0, .int .i64 7]) (by simp [results, Tryz.results64, go_sem]) rfl ⟨rfl, Below.refl _ _⟩
  · have h2 : decide (r < 0) = false := decide_eq_false (by omega)
    go_enter Tryz.func64, Tryz.ntmps64
    go_wp2
    exact bodyPost_ret (v := .tuple #[.slice none 0 0, .int .i64 7]) (by simp [results, Tryz.results64, go_sem]) rfl ⟨rfl, Below.refl _ _⟩
set_option maxHeartbeats 4000000 in
set_option maxRecDepth 1000000 in
theorem blur_ok (r : Nat) (h : r ≤ 511) (w : World) :
    Calls Tryz.prog 64 #[.int .i64 (r : Int)] w fun e w' => ∃ v, e = .returned (.tuple #[v, .int .i64 0]) ∧ OwnI .i64 2 w' w.heap.size v (userR (List.replicate (2 * r + 1) 1)) ∧ Below w.heap.size w w' := by
  obtain ⟨us, hus⟩ : ∃ us, us = userR (List.replicate (2 * r + 1) 1) := ⟨_, rfl⟩
  have HUS := hide hus
  rw [← hus]
  obtain ⟨m, hm⟩ : ∃ m, 2 * r + 1 = m := ⟨_, rfl⟩
  have hm' : 2 * (r : Int) + 1 = (m : Int) := by omega
  have CR := fun k w hc => repeat_one m (by omega) (by omega) k w hc
  have CU := fun w ad cap hr => user_ok (List.replicate m 1) ad cap w hr (ones_64 m) (by rw [← hm]; exact ones_user r h)
  rw [List.length_replicate] at CU
  rw [← show us = userR (List.replicate m 1) by rw [hus, hm]] at CU
  have m1 : m ≤ 1023 := by omega
  have HM := hide hm
  clear hus hm
  go_enter Tryz.func64, Tryz.ntmps64
  go_wp2_with (first
    | (go_at_call 92; (with_reducible refine (CR _ _ (by simp)).mono ?_); rintro e w2 ⟨v, rfl, hov, b2⟩; obtain ⟨ad, cap, rfl, hrow, _⟩ := hov.formn List.length_replicate; have HRW := hide hrow; clear hov hrow)
    | (go_at_call 65; (with_reducible refine (CU _ _ _ HRW.out).mono ?_); rintro e w3 ⟨v, rfl, hov, b3⟩))
  have B3 := bt (bt (ba (Below.refl w.heap.size w) _) b2) b3
  have O3 := hov.mono (bt (ba (Below.refl w.heap.size w) _) b2).size
  exact bodyPost_ret (v := .tuple #[v, .int .i64 0]) (by simp [results, Tryz.results64, go_sem]) rfl ⟨_, rfl, O3, B3⟩
theorem blur_any (r : Int) (w : World) :
    Calls Tryz.prog 64 #[.int .i64 r] w fun e w' => ∃ v, e = .returned (.tuple #[v, .int .i64 (blurCode r)]) ∧ Ret .i64 (blurOut r) w' v ∧ Below w.heap.size w w' := by
  unfold blurCode blurOut
  by_cases h : 0 ≤ r ∧ r ≤ 511
  · rw [if_pos h, if_pos h]
    obtain ⟨n, rfl⟩ : ∃ n : Nat, r = (n : Int) := ⟨r.toNat, by omega⟩
    refine (blur_ok n (by omega) w).mono ?_
    rintro e w1 ⟨v, rfl, o, b⟩
    exact ⟨v, rfl, o.ret, b⟩
  · rw [if_neg h, if_neg h]
    refine (blur_bad r (by omega) w).mono ?_
    rintro e w1 ⟨rfl, b⟩
    exact ⟨_, rfl, ret_nil _ _ _ _, b⟩
end Go.Proofs.YtclgghhpiljgfaaGreatDoor

/- The laws of stage 5, where the program's table of filters holds what its text lays. -/
namespace Go.Proofs.YtclgghhpiljgfaaGreatDoor
open Go.RowKit


theorem keysC : KeysC := fun a b h0 h1 w => keys_any a b h0 h1 w
end Go.Proofs.YtclgghhpiljgfaaGreatDoor
