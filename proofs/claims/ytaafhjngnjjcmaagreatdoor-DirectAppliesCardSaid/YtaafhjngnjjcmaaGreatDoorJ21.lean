/- Parts, joined. -/
import Derived.Test.YtaafhjngnjjcmaaGreatDoorJ20
import Derived.Test.YtaafhjngnjjcmaaGreatDoorJ19
import Derived.Shelf.SlSortCmp.Whole1
import Derived.Maps.AppendAt
import Derived.Maps.Range
import Derived.Deep.AppendLies
/- Weights that come to one: places by their rests, and kernels of one weight. -/
namespace Go.Proofs.YtaafhjngnjjcmaaGreatDoor
open Go.RowKit


theorem infoIntT : (Tryz.prog.info? 3).map (fun i => (i.zero, i.size, i.bytes)) = some (some (.int .i64 0), 1, 8) := by kernel_rfl
/-- The first places. -/
def firstP (j : Nat) : List Int := (List.range j).map fun k : Nat => (k : Int)
theorem firstP_snoc (j : Nat) : firstP (j + 1) = firstP j ++ [(j : Int)] := by unfold firstP; rw [List.range_succ, List.map_append]; rfl
theorem firstP_len (j : Nat) : (firstP j).length = j := by unfold firstP; rw [List.length_map, List.length_range]
theorem firstP_get {j n : Nat} (h : j < n) : (firstP n).getD j 0 = (j : Int) := by
  unfold firstP
  rw [List.getD_eq_getElem?_getD, List.getElem?_map, List.getElem?_range h]; rfl
set_option maxHeartbeats 4000000 in
set_option maxRecDepth 1000000 in
theorem byrest_any (rs : List Int) (n : Nat) (ad : Option Addr) (cap : Nat) (w : World) (hn : rs.length = n) (n0 : 1 ≤ n) (n1 : n ≤ 1048576) (hr : RowAt .i64 w ad rs) :
    Calls Tryz.prog 136 #[.slice ad n cap] w fun e w' => ∃ g p, e = .returned (.slice (some ⟨g, 0, none⟩) n n) ∧ Ranked rs p ∧ RowAt .i64 w' (some ⟨g, 0, none⟩) (p.map fun k : Nat => (k : Int)) ∧ w.heap.size ≤ g ∧ Below w.heap.size w w' := by
  obtain ⟨i0, hi, hz0, hz1, hz2⟩ := info_parts infoIntT
  have HR := hide hr
  have HN := hide hn
  clear hr hn
  go_enter Tryz.func136, Tryz.ntmps136
  go_wp2_with (at_make; refine wpList_make_full _ rfl _ _ 181 rfl w.heap.size 3 i0 (.int .i64 0) 1 Tryz.underlying181 hi hz0 hz1 .i64 .i64 (n : Int) (n : Int) n rfl rfl rfl rfl (by rw [hz2]; omega) (by unfold maxLen; omega) (by simp) ?_; intro w2 hown hgrow)
  have es : (w.alloc (.cells #[.slice ad n cap] 47)).heap.size = w.heap.size + 1 := by simp
  rw [es] at hown
  have own0 : OwnI .i64 3 w2 w.heap.size (.slice (some ⟨w.heap.size + 1, 0, none⟩) n n) (padZ (firstP 0) n) := by
    rw [show firstP 0 = [] from rfl, padZ_nil]; exact OwnI.made hown
  have B2 := below_made (Below.refl _ (w.alloc (.cells #[.slice ad n cap] 47))) hgrow
  rw [es] at B2
  have hcell : (w.alloc (.cells #[.slice ad n cap] 47)).cell? ⟨w.heap.size, 0, none⟩ = some (.slice ad n cap) := by simp
  have HC := hide hcell
  have HBA := hide (ba (Below.refl w.heap.size w) (.cells #[.slice ad n cap] 47))
  have HES := hide es
  generalize w.alloc (.cells #[.slice ad n cap] 47) = wa at *
  clear hown hgrow hcell es
  go_loopw [10] (fun i wr => ∃ j : Nat, j ≤ n ∧ i = .int .i64 (j : Int) ∧ OwnI .i64 3 wr w.heap.size (.slice (some ⟨w.heap.size + 1, 0, none⟩) n n) (padZ (firstP j) n) ∧ Below (w.heap.size + 1) wa wr) (fun i _ => n - (intOf i).toNat)
  case atStart => exact ⟨0, by omega, rfl, own0, B2⟩
  case round =>
    clear own0 B2
    obtain ⟨j, hj, rfl, ho, hb⟩ := hrel
    have HO := hide ho
    have HB := hide hb
    clear ho hb
    by_cases hlt : j < n
    · have HZ := hide (padZ_set (firstP_len j) hlt (j : Int))
      have HS := hide (firstP_snoc j)
      have HL := hide (padZ_len (show (firstP j).length ≤ n by rw [firstP_len]; exact hj))
      have fz := HO.out.frozenAt HL.out j
      have cl := HO.out.cellAt HL.out hlt
      generalize padZ (firstP j) n = L1 at *
      go_wp2
      go_roundw
      case rel => exact ⟨j + 1, by omega, by go_num, by rw [HS.out, ← HZ.out]; exact HO.out.stored HL.out j (j : Int), by have h := HB.out; rw [← HES.out] at h ⊢; exact bs h (Nat.le_refl _) _⟩
      case measure => simp [intOf]; omega
    · obtain rfl : j = n := by omega
      have O2 := HO.out
      rw [padZ_full (firstP_len _)] at O2
      haveI : Inhabited (Fin j) := ⟨⟨0, by omega⟩⟩
      obtain ⟨d, hd⟩ : ∃ d : Array (Fin j), d.toList = List.finRange j := ⟨(List.finRange j).toArray, by simp⟩
      have dz : d.size = j := by rw [← Array.length_toList, hd, List.length_finRange]
      have BW : Below w.heap.size w wr := Below.trans HBA.out (HB.out.mono (by omega))
      have hz : w.heap.size + 1 < wr.heap.size := O2.lt _ rfl
      have dk : ∀ k, k < j → (d[k]!).val = k := by
        intro k hk
        have : (placesOf d).getD k 0 = k := by
          unfold placesOf
          rw [hd, List.getD_eq_getElem?_getD, List.getElem?_map, List.getElem?_eq_getElem (by rw [List.length_finRange]; exact hk)]
          simp
        rw [← arr_bang d (by omega)]; exact this
      have hH : Sort.Holds (fun x : Fin j => Value.int .i64 (x.val : Int)) wr (w.heap.size + 1) 0 d := by
        intro k hk
        rw [dz] at hk
        have c := O2.cellAt (firstP_len j) hk
        rw [firstP_get hk] at c
        rw [Nat.zero_add]
        show wr.cell? _ = some (Value.int .i64 ((d[k]!).val : Int)) ∧ _
        rw [dk k hk]
        exact ⟨c, O2.frozenAt (firstP_len j) k⟩
      have hcb := HB.out.cell (p := ⟨w.heap.size, 0, none⟩) (by show w.heap.size < _; omega)
      rw [HC.out] at hcb
      have hcmp : CmpLays1 Tryz.prog 159 #[.pointer (some ⟨w.heap.size, 0, none⟩)] (fun x : Fin j => Value.int .i64 (x.val : Int)) (cfR rs j) (w.heap.size + 1) 0 d.size wr := by
        intro m os dk hdk x y
        refine closure_any rs j HN.out x y w.heap.size ad cap _ (sort_cell _ _ _ _ _ _ _ hcb (by omega)) ?_
        rcases HR.out with e | ⟨b, off, e1, e2⟩
        · exact Or.inl e
        · refine Or.inr ⟨b, off, e1, fun k hk => ?_⟩
          have hlb := cell_ltL (e2 k hk)
          exact sort_cell _ _ _ _ _ _ _ (cb BW hlb (e2 k hk)) (by omega)
      have eg : ∀ args w, (callFunc 159 args).run Tryz.prog w = .ok (.enter 159 args) w := enters_of Tryz.func159 (by kernel_rfl) rfl
      have hS := Any.slices_SortFunc sortL (fun x : Fin j => Value.int .i64 (x.val : Int)) (fun _ => rfl) (cfR rs j) (cfR_swo rs j) 159 #[.pointer (some ⟨w.heap.size, 0, none⟩)] (w.heap.size + 1) 0 j d wr eg hcmp hH hz (by omega)
      rw [dz] at hS
      change Calls Tryz.prog 158 _ _ _ at hS
      have HD := hide hd
      have HZ := hide dz
      have HH := hide hH
      have HBW := hide BW
      clear hcb hcmp eg hd dz dk hH BW O2 HO
      go_wp2_with (go_at_call 158; (with_reducible refine hS.mono ?_); rintro e w3 ⟨rfl, d', m, os, hp, hs, hw3⟩; have HW3 := hide hw3; clear hw3)
      have dz := HZ.out
      have RK := ranked_of HN.out d d' HD.out (by rw [dz]; exact hp) (by rw [dz]; exact hs)
      have hH3 : Sort.Holds (fun x : Fin j => Value.int .i64 (x.val : Int)) w3 (w.heap.size + 1) 0 d' := by
        refine SW.holds (enc := fun x : Fin j => Value.int .i64 (x.val : Int)) (w0 := wr) ⟨m, os, HW3.out⟩ hz HH.out ?_
        exact hp.1
      have B3 : Below w.heap.size w w3 := by rw [HW3.out]; exact below_sort HBW.out (Nat.le_succ _) hz
      have pl : (placesOf d').length = d'.size := by unfold placesOf; rw [List.length_map, Array.length_toList]
      have RA : RowAt .i64 w3 (some ⟨w.heap.size + 1, 0, none⟩) ((placesOf d').map fun k : Nat => (k : Int)) := by
        refine Or.inr ⟨w.heap.size + 1, 0, rfl, fun k hk => ?_⟩
        rw [List.length_map, pl] at hk
        rw [(hH3 k hk).1]
        show some (Value.int .i64 ((d'[k]!).val : Int)) = _
        rw [← arr_bang d' hk, List.getD_eq_getElem?_getD, List.getD_eq_getElem?_getD, List.getElem?_map, List.getElem?_eq_getElem (by rw [pl]; exact hk)]
        rfl
      have H4 := hide (And.intro RK (And.intro RA B3))
      clear hp hs dz RK hH3 B3 pl RA hS
      go_wp2
      go_ret
      exact ⟨_, _, rfl, H4.out.1, H4.out.2.1, Nat.le_succ _, H4.out.2.2⟩
end Go.Proofs.YtaafhjngnjjcmaaGreatDoor

/- Weights that come to one: the program's taps. -/
namespace Go.Proofs.YtaafhjngnjjcmaaGreatDoor
open Go.RowKit


theorem RowAt.apart {k : IntKind} {w : World} {g off : Nat} {xs : List Int} (h : RowAt k w (some ⟨g, off, none⟩) xs) {b : Nat} (hne : b ≠ g) (o : Nat) (u : Value) : RowAt k (w.setCell ⟨b, o, none⟩ u) (some ⟨g, off, none⟩) xs := by
  by_cases e : xs = []
  · exact Or.inl e
  · refine Or.inr ⟨g, off, rfl, fun j hj => ?_⟩
    rw [World.cell?_setCell_other _ _ _ _ (by intro e'; simp only [Addr.mk.injEq] at e'; omega)]
    exact h.at hj
theorem modF_rest {s x : Int} (s0 : 0 < s) (h : smallW x) : modF (x * 16384) s = restW s x := by
  obtain ⟨_, e, _⟩ := quotW_at s0 h
  rw [modF_of (by omega), e]
  unfold floorR
  rw [if_neg (by omega)]
set_option maxHeartbeats 8000000 in
set_option maxRecDepth 1000000 in
theorem apportion_fits (xs : List Int) (ad : Option Addr) (cap : Nat) (w : World) (hr : RowAt .i64 w ad xs) (hx : All64 xs) (hf : Fits xs) :
    Calls Tryz.prog 117 #[.slice ad xs.length cap] w fun e w' => ∃ v, e = .returned (.tuple #[v, .int .i64 0]) ∧ OwnI .i64 2 w' w.heap.size v (appR xs) ∧ Below w.heap.size w w' := by
  have HF := hide hf
  obtain ⟨h0, h1, h, s0⟩ := hf
  have CB := fun w hr => bounded_any xs ad cap w hr hx (by omega) true (by
    have B := badB_iff xs
    cases hb : badB xs with
    | false => rfl
    | true =>
      exfalso
      rcases B.1 hb with q | q | q
      · omega
      · omega
      · exact q h)
  have CS := fun w hr => tsum_any xs ad cap w hr hx (by omega)
  have s1 := (sumH_in xs).2
  have HR := hide hr
  have HX := hide hx
  have HH := hide h
  clear hr hx h
  obtain ⟨n, hn⟩ : ∃ n, xs.length = n := ⟨_, rfl⟩
  have HN := hide hn
  rw [hn] at h0 h1 CS CB ⊢
  obtain ⟨s, hs⟩ : ∃ s, sumH xs = s := ⟨_, rfl⟩
  have HS := hide hs
  rw [hs] at s0 s1 CS
  have ub : s ≤ 1152921504606846976 := by
    obtain ⟨a, _, b⟩ := sumH_small xs HH.out (by omega)
    rw [← hs, a]
    rw [hn] at b
    omega
  clear hn hs
  obtain ⟨zs, MK, MO, _⟩ := make64 n (by omega)
  have HMO := hide MO
  clear MO
  go_enter Tryz.func117, Tryz.ntmps117
  go_upto_region 6 with (first
    | (go_at_call 133; (with_reducible refine (CB _ HR.out).mono ?_); rintro e w1 ⟨rfl, rfl⟩)
    | (go_at_call 134; (with_reducible refine (CS _ HR.out).mono ?_); rintro e w1 ⟨rfl, rfl⟩))
  clear CS CB
  go_cut [5, 6] (fun u v wx => ∃ g1 g2, u = .slice (some ⟨g1, 0, none⟩) n n ∧ v = .slice (some ⟨g2, 0, none⟩) n n ∧ g1 ≠ g2 ∧ w.heap.size ≤ g1 ∧ w.heap.size ≤ g2 ∧ OwnI .i64 2 wx w.heap.size (.slice (some ⟨g1, 0, none⟩) n n) (List.replicate n 0) ∧ OwnI .i64 2 wx w.heap.size (.slice (some ⟨g2, 0, none⟩) n n) (List.replicate n 0) ∧ Below w.heap.size w wx)
  case first =>
    have O1 := (HMO.out w w.heap.size (Nat.le_refl _)).alloc (.cells zs 2)
    have O2 := HMO.out (w.alloc (.cells zs 2)) w.heap.size (by simp)
    rw [show (w.alloc (.cells zs 2)).heap.size = w.heap.size + 1 by simp] at O2
    have B2 := bd (ba (ba (Below.refl w.heap.size w) (.cells zs 2)) (.cells zs 2))
    have H4 := hide (And.intro O1 (And.intro O2 B2))
    clear O1 O2 B2
    go_region
    all_goals (go_wp2_with fail; go_meet)
    · exact ⟨_, _, rfl, rfl, Nat.ne_of_lt (Nat.lt_succ_self _), Nat.le_refl _, Nat.le_succ _, H4.out.1, H4.out.2.1, H4.out.2.2⟩
    · exact ⟨_, _, rfl, rfl, Nat.ne_of_gt (Nat.lt_succ_self _), Nat.le_succ _, Nat.le_refl _, H4.out.2.1, H4.out.1, H4.out.2.2⟩
  case rest =>
    obtain ⟨g1, g2, rfl, rfl, hne, gb1, gb2, ho, hq, hb⟩ := hcut
    clear MK HMO
    rw [← fillZ_zero (quotW s) xs n] at ho
    rw [← fillZ_zero (restW s) xs n] at hq
    go_wp2
    go_loopw [7, 28] (fun t i wr => ∃ k : Nat, k ≤ n ∧ i = .int .i64 (k : Int) ∧ t = .int .i64 (16384 - (quotsW s (xs.take k)).sum) ∧ OwnI .i64 2 wr w.heap.size (.slice (some ⟨g1, 0, none⟩) n n) (fillZ (quotW s) xs n k) ∧ OwnI .i64 2 wr w.heap.size (.slice (some ⟨g2, 0, none⟩) n n) (fillZ (restW s) xs n k) ∧ Below w.heap.size w wr) (fun _ i _ => n - (intOf i).toNat)
    case atStart => exact ⟨0, by omega, rfl, rfl, ho, hq, hb⟩
    case round =>
      clear ho hq hb
      obtain ⟨k, hk, rfl, rfl, ho, hq, hb⟩ := hrel
      have HO := hide ho
      have HQ := hide hq
      have HB := hide hb
      clear ho hq hb
      have HL1 := hide (fillZ_len (F := quotW s) (j := k) HN.out)
      have HL2 := hide (fillZ_len (F := restW s) (j := k) HN.out)
      by_cases hlt : k < n
      · obtain ⟨b, off, rfl, hc⟩ := (HR.out.below HB.out).get (show k < xs.length by rw [HN.out]; exact hlt)
        have hsm := mem_getD HH.out (show k < xs.length by rw [HN.out]; exact hlt)
        obtain ⟨q0, q1, r0, r1⟩ := quotW_small s0 hsm
        have CF := fun w => fixfloor_any (xs.getD k 0 * 16384) s (by unfold smallW at hsm; omega) (by unfold smallW at hsm; omega) (by omega) (by omega) w
        have CM := fun w => fixmod_any (xs.getD k 0 * 16384) s (by unfold smallW at hsm; omega) (by unfold smallW at hsm; omega) (by omega) (by omega) w
        rw [show floorF (xs.getD k 0 * 16384) s = quotW s (xs.getD k 0) from rfl] at CF
        rw [modF_rest (by omega) hsm] at CM
        have HT := hide (take_step xs (show k < xs.length by rw [HN.out]; exact hlt))
        have sq := quots_in s0 (xs.take k) (fun x hx => HH.out x (List.mem_of_mem_take hx))
        have tl : (xs.take k).length = k := by rw [List.length_take]; have := HN.out; omega
        rw [tl] at sq
        obtain ⟨sq0, sq1⟩ := sq
        clear tl
        have HZ1 := hide (fillZ_set (F := quotW s) HN.out hlt)
        have HZ2 := hide (fillZ_set (F := restW s) HN.out hlt)
        have OO := HO.out
        have QQ := HQ.out
        have c1 := OO.cellAt HL1.out hlt
        have z1 := OO.frozenAt HL1.out k
        have QS := OwnI.other (u := .int .i64 (quotW s (xs.getD k 0))) QQ g1 k hne
        have c2 := QS.cellAt HL2.out hlt
        have z2 := QS.frozenAt HL2.out k
        have OS := OwnI.other (u := .int .i64 (restW s (xs.getD k 0))) (OO.stored HL1.out k (quotW s (xs.getD k 0))) g2 k hne.symm
        have c3 := OS.cellAt (by rw [List.length_set]; exact HL1.out) hlt
        rw [getD_set _ _ _ _ (by rw [HL1.out]; exact hlt), if_pos rfl] at c3
        have QS2 := QS.stored HL2.out k (restW s (xs.getD k 0))
        rw [HZ1.out] at OS
        rw [HZ2.out] at QS2
        have H5 := hide (And.intro OS (And.intro QS2 (bs (bs HB.out gb1 (b := g1) (o := k) (.int .i64 (quotW s (xs.getD k 0)))) gb2 (b := g2) (o := k) (.int .i64 (restW s (xs.getD k 0))))))
        clear OO QQ QS OS QS2 HO HQ HZ1 HZ2
        unfold smallW at hsm
        obtain ⟨x0, x1⟩ := hsm
        generalize xs.getD k 0 = x at *
        generalize hqe : quotW s x = q at *
        generalize restW s x = r at *
        generalize hse : (quotsW s (xs.take k)).sum = S at *
        have HQE := hide hqe
        have HSE := hide hse
        clear hqe hse
        go_wp2_with (first
          | (go_at_call 135; (with_reducible refine (CF _).mono ?_); rintro e w2 ⟨rfl, rfl⟩)
          | (go_at_call 129; (with_reducible refine (CM _).mono ?_); rintro e w2 ⟨rfl, rfl⟩))
        go_roundw
        case rel =>
          obtain ⟨O4, Q4, B4⟩ := H5.out
          refine ⟨k + 1, by omega, by go_num, ?_, O4, Q4, B4⟩
          rw [HT.out, quotsW_snoc, HQE.out, List.sum_append, HSE.out, List.sum_singleton, show 16384 - (S + q) = 16384 - S - q by omega]
        case measure => simp [intOf]; omega
      · obtain rfl : k = n := by omega
        have HO0 := HO.out
        have HQ0 := HQ.out
        rw [fillZ_all HN.out, show xs.map (quotW s) = quotsW s xs from rfl] at HO0
        rw [fillZ_all HN.out, show xs.map (restW s) = restsW s xs from rfl] at HQ0
        rw [show xs.take k = xs from List.take_of_length_le (by rw [HN.out]; exact Nat.le_refl _)]
        obtain ⟨ST, L0, LL⟩ := fits_setting HF.out
        rw [HS.out] at ST L0 LL
        rw [HN.out] at ST LL
        have EX : appR xs = (giveN (quotsW s xs) (restsW s xs) (leftW s xs).toNat).1 := by unfold appR; rw [HS.out]
        obtain ⟨lf, hlf⟩ : ∃ lf : Nat, leftW s xs = (lf : Int) := ⟨(leftW s xs).toNat, by omega⟩
        rw [show (leftW s xs).toNat = lf by omega] at ST EX
        have lk : lf < k := by omega
        rw [show (16384 - (quotsW s xs).sum : Int) = (lf : Int) from hlf]
        have QI : ∀ b, b < k → -67108864 ≤ (quotsW s xs).getD b 0 ∧ (quotsW s xs).getD b 0 ≤ 67108864 := by
          intro b hb
          unfold quotsW
          rw [getD_map _ _ (by rw [HN.out]; exact hb)]
          have := quotW_small s0 (mem_getD HH.out (show b < xs.length by rw [HN.out]; exact hb))
          exact ⟨this.1, this.2.1⟩
        have CBR := fun wq hr => byrest_any (restsW s xs) k (some ⟨g2, 0, none⟩) k wq ST.rl h0 h1 hr
        have HRR := hide (show RowAt .i64 wr (some ⟨g2, 0, none⟩) (restsW s xs) from Or.inr ⟨g2, 0, rfl, fun j hj => by
          rw [ST.rl] at hj
          rw [Nat.zero_add]; exact HQ0.cellAt ST.rl hj⟩)
        have HST := hide ST
        have HEX := hide EX
        have HQI := hide QI
        have glt := HO0.lt g1 rfl
        have HO1 := hide HO0
        generalize quotsW s xs = Q0 at *
        generalize restsW s xs = R0 at *
        clear HO0 HQ0 ST EX QI L0 LL hlf hk hlt HO HQ HL1 HL2
        go_wp2_with (go_at_call 136; (with_reducible refine (CBR _ HRR.out).mono ?_); rintro e w4 ⟨g, p, rfl, hrk, hrow, hg, b4⟩)
        have HRK := hide hrk
        have HBW := hide (bt HB.out b4)
        have HO2 := hide (HO1.out.below b4)
        have HROW := hide hrow
        have hgne : g1 ≠ g := by omega
        have pl : p.length = k := by rw [hrk.len, HST.out.rl]
        have HPL := hide pl
        clear hrk hrow hg b4 HO1 HB HRR CBR pl glt
        go_loopg [59] lf (fun r i wq => ∃ m : Nat, m + r = lf ∧ i = .int .i64 (m : Int) ∧ OwnI .i64 2 wq w.heap.size (.slice (some ⟨g1, 0, none⟩) k k) (bumpN Q0 p m) ∧ RowAt .i64 wq (some ⟨g, 0, none⟩) (p.map fun k : Nat => (k : Int)) ∧ Below w.heap.size w wq)
        case atStart => exact ⟨0, by omega, by simp, HO2.out, HROW.out, HBW.out⟩
        case round =>
          clear HO2 HROW HBW
          obtain ⟨m, hm, rfl, ho, hrw, hb⟩ := hrel
          obtain ⟨W, hW⟩ : ∃ W, W = wr := ⟨_, rfl⟩
          subst hW
          have HM := hide hm
          have HO := hide ho
          have HRW := hide hrw
          have HB := hide hb
          have mle : m ≤ lf := by omega
          have HL := hide ((bumpN_len Q0 p m).trans HST.out.ql)
          clear hm ho hrw hb
          by_cases hlt : m < lf
          · have pm : p.getD m 0 < k := by
              have := HRK.out.lt m (by rw [HPL.out]; omega)
              rw [HST.out.rl] at this
              exact this
            have cp := HRW.out.at (show m < (p.map fun k : Nat => (k : Int)).length by rw [List.length_map, HPL.out]; omega)
            rw [Nat.zero_add] at cp
            rw [show (p.map fun k : Nat => (k : Int)).getD m 0 = ((p.getD m 0 : Nat) : Int) by
              rw [List.getD_eq_getElem?_getD, List.getD_eq_getElem?_getD, List.getElem?_map, List.getElem?_eq_getElem (by rw [HPL.out]; omega)]; rfl] at cp
            have ob : -67108864 ≤ (bumpN Q0 p m).getD (p.getD m 0) 0 ∧ (bumpN Q0 p m).getD (p.getD m 0) 0 ≤ 67108865 := by
              have e := (bumpN_give HRK.out (fun j hj => ((HST.out.rin j (by rw [HST.out.rl] at hj; exact hj))).1) (HST.out.ql.trans HST.out.rl.symm) m (by rw [HST.out.rl]; omega)).1
              rw [e]
              have q := HQI.out _ pm
              rcases (give_inv HST.out m (by omega)).each _ pm with e | e
              · have := e.2; omega
              · have := e.2.1; omega
            obtain ⟨ob0, ob1⟩ := ob
            have c1 := HO.out.cellAt HL.out pm
            have z1 := HO.out.frozenAt HL.out (p.getD m 0)
            have HS2 := hide (show bumpN Q0 p (m + 1) = (bumpN Q0 p m).set (p.getD m 0) ((bumpN Q0 p m).getD (p.getD m 0) 0 + 1) from rfl)
            have H7 := hide (And.intro (HO.out.stored HL.out (p.getD m 0) ((bumpN Q0 p m).getD (p.getD m 0) 0 + 1)) (And.intro (HRW.out.apart hgne (p.getD m 0) (.int .i64 ((bumpN Q0 p m).getD (p.getD m 0) 0 + 1))) (bs HB.out gb1 (b := g1) (o := p.getD m 0) (.int .i64 ((bumpN Q0 p m).getD (p.getD m 0) 0 + 1)))))
            clear HO HRW HB
            generalize (bumpN Q0 p m).getD (p.getD m 0) 0 = a at *
            generalize p.getD m 0 = P at *
            go_wp2
            go_roundg (gk - 1)
            case measure => have := HM.out; omega
            case rel => exact ⟨m + 1, by have := HM.out; omega, by go_num, by rw [HS2.out]; exact H7.out.1, H7.out.2.1, H7.out.2.2⟩
          · obtain rfl : m = lf := by have := HM.out; omega
            have e := (bumpN_give HRK.out (fun j hj => ((HST.out.rin j (by rw [HST.out.rl] at hj; exact hj))).1) (HST.out.ql.trans HST.out.rl.symm) m (by rw [HST.out.rl]; omega)).1
            have O5 := hide (show OwnI .i64 2 W w.heap.size (.slice (some ⟨g1, 0, none⟩) k k) (appR xs) by rw [HEX.out, ← e]; exact HO.out)
            clear HO e
            go_wp2
            exact bodyPost_ret (v := .tuple #[.slice (some ⟨g1, 0, none⟩) k k, .int .i64 0]) (by simp [results, Tryz.results117, go_sem]) rfl ⟨_, rfl, O5.out, HB.out⟩
end Go.Proofs.YtaafhjngnjjcmaaGreatDoor

/- What a store in one block leaves alone; pieces of rows. No number of the program stands in it. -/
namespace Go.Proofs.YtaafhjngnjjcmaaGreatDoor
open Go.RowKit


/-- Nothing that there was is turned, but the block b. -/
theorem grown_set (w : World) (b o : Nat) (u : Value) : w.grownBy (w.setCell ⟨b, o, none⟩ u) (some b) :=
  ⟨rfl, rfl, rfl, by simp [World.setCell], fun k hk hne => Below.heap_setCell _ _ _ _ (fun e => hne (by rw [e]))⟩
theorem grown_drewN (w : World) (n : Nat) (row : Option Nat) : w.grownBy (w.drewN n) row := ⟨rfl, rfl, rfl, Nat.le_refl _, fun _ _ _ => rfl⟩
theorem grown_drew (w : World) (row : Option Nat) : w.grownBy w.drew row := ⟨rfl, rfl, rfl, Nat.le_refl _, fun _ _ _ => rfl⟩
theorem grown_below {w w' : World} (h : Below w.heap.size w w') (row : Option Nat) : w.grownBy w' row := ⟨h.os, h.tape, h.output, h.size, fun k hk _ => h.block k hk⟩
theorem below_grown {w w' : World} (h : w.grownBy w' none) : Below w.heap.size w w' := ⟨h.os, h.tape, h.output, h.size, fun k hk => h.block k hk (by simp)⟩
/-- A cell of another block. -/
theorem cg {w w' : World} {row : Option Nat} {b o : Nat} {v : Value} (hg : w.grownBy w' row) (hne : some b ≠ row) (hc : w.cell? ⟨b, o, none⟩ = some v) : w'.cell? ⟨b, o, none⟩ = some v := hg.cell hc hne
theorem fg {w w' : World} {row : Option Nat} {b o : Nat} {v : Value} (hg : w.grownBy w' row) (hne : some b ≠ row) (hc : w.cell? ⟨b, o, none⟩ = some v) (hf : w.frozen? ⟨b, o, none⟩ = false) : w'.frozen? ⟨b, o, none⟩ = false :=
  (hg.frozen_far ⟨b, o, none⟩ (cell_ltL hc) hne).trans hf
theorem RowAt.grown {k : IntKind} {w w' : World} {b off : Nat} {xs : List Int} {row : Option Nat} (h : RowAt k w (some ⟨b, off, none⟩) xs) (hg : w.grownBy w' row) (hne : some b ≠ row) : RowAt k w' (some ⟨b, off, none⟩) xs := by
  by_cases e : xs = []
  · exact Or.inl e
  · exact Or.inr ⟨b, off, rfl, fun j hj => cg hg hne (h.at hj)⟩
/-- A piece of a row. -/
theorem RowAt.part {k : IntKind} {w : World} {b off : Nat} {xs : List Int} (h : RowAt k w (some ⟨b, off, none⟩) xs) (i n : Nat) (hn : i + n ≤ xs.length) : RowAt k w (some ⟨b, off + i, none⟩) ((xs.drop i).take n) := by
  refine Or.inr ⟨b, off + i, rfl, fun j hj => ?_⟩
  have hj' : j < n := by rw [List.length_take] at hj; omega
  have := h.at (j := i + j) (by omega)
  rw [← Nat.add_assoc] at this
  rw [this, List.getD_eq_getElem?_getD, List.getD_eq_getElem?_getD, List.getElem?_take, if_pos hj', List.getElem?_drop]
/-- One number of it is written over. -/
theorem RowAt.put {k : IntKind} {w : World} {b off : Nat} {xs : List Int} (h : RowAt k w (some ⟨b, off, none⟩) xs) (j : Nat) (hj : j < xs.length) (x : Int) : RowAt k (w.setCell ⟨b, off + j, none⟩ (.int k x)) (some ⟨b, off, none⟩) (xs.set j x) := by
  refine Or.inr ⟨b, off, rfl, fun i hi => ?_⟩
  rw [List.length_set] at hi
  by_cases e : i = j
  · subst e
    rw [World.cell?_setCell_same' _ _ _ (by rw [h.at hi]; rfl), List.getD_eq_getElem?_getD, List.getElem?_set_self hi]
    rfl
  · rw [World.cell?_setCell_other _ _ _ _ (by intro e'; simp only [Addr.mk.injEq, and_true] at e'; omega), h.at hi, List.getD_eq_getElem?_getD, List.getD_eq_getElem?_getD, List.getElem?_set_ne (fun g => e g.symm)]
theorem own_row {k : IntKind} {T : TypeId} {w : World} {base n : Nat} {v : Value} {xs : List Int} (h : OwnI k T w base v xs) (hn : xs.length = n) (h0 : 1 ≤ n) :
    ∃ b cap, v = .slice (some ⟨b, 0, none⟩) n cap ∧ base ≤ b ∧ b < w.heap.size ∧ RowAt k w (some ⟨b, 0, none⟩) xs ∧ n ≤ cap ∧ ∀ j, w.frozen? ⟨b, j, none⟩ = false := by
  have h' := h
  subst hn
  obtain ⟨ad, cap, rfl, hr, hz, hs, hc⟩ := h.form
  rcases ad with _ | a
  · have := (hz rfl).1
    rw [this] at h0
    exact absurd h0 (by decide)
  · obtain ⟨g, rfl, hb, hl⟩ := hs a rfl
    exact ⟨g, cap, rfl, hb, hl, hr, hc, fun j => OwnI.frozenAt h' rfl j⟩
/-- The world but for how much of the tape is drawn. -/
def Drew (w w' : World) : Prop := ∃ m, w' = w.drewN m
theorem Drew.refl (w : World) : Drew w w := ⟨0, rfl⟩
theorem Drew.more {w w' : World} (h : Drew w w') (n : Nat) : Drew w (w'.drewN n) := by
  obtain ⟨m, rfl⟩ := h
  exact ⟨m + n, World.drewN_drewN _ _ _⟩
theorem Drew.below {w w' : World} (h : Drew w w') : Below w.heap.size w w' := by
  obtain ⟨m, rfl⟩ := h
  exact bdN (Below.refl _ _) m
theorem Drew.grown {w w' : World} (h : Drew w w') (row : Option Nat) : w.grownBy w' row := grown_below h.below row
/-- A callee that only draws, in a region that draws and only reads. -/
theorem calmD {P : Program} {f : FuncId} {args : Array Value} {u : Value} {w : World} {n : Nat} (h : Calls P f args (w.drewN n) fun e w' => e = .returned u ∧ Drew (w.drewN n) w') :
    Calls P f args (w.drewN n) fun e w'' => e = .returned u ∧ ∃ m, w'' = w.drewN m := Calls.quiet_of h
end Go.Proofs.YtaafhjngnjjcmaaGreatDoor
