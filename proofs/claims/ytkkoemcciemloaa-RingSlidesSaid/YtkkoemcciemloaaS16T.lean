/- The document's Put. -/
import Derived.Test.YtkkoemcciemloaaS16S
namespace Go.Proofs.Ytkkoemcciemloaa
open Go.RowKit


set_option maxHeartbeats 8000000 in
theorem dput16_any {room width : Nat} {L : List (Int × List Int)} {v : Value} {B : Nat → Prop} {j : Int} {xs : List Int} {ln lcap : Nat} {lad : Option Addr} (h1 : 1 ≤ room) (h2 : room ≤ 65536) (hw : width ≤ 262144) (hl : L.length ≤ room) (hx : xs.length = ln) (hln : ln ≤ 9223372036854775807) (hz : lad = none → lcap = 0) (w : World) (hr : RowAt .i64 w lad xs) (hD : DocAt w B v L) (hB : ∀ g, w.heap.size ≤ g → B g) :
    Calls Try.prog 19 #[.agg #[.int .i64 (room : Int), .int .i64 (width : Int), v], .int .i64 j, .slice lad ln lcap] w fun e w' => ∃ v', e = .returned (.tuple #[.agg #[.int .i64 (room : Int), .int .i64 (width : Int), v'], .bool (putB room width L j ln)]) ∧ DocAt w' B v' (if putB room width L j ln = true then putR room L (j, xs) else L) ∧ Below w.heap.size w w' := by
  obtain ⟨ad, cap, rfl, hrd⟩ := hD.1.form
  obtain ⟨n, hn⟩ : ∃ n, L.length = n := ⟨_, rfl⟩
  rw [hn] at hD hl
  have HRD := hide hrd
  have HD := hide hD
  have HR := hide hr
  have HX := hide hx
  have HZ := hide hz
  have HN := hide hn
  have HBB := hide hB
  have HL1 := hide h1
  have hnl : n ≤ 65536 := by omega
  obtain ⟨P, hP⟩ : ∃ P, putB room width L j ln = P := ⟨_, rfl⟩
  rw [hP]
  have CF := fun (W : World) (hW : Below w.heap.size w W) => dfind16_any (p := (room : Int)) (q := (width : Int)) (j := j) (cap := cap) (ad := ad) hn (by omega) W (hrd.below hW)
  unfold putB at hP
  rw [hn] at hP ⊢
  clear hrd hD hr hx hz hB
  by_cases hnw : ln = width
  · subst hnw
    have qn : ((ln : Int) != (ln : Int)) = false := by simp
    rw [decide_eq_true rfl] at hP
    cases hj : hasJ L j
    · rw [hj] at hP CF
      by_cases hlow : n = room ∧ j < firstJ L
      · obtain ⟨e1, e2⟩ := hlow
        obtain rfl : P = false := by
          rw [← hP, decide_eq_true e1, decide_eq_true e2]; rfl
        rw [if_neg (by decide)]
        subst e1
        have hne : 0 < L.length := by omega
        have hf : (lnAt L 0).1 = firstJ L := by
          cases L with
          | nil => simp at hne
          | cons y r => rfl
        obtain ⟨g, cap', u, he, c0, _⟩ := HD.out.1.get (k := 0) hne
        simp only [Value.slice.injEq] at he
        obtain ⟨rfl, hq, rfl⟩ := he
        clear hq
        rw [hf, Nat.zero_mul] at c0
        have HC0 := hide c0
        generalize firstJ L = f at *
        have hn0 : 0 < n := by omega
        clear hP hn hf c0 hne
        go_enter Try.func19, Try.ntmps19
        go_wp2_with (go_at_call 22; ((with_reducible refine (CF _ (ba (below1 _ _) _)).mono ?_); rintro e w1 ⟨i, rfl, hi, b1⟩; have hi0 : i < 0 := (by rcases Int.lt_or_le i 0 with q | q; exact q; exact absurd (hi.1 q) (by decide)); have HB1 := hide (bt (ba (below1 _ _) _) b1); have HCC := hide (cel_two b1); obtain ⟨⟨x0, x1, x2, x3, x4, x5⟩, ⟨y0, y1, y2, y3, y4, y5⟩⟩ := cel_two b1; clear hi b1; have c0 := cb HB1.out (cell_ltL HC0.out) HC0.out))
        exact bodyPost_ret (by simp [results, Try.results19, go_sem, y0, y1, y2]) rfl ⟨_, rfl, HD.out.below (bs (bs (bs HB1.out (by simp) _) (by simp) _) (by simp) _), bs (bs (bs HB1.out (by simp) _) (by simp) _) (by simp) _⟩
      · obtain rfl : P = true := by
          rw [← hP]
          by_cases e1 : n = room
          · rw [decide_eq_false (show ¬ j < firstJ L from fun e => hlow ⟨e1, e⟩)]; simp
          · rw [decide_eq_false e1]; simp
        rw [if_pos rfl]
        have HPN : ∀ K : List (Int × List Int), PutI room L (j, xs) n true K → K = putR room L (j, xs) := fun K h => puti_end1 h1 (by rw [hn]; exact h)
        have HPE : ∀ K : List (Int × List Int), PutI room L (j, xs) n false K → K ++ [(j, xs)] = putR room L (j, xs) := fun K h => puti_end0 h1 (by rw [hn]; exact h)
        obtain ⟨R, hR⟩ : ∃ R, putR room L (j, xs) = R := ⟨_, rfl⟩
        rw [hR]
        simp only [hR] at HPN HPE
        have HPN := hide HPN
        have HPE := hide HPE
        clear hR
        by_cases hful : n = room
        · subst hful
          have hne : 0 < L.length := by omega
          have hf : (lnAt L 0).1 = firstJ L := by
            cases L with
            | nil => simp at hne
            | cons y r => rfl
          obtain ⟨g0, cap', u, he, c0, _⟩ := HD.out.1.get (k := 0) hne
          simp only [Value.slice.injEq] at he
          obtain ⟨rfl, hq, rfl⟩ := he
          clear hq
          rw [hf, Nat.zero_mul] at c0
          have HC0 := hide c0
          have qlow : decide (j < firstJ L) = false := decide_eq_false (fun e => hlow ⟨rfl, e⟩)
          generalize firstJ L = f at *
          have hjf : ¬ j < f := of_decide_eq_false qlow
          have hn0 : 0 < n := by omega
          clear hP hn hf c0 hne hlow qlow
          go_enter Try.func19, Try.ntmps19
          go_wp2_with (go_at_call 22; ((with_reducible refine (CF _ (ba (below1 _ _) _)).mono ?_); rintro e w1 ⟨i, rfl, hi, b1⟩; have hi0 : i < 0 := (by rcases Int.lt_or_le i 0 with q | q; exact q; exact absurd (hi.1 q) (by decide)); have HB1 := hide (bt (ba (below1 _ _) _) b1); have HCC := hide (cel_two b1); obtain ⟨⟨x0, x1, x2, x3, x4, x5⟩, ⟨y0, y1, y2, y3, y4, y5⟩⟩ := cel_two b1; clear hi b1; have c0 := cb HB1.out (cell_ltL HC0.out) HC0.out))
          clear c0
          go_loopw [8, 9, 43] (fun v8 v9 v43 wr => ∃ (k : Nat) (K : List (Int × List Int)) (dn : Bool) (vo : Value), k ≤ n ∧ v43 = .int .i64 (k : Int) ∧ v9 = .bool dn ∧ v8 = vo ∧ K.length ≤ 2 * k ∧ PutI n L (j, xs) k dn K ∧ PutS w (.int .i64 (n : Int)) (.int .i64 (ln : Int)) (.slice (some ⟨g0, 0, none⟩) n cap) (fun g => B g ∧ g ≠ w.heap.size ∧ g ≠ w.heap.size + 1) wr vo K) (fun _ _ v43 _ => n - (intOf v43).toNat)
          case atStart => exact ⟨0, [], false, _, by omega, rfl, rfl, rfl, by simp, puti_start _ _ _, ⟨DocB.nil _ _ _, HCC.out.1, HCC.out.2, HB1.out⟩⟩
          case round =>
            obtain ⟨k, K, dn, vo, hk, rfl, rfl, rfl, hKl, hI, hS⟩ := hrel
            clear x0 x1 x2 x3 x4 x5 y0 y1 y2 y3 y4 y5
            obtain ⟨x0, x1, x2, x3, x4, x5⟩ := hS.box
            obtain ⟨y0, y1, y2, y3, y4, y5⟩ := hS.res
            have HI := hide hI
            have HS := hide hS
            have HKL := hide hKl
            have hsz : w.heap.size + 2 ≤ wr.heap.size := by have := cell_ltL y0; omega
            have HNEW := hide (fun g (hg : wr.heap.size ≤ g) => (⟨HBB.out g (by omega), by omega, by omega⟩ : B g ∧ g ≠ w.heap.size ∧ g ≠ w.heap.size + 1))
            clear hI hS hKl
            by_cases hlt : k < n
            · obtain ⟨z, ys, hzy⟩ : ∃ z ys, lnAt L k = (z, ys) := ⟨_, _, rfl⟩
              obtain ⟨g, cap', u, he, c0, c1, ou, uB⟩ := HD.out.1.get (k := k) (by rw [HN.out]; exact hlt)
              rw [hzy] at c0 ou
              simp only [Value.slice.injEq, Option.some.injEq, Addr.mk.injEq, and_true] at he
              obtain ⟨rfl, hq, rfl⟩ := he
              clear hq
              obtain ⟨ad2, cap2, rfl, _⟩ := ou.form
              have HOU := hide (ou.below HS.out.bel)
              have HUB := hide (fun g hg => (⟨uB g hg, by have := OwnI.lt ou g hg; omega, by have := OwnI.lt ou g hg; omega⟩ : B g ∧ g ≠ w.heap.size ∧ g ≠ w.heap.size + 1))
              have d0 := cb HS.out.bel (cell_ltL c0) c0
              have d1 := cb HS.out.bel (cell_ltL c1) c1
              have HZY := hide hzy
              have STP := fun (hn' : ¬ (L.length = n ∧ k = 0)) => hide hn'
              generalize hm : (z, ys).2.length = m at *
              have HM := hide hm
              clear c0 c1 ou uB hzy hm
              obtain ⟨q0, q1, q2, _, _, _⟩ := HS.out.box.alloc (.cells #[.int .i64 z, .slice ad2 m cap2] 61)
              by_cases hk0 : k = 0
              · subst hk0
                go_wp2
                go_roundw
                case rel => exact ⟨1, K, dn, _, by omega, rfl, rfl, rfl, by have := HKL.out; omega, puti_skip HI.out (by rw [HN.out]), HS.out.below (below1 _ _)⟩
                case measure => simp [intOf]; omega
              · have qk : ((k : Int) == 0) = false := by rw [beq_eq_false_iff_ne]; omega
                have HNF := STP (fun e => hk0 e.2)
                clear STP
                cases dn
                · by_cases hjz : j < z
                  · have qjz : decide (j < z) = true := decide_eq_true hjz
                    have PI := hide (puti_ins HI.out (by rw [HN.out]; exact hlt) HNF.out (by rw [HZY.out]; exact hjz))
                    have XV := hide (fun (W : World) (hb : Below (wr.alloc (.cells #[.int .i64 z, .slice ad2 m cap2] 61)).heap.size (wr.alloc (.cells #[.int .i64 z, .slice ad2 m cap2] 61)) W) => (⟨cb hb (by simp) (by simp), cb hb (by simp) (by simp)⟩ : W.cell? ⟨wr.heap.size, 0, none⟩ = some (.int .i64 z) ∧ W.cell? ⟨wr.heap.size, 1, none⟩ = some (.slice ad2 m cap2)))
                    go_wp2_with (first
                      | (at_builtin; refine lit_append (xs := xs) (s := .tmp 68) (e := .tmp 69) (H := wr.heap.size + 1) ?_ ?_ ?_ ?_ ?_ HX.out (by omega) HZ.out ?_ ?_; rfl; rfl; simp; rfl; rfl; exact HR.out.below (ba HS.out.bel _); intro ad3 cap3 w2 own2 bb2; have HO2 := hide own2; have HXV := hide (XV.out w2 bb2); have HB2 := hide (bt (below1 wr _) bb2); clear own2 bb2)
                      | (at_builtin; refine puts_append (i := j) (xs := xs) (s := .tmp 66) (e := .tmp 72) (H := w2.heap.size) (HS.out.below HB2.out) ?_ ?_ ?_ ?_ ?_ (HO2.out.mono (Nat.zero_le _)) (fun g hg => HNEW.out g (by have := ownI_from HO2.out g hg; simp at this; omega)) (by have := HKL.out; omega) ?_; rfl; rfl; rfl; rfl; rfl; intro v3 w3 S3 g3; have HS3 := hide S3; have HG3 := hide g3; have XN := vo_ne HS.out.rows; have z0 := cg g3 XN HXV.out.1; have z1 := cg g3 XN HXV.out.2; have HO3 := hide (OwnI.kept HOU.out (grown_trans2 HB2.out g3) (fun g hg e => vo_apart HS.out.rows HOU.out g hg e)); clear S3 g3)
                      | (at_builtin; refine puts_append (i := z) (xs := ys) (s := .tmp 74) (e := .tmp 76) (H := w3.heap.size) HS3.out ?_ ?_ ?_ ?_ ?_ HO3.out HUB.out (by simp; have := HKL.out; omega) ?_; rfl; rfl; rfl; rfl; rfl; intro v4 w4 S4 g4; have HS4 := hide S4; clear S4 g4))
                    go_roundw
                    case rel => exact ⟨k + 1, _, _, _, by omega, by go_num, rfl, rfl, by simp; have := HKL.out; omega, by rw [HZY.out] at PI; exact PI.out, HS4.out⟩
                    case measure => simp [intOf]; omega
                  · have qjz : decide (j < z) = false := decide_eq_false hjz
                    have PO := hide (puti_old HI.out (by rw [HN.out]; exact hlt) HNF.out (by rw [HZY.out]; exact hjz))
                    go_wp2_with (at_builtin; refine puts_append (i := z) (xs := ys) (s := .tmp 74) (e := .tmp 76) (H := wr.heap.size + 1) (HS.out.below (below1 _ _)) ?_ ?_ ?_ ?_ ?_ (HOU.out.alloc _) HUB.out (by have := HKL.out; omega) ?_; rfl; rfl; rfl; simp; rfl; intro v3 w3 S3 g3; have HS3 := hide S3; clear S3 g3)
                    go_roundw
                    case rel => exact ⟨k + 1, _, _, _, by omega, by go_num, rfl, rfl, by simp; have := HKL.out; omega, by rw [HZY.out] at PO; exact PO.out, HS3.out⟩
                    case measure => simp [intOf]; omega
                · have PD := hide (puti_done HI.out (by rw [HN.out]; exact hlt) HNF.out)
                  go_wp2_with (at_builtin; refine puts_append (i := z) (xs := ys) (s := .tmp 74) (e := .tmp 76) (H := wr.heap.size + 1) (HS.out.below (below1 _ _)) ?_ ?_ ?_ ?_ ?_ (HOU.out.alloc _) HUB.out (by have := HKL.out; omega) ?_; rfl; rfl; rfl; simp; rfl; intro v3 w3 S3 g3; have HS3 := hide S3; clear S3 g3)
                  go_roundw
                  case rel => exact ⟨k + 1, _, _, _, by omega, by go_num, rfl, rfl, by simp; have := HKL.out; omega, by rw [HZY.out] at PD; exact PD.out, HS3.out⟩
                  case measure => simp [intOf]; omega
            · obtain rfl : k = n := by omega
              cases dn
              · have QE := hide (HPE.out K HI.out)
                go_wp2_with (first
                  | (at_builtin; refine lit_append (xs := xs) (s := .tmp 83) (e := .tmp 84) (H := wr.heap.size) ?_ ?_ ?_ ?_ ?_ HX.out (by omega) HZ.out ?_ ?_; rfl; rfl; rfl; rfl; rfl; exact HR.out.below HS.out.bel; intro ad3 cap3 w2 own2 bb2; have HO2 := hide own2; have HB2 := hide bb2; clear own2 bb2)
                  | (at_builtin; refine puts_append (i := j) (xs := xs) (s := .tmp 81) (e := .tmp 87) (H := w2.heap.size) (HS.out.below HB2.out) ?_ ?_ ?_ ?_ ?_ (HO2.out.mono (Nat.zero_le _)) (fun g hg => HNEW.out g (by have := ownI_from HO2.out g hg; omega)) (by have := HKL.out; omega) ?_; rfl; rfl; rfl; rfl; rfl; intro v3 w3 S3 g3; have HS3 := hide S3; obtain ⟨⟨p0, p1, p2, p3, p4, p5⟩, ⟨r0, r1, r2, r3, r4, r5⟩⟩ := (⟨S3.box, S3.res⟩ : Cel3 w3 w.heap.size (.int .i64 (k : Int)) (.int .i64 (ln : Int)) (.slice (some ⟨g0, 0, none⟩) k cap) ∧ Cel3 w3 (w.heap.size + 1) (.int .i64 0) (.int .i64 0) (.slice none 0 0)); obtain ⟨ad4, cap4, hv3, _⟩ := S3.rows.form; obtain ⟨nk, hnk⟩ : ∃ nk, (K ++ [(j, xs)]).length = nk := ⟨_, rfl⟩; rw [hnk] at hv3; clear hnk; subst hv3; clear S3 g3))
                exact bodyPost_ret (by simp [results, Try.results19, go_sem, r0, r1, r2]; rfl) rfl ⟨_, rfl, by rw [← QE.out]; exact puts_fin HS3.out HBB.out (Off.set (Off.set (Off.set (Off.set (Off.refl _ _) (fun _ => Or.inl rfl) _) (fun _ => Or.inr rfl) _) (fun _ => Or.inr rfl) _) (fun _ => Or.inr rfl) _)⟩
              · have QE := hide (HPN.out K HI.out)
                obtain ⟨ad4, cap4, hv3, _⟩ := HS.out.rows.form
                obtain ⟨nk, hnk⟩ : ∃ nk, K.length = nk := ⟨_, rfl⟩
                rw [hnk] at hv3
                clear hnk
                subst hv3
                go_wp2
                exact bodyPost_ret (by simp [results, Try.results19, go_sem, y0, y1, y2]; rfl) rfl ⟨_, rfl, by rw [← QE.out]; exact puts_fin HS.out HBB.out (Off.set (Off.set (Off.set (Off.set (Off.refl _ _) (fun _ => Or.inl rfl) _) (fun _ => Or.inr rfl) _) (fun _ => Or.inr rfl) _) (fun _ => Or.inr rfl) _)⟩
        · have qful : ((n : Int) == (room : Int)) = false := by rw [beq_eq_false_iff_ne]; omega
          clear hP hn hlow
          go_enter Try.func19, Try.ntmps19
          go_wp2_with (go_at_call 22; ((with_reducible refine (CF _ (ba (below1 _ _) _)).mono ?_); rintro e w1 ⟨i, rfl, hi, b1⟩; have hi0 : i < 0 := (by rcases Int.lt_or_le i 0 with q | q; exact q; exact absurd (hi.1 q) (by decide)); have HB1 := hide (bt (ba (below1 _ _) _) b1); have HCC := hide (cel_two b1); obtain ⟨⟨x0, x1, x2, x3, x4, x5⟩, ⟨y0, y1, y2, y3, y4, y5⟩⟩ := cel_two b1; clear hi b1))
          go_loopw [8, 9, 43] (fun v8 v9 v43 wr => ∃ (k : Nat) (K : List (Int × List Int)) (dn : Bool) (vo : Value), k ≤ n ∧ v43 = .int .i64 (k : Int) ∧ v9 = .bool dn ∧ v8 = vo ∧ K.length ≤ 2 * k ∧ PutI room L (j, xs) k dn K ∧ PutS w (.int .i64 (room : Int)) (.int .i64 (ln : Int)) (.slice ad n cap) (fun g => B g ∧ g ≠ w.heap.size ∧ g ≠ w.heap.size + 1) wr vo K) (fun _ _ v43 _ => n - (intOf v43).toNat)
          case atStart => exact ⟨0, [], false, _, by omega, rfl, rfl, rfl, by simp, puti_start _ _ _, ⟨DocB.nil _ _ _, HCC.out.1, HCC.out.2, HB1.out⟩⟩
          case round =>
            obtain ⟨k, K, dn, vo, hk, rfl, rfl, rfl, hKl, hI, hS⟩ := hrel
            clear x0 x1 x2 x3 x4 x5 y0 y1 y2 y3 y4 y5
            obtain ⟨x0, x1, x2, x3, x4, x5⟩ := hS.box
            obtain ⟨y0, y1, y2, y3, y4, y5⟩ := hS.res
            have HI := hide hI
            have HS := hide hS
            have HKL := hide hKl
            have hsz : w.heap.size + 2 ≤ wr.heap.size := by have := cell_ltL y0; omega
            have HNEW := hide (fun g (hg : wr.heap.size ≤ g) => (⟨HBB.out g (by omega), by omega, by omega⟩ : B g ∧ g ≠ w.heap.size ∧ g ≠ w.heap.size + 1))
            clear hI hS hKl
            by_cases hlt : k < n
            · obtain ⟨z, ys, hzy⟩ : ∃ z ys, lnAt L k = (z, ys) := ⟨_, _, rfl⟩
              obtain ⟨g, cap', u, he, c0, c1, ou, uB⟩ := HD.out.1.get (k := k) (by rw [HN.out]; exact hlt)
              rw [hzy] at c0 ou
              simp only [Value.slice.injEq] at he
              obtain ⟨rfl, hq, rfl⟩ := he
              clear hq
              obtain ⟨ad2, cap2, rfl, _⟩ := ou.form
              have HOU := hide (ou.below HS.out.bel)
              have HUB := hide (fun g hg => (⟨uB g hg, by have := OwnI.lt ou g hg; omega, by have := OwnI.lt ou g hg; omega⟩ : B g ∧ g ≠ w.heap.size ∧ g ≠ w.heap.size + 1))
              have d0 := cb HS.out.bel (cell_ltL c0) c0
              have d1 := cb HS.out.bel (cell_ltL c1) c1
              have HZY := hide hzy
              have STP := fun (hn' : ¬ (L.length = room ∧ k = 0)) => hide hn'
              generalize hm : (z, ys).2.length = m at *
              have HM := hide hm
              clear c0 c1 ou uB hzy hm
              obtain ⟨q0, q1, q2, _, _, _⟩ := HS.out.box.alloc (.cells #[.int .i64 z, .slice ad2 m cap2] 61)
              by_cases hk0 : k = 0
              · have qk : ((k : Int) == 0) = true := by rw [beq_iff_eq]; omega
                have HNF := STP (fun e => hful (by have := HN.out; omega))
                clear hk0
                clear STP
                cases dn
                · by_cases hjz : j < z
                  · have qjz : decide (j < z) = true := decide_eq_true hjz
                    have PI := hide (puti_ins HI.out (by rw [HN.out]; exact hlt) HNF.out (by rw [HZY.out]; exact hjz))
                    have XV := hide (fun (W : World) (hb : Below (wr.alloc (.cells #[.int .i64 z, .slice ad2 m cap2] 61)).heap.size (wr.alloc (.cells #[.int .i64 z, .slice ad2 m cap2] 61)) W) => (⟨cb hb (by simp) (by simp), cb hb (by simp) (by simp)⟩ : W.cell? ⟨wr.heap.size, 0, none⟩ = some (.int .i64 z) ∧ W.cell? ⟨wr.heap.size, 1, none⟩ = some (.slice ad2 m cap2)))
                    go_wp2_with (first
                      | (at_builtin; refine lit_append (xs := xs) (s := .tmp 68) (e := .tmp 69) (H := wr.heap.size + 1) ?_ ?_ ?_ ?_ ?_ HX.out (by omega) HZ.out ?_ ?_; rfl; rfl; simp; rfl; rfl; exact HR.out.below (ba HS.out.bel _); intro ad3 cap3 w2 own2 bb2; have HO2 := hide own2; have HXV := hide (XV.out w2 bb2); have HB2 := hide (bt (below1 wr _) bb2); clear own2 bb2)
                      | (at_builtin; refine puts_append (i := j) (xs := xs) (s := .tmp 66) (e := .tmp 72) (H := w2.heap.size) (HS.out.below HB2.out) ?_ ?_ ?_ ?_ ?_ (HO2.out.mono (Nat.zero_le _)) (fun g hg => HNEW.out g (by have := ownI_from HO2.out g hg; simp at this; omega)) (by have := HKL.out; omega) ?_; rfl; rfl; rfl; rfl; rfl; intro v3 w3 S3 g3; have HS3 := hide S3; have HG3 := hide g3; have XN := vo_ne HS.out.rows; have z0 := cg g3 XN HXV.out.1; have z1 := cg g3 XN HXV.out.2; have HO3 := hide (OwnI.kept HOU.out (grown_trans2 HB2.out g3) (fun g hg e => vo_apart HS.out.rows HOU.out g hg e)); clear S3 g3)
                      | (at_builtin; refine puts_append (i := z) (xs := ys) (s := .tmp 74) (e := .tmp 76) (H := w3.heap.size) HS3.out ?_ ?_ ?_ ?_ ?_ HO3.out HUB.out (by simp; have := HKL.out; omega) ?_; rfl; rfl; rfl; rfl; rfl; intro v4 w4 S4 g4; have HS4 := hide S4; clear S4 g4))
                    go_roundw
                    case rel => exact ⟨k + 1, _, _, _, by omega, by go_num, rfl, rfl, by simp; have := HKL.out; omega, by rw [HZY.out] at PI; exact PI.out, HS4.out⟩
                    case measure => simp [intOf]; omega
                  · have qjz : decide (j < z) = false := decide_eq_false hjz
                    have PO := hide (puti_old HI.out (by rw [HN.out]; exact hlt) HNF.out (by rw [HZY.out]; exact hjz))
                    go_wp2_with (at_builtin; refine puts_append (i := z) (xs := ys) (s := .tmp 74) (e := .tmp 76) (H := wr.heap.size + 1) (HS.out.below (below1 _ _)) ?_ ?_ ?_ ?_ ?_ (HOU.out.alloc _) HUB.out (by have := HKL.out; omega) ?_; rfl; rfl; rfl; simp; rfl; intro v3 w3 S3 g3; have HS3 := hide S3; clear S3 g3)
                    go_roundw
                    case rel => exact ⟨k + 1, _, _, _, by omega, by go_num, rfl, rfl, by simp; have := HKL.out; omega, by rw [HZY.out] at PO; exact PO.out, HS3.out⟩
                    case measure => simp [intOf]; omega
                · have PD := hide (puti_done HI.out (by rw [HN.out]; exact hlt) HNF.out)
                  go_wp2_with (at_builtin; refine puts_append (i := z) (xs := ys) (s := .tmp 74) (e := .tmp 76) (H := wr.heap.size + 1) (HS.out.below (below1 _ _)) ?_ ?_ ?_ ?_ ?_ (HOU.out.alloc _) HUB.out (by have := HKL.out; omega) ?_; rfl; rfl; rfl; simp; rfl; intro v3 w3 S3 g3; have HS3 := hide S3; clear S3 g3)
                  go_roundw
                  case rel => exact ⟨k + 1, _, _, _, by omega, by go_num, rfl, rfl, by simp; have := HKL.out; omega, by rw [HZY.out] at PD; exact PD.out, HS3.out⟩
                  case measure => simp [intOf]; omega
              · have qk : ((k : Int) == 0) = false := by rw [beq_eq_false_iff_ne]; omega
                have HNF := STP (fun e => hful (by have := HN.out; omega))
                clear hk0
                clear STP
                cases dn
                · by_cases hjz : j < z
                  · have qjz : decide (j < z) = true := decide_eq_true hjz
                    have PI := hide (puti_ins HI.out (by rw [HN.out]; exact hlt) HNF.out (by rw [HZY.out]; exact hjz))
                    have XV := hide (fun (W : World) (hb : Below (wr.alloc (.cells #[.int .i64 z, .slice ad2 m cap2] 61)).heap.size (wr.alloc (.cells #[.int .i64 z, .slice ad2 m cap2] 61)) W) => (⟨cb hb (by simp) (by simp), cb hb (by simp) (by simp)⟩ : W.cell? ⟨wr.heap.size, 0, none⟩ = some (.int .i64 z) ∧ W.cell? ⟨wr.heap.size, 1, none⟩ = some (.slice ad2 m cap2)))
                    go_wp2_with (first
                      | (at_builtin; refine lit_append (xs := xs) (s := .tmp 68) (e := .tmp 69) (H := wr.heap.size + 1) ?_ ?_ ?_ ?_ ?_ HX.out (by omega) HZ.out ?_ ?_; rfl; rfl; simp; rfl; rfl; exact HR.out.below (ba HS.out.bel _); intro ad3 cap3 w2 own2 bb2; have HO2 := hide own2; have HXV := hide (XV.out w2 bb2); have HB2 := hide (bt (below1 wr _) bb2); clear own2 bb2)
                      | (at_builtin; refine puts_append (i := j) (xs := xs) (s := .tmp 66) (e := .tmp 72) (H := w2.heap.size) (HS.out.below HB2.out) ?_ ?_ ?_ ?_ ?_ (HO2.out.mono (Nat.zero_le _)) (fun g hg => HNEW.out g (by have := ownI_from HO2.out g hg; simp at this; omega)) (by have := HKL.out; omega) ?_; rfl; rfl; rfl; rfl; rfl; intro v3 w3 S3 g3; have HS3 := hide S3; have HG3 := hide g3; have XN := vo_ne HS.out.rows; have z0 := cg g3 XN HXV.out.1; have z1 := cg g3 XN HXV.out.2; have HO3 := hide (OwnI.kept HOU.out (grown_trans2 HB2.out g3) (fun g hg e => vo_apart HS.out.rows HOU.out g hg e)); clear S3 g3)
                      | (at_builtin; refine puts_append (i := z) (xs := ys) (s := .tmp 74) (e := .tmp 76) (H := w3.heap.size) HS3.out ?_ ?_ ?_ ?_ ?_ HO3.out HUB.out (by simp; have := HKL.out; omega) ?_; rfl; rfl; rfl; rfl; rfl; intro v4 w4 S4 g4; have HS4 := hide S4; clear S4 g4))
                    go_roundw
                    case rel => exact ⟨k + 1, _, _, _, by omega, by go_num, rfl, rfl, by simp; have := HKL.out; omega, by rw [HZY.out] at PI; exact PI.out, HS4.out⟩
                    case measure => simp [intOf]; omega
                  · have qjz : decide (j < z) = false := decide_eq_false hjz
                    have PO := hide (puti_old HI.out (by rw [HN.out]; exact hlt) HNF.out (by rw [HZY.out]; exact hjz))
                    go_wp2_with (at_builtin; refine puts_append (i := z) (xs := ys) (s := .tmp 74) (e := .tmp 76) (H := wr.heap.size + 1) (HS.out.below (below1 _ _)) ?_ ?_ ?_ ?_ ?_ (HOU.out.alloc _) HUB.out (by have := HKL.out; omega) ?_; rfl; rfl; rfl; simp; rfl; intro v3 w3 S3 g3; have HS3 := hide S3; clear S3 g3)
                    go_roundw
                    case rel => exact ⟨k + 1, _, _, _, by omega, by go_num, rfl, rfl, by simp; have := HKL.out; omega, by rw [HZY.out] at PO; exact PO.out, HS3.out⟩
                    case measure => simp [intOf]; omega
                · have PD := hide (puti_done HI.out (by rw [HN.out]; exact hlt) HNF.out)
                  go_wp2_with (at_builtin; refine puts_append (i := z) (xs := ys) (s := .tmp 74) (e := .tmp 76) (H := wr.heap.size + 1) (HS.out.below (below1 _ _)) ?_ ?_ ?_ ?_ ?_ (HOU.out.alloc _) HUB.out (by have := HKL.out; omega) ?_; rfl; rfl; rfl; simp; rfl; intro v3 w3 S3 g3; have HS3 := hide S3; clear S3 g3)
                  go_roundw
                  case rel => exact ⟨k + 1, _, _, _, by omega, by go_num, rfl, rfl, by simp; have := HKL.out; omega, by rw [HZY.out] at PD; exact PD.out, HS3.out⟩
                  case measure => simp [intOf]; omega
            · obtain rfl : k = n := by omega
              cases dn
              · have QE := hide (HPE.out K HI.out)
                go_wp2_with (first
                  | (at_builtin; refine lit_append (xs := xs) (s := .tmp 83) (e := .tmp 84) (H := wr.heap.size) ?_ ?_ ?_ ?_ ?_ HX.out (by omega) HZ.out ?_ ?_; rfl; rfl; rfl; rfl; rfl; exact HR.out.below HS.out.bel; intro ad3 cap3 w2 own2 bb2; have HO2 := hide own2; have HB2 := hide bb2; clear own2 bb2)
                  | (at_builtin; refine puts_append (i := j) (xs := xs) (s := .tmp 81) (e := .tmp 87) (H := w2.heap.size) (HS.out.below HB2.out) ?_ ?_ ?_ ?_ ?_ (HO2.out.mono (Nat.zero_le _)) (fun g hg => HNEW.out g (by have := ownI_from HO2.out g hg; omega)) (by have := HKL.out; omega) ?_; rfl; rfl; rfl; rfl; rfl; intro v3 w3 S3 g3; have HS3 := hide S3; obtain ⟨⟨p0, p1, p2, p3, p4, p5⟩, ⟨r0, r1, r2, r3, r4, r5⟩⟩ := (⟨S3.box, S3.res⟩ : Cel3 w3 w.heap.size (.int .i64 (room : Int)) (.int .i64 (ln : Int)) (.slice ad k cap) ∧ Cel3 w3 (w.heap.size + 1) (.int .i64 0) (.int .i64 0) (.slice none 0 0)); obtain ⟨ad4, cap4, hv3, _⟩ := S3.rows.form; obtain ⟨nk, hnk⟩ : ∃ nk, (K ++ [(j, xs)]).length = nk := ⟨_, rfl⟩; rw [hnk] at hv3; clear hnk; subst hv3; clear S3 g3))
                exact bodyPost_ret (by simp [results, Try.results19, go_sem, r0, r1, r2]; rfl) rfl ⟨_, rfl, by rw [← QE.out]; exact puts_fin HS3.out HBB.out (Off.set (Off.set (Off.set (Off.set (Off.refl _ _) (fun _ => Or.inl rfl) _) (fun _ => Or.inr rfl) _) (fun _ => Or.inr rfl) _) (fun _ => Or.inr rfl) _)⟩
              · have QE := hide (HPN.out K HI.out)
                obtain ⟨ad4, cap4, hv3, _⟩ := HS.out.rows.form
                obtain ⟨nk, hnk⟩ : ∃ nk, K.length = nk := ⟨_, rfl⟩
                rw [hnk] at hv3
                clear hnk
                subst hv3
                go_wp2
                exact bodyPost_ret (by simp [results, Try.results19, go_sem, y0, y1, y2]; rfl) rfl ⟨_, rfl, by rw [← QE.out]; exact puts_fin HS.out HBB.out (Off.set (Off.set (Off.set (Off.set (Off.refl _ _) (fun _ => Or.inl rfl) _) (fun _ => Or.inr rfl) _) (fun _ => Or.inr rfl) _) (fun _ => Or.inr rfl) _)⟩
    · rw [hj] at hP CF
      obtain rfl : P = false := by rw [← hP]; simp
      rw [if_neg (by decide)]
      clear hP hn
      go_enter Try.func19, Try.ntmps19
      go_wp2_with (go_at_call 22; (with_reducible refine (CF _ (ba (below1 _ _) _)).mono ?_); rintro e w1 ⟨i, rfl, hi, b1⟩; have hi0 : 0 ≤ i := hi.2 rfl; have HB1 := hide (bt (ba (below1 _ _) _) b1); obtain ⟨⟨x0, x1, x2, x3, x4, x5⟩, ⟨y0, y1, y2, y3, y4, y5⟩⟩ := cel_two b1; clear hi b1)
      exact bodyPost_ret (by simp [results, Try.results19, go_sem, y0, y1, y2]) rfl ⟨_, rfl, HD.out.below (bs (bs (bs HB1.out (by simp) _) (by simp) _) (by simp) _), bs (bs (bs HB1.out (by simp) _) (by simp) _) (by simp) _⟩
  · obtain rfl : P = false := by rw [← hP, decide_eq_false hnw]; rfl
    have qn : ((ln : Int) != (width : Int)) = true := by simp; omega
    rw [if_neg (by decide)]
    clear hP hn CF
    go_enter Try.func19, Try.ntmps19
    go_wp2
    exact bodyPost_ret (by simp [results, Try.results19, go_sem]) rfl ⟨_, rfl, HD.out.below (ba (below1 _ _) _), ba (below1 _ _) _⟩
end Go.Proofs.Ytkkoemcciemloaa
