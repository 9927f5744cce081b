/- The law on rows, one behind the other. -/
import Derived.Test.YtcamllahcjonkaaS09I
import Derived.Deep.LoopGhost
namespace Go.Proofs.Ytcamllahcjonkaa
open Go.RowKit

theorem row_at {I : Im} (hI : ImOk I) {y : Int} (y0 : 0 ≤ y) (y1 : y < I.ih) {k : Nat} (hk : (k : Int) < I.iw * I.ic) : imAt I ((k : Int) / I.ic) y ((k : Int) % I.ic) = (imRow I y).getD k 0 := by
  obtain ⟨r0, r1, r2, r3, _, _⟩ := row_in hI y0 y1
  obtain ⟨a0, a1, b0, b1, hc, _, _, hm, hl, _⟩ := hI
  have c0 : 0 < I.ic := by omega
  have p0 : 0 ≤ (k : Int) / I.ic := Int.ediv_nonneg (by omega) (by omega)
  have p1 : (k : Int) / I.ic < I.iw := Int.ediv_lt_of_lt_mul c0 hk
  have q0 : 0 ≤ (k : Int) % I.ic := Int.emod_nonneg _ (by omega)
  have q1 : (k : Int) % I.ic < I.ic := Int.emod_lt_of_pos _ c0
  have hh : hasF I ((k : Int) / I.ic) y ((k : Int) % I.ic) = true := hasF_iff.2 ⟨p0, p1, y0, y1, q0, q1⟩
  unfold imAt
  rw [if_pos hh]
  have e : imPlace I ((k : Int) / I.ic) y ((k : Int) % I.ic) = y * I.iw * I.ic + k := by
    unfold imPlace placeF
    have := Int.emod_add_ediv_mul (k : Int) I.ic
    rw [Int.add_mul]
    omega
  rw [e]
  unfold imRow
  rw [List.getD_eq_getElem?_getD, List.getD_eq_getElem?_getD, List.getElem?_take, if_pos (by omega), List.getElem?_drop]
  congr 2
  omega
/-- A callee that leaves the world as it is. -/
theorem calm_at {P : Program} {f : FuncId} {args : Array Value} {u : Value} {w : World} {n : Nat} (h : Calls P f args (w.drewN n) fun e w' => e = .returned u ∧ w.drewN n = w') :
    Calls P f args (w.drewN n) fun e w'' => e = .returned u ∧ ∃ m, w'' = w.drewN m := h.mono fun _ _ q => ⟨q.1, n, q.2.symm⟩
/-- Rows so far. -/
def rowsTo (I : Im) (y : Nat) : List Int := I.il.take (y * (I.iw * I.ic).toNat)
theorem rowsTo_snoc {I : Im} (hI : ImOk I) (y : Nat) : rowsTo I (y + 1) = rowsTo I y ++ imRow I y := by
  unfold rowsTo imRow
  obtain ⟨a0, a1, b0, b1, hc, _⟩ := hI
  have h : 0 ≤ I.iw * I.ic := Int.mul_nonneg (by omega) (by omega)
  have e : ((y : Int) * I.iw * I.ic).toNat = y * (I.iw * I.ic).toNat := by
    have h2 : ((I.iw * I.ic).toNat : Int) = I.iw * I.ic := Int.toNat_of_nonneg h
    have h3 : ((y : Int) * I.iw * I.ic) = ((y * (I.iw * I.ic).toNat : Nat) : Int) := by rw [Int.natCast_mul, h2, Int.mul_assoc]
    rw [h3, Int.toNat_natCast]
  rw [e, Nat.succ_mul, List.take_add]
theorem rowsTo_len {I : Im} (hI : ImOk I) {y : Nat} (hy : (y : Int) ≤ I.ih) : (rowsTo I y).length = y * (I.iw * I.ic).toNat := by
  unfold rowsTo
  rw [List.length_take]
  obtain ⟨a0, a1, b0, b1, hc, _, _, _, hl, _⟩ := hI
  have h : 0 ≤ I.iw * I.ic := Int.mul_nonneg (by omega) (by omega)
  have h2 : ((I.iw * I.ic).toNat : Int) = I.iw * I.ic := Int.toNat_of_nonneg h
  have h3 : (y : Int) * ((I.iw * I.ic).toNat : Int) ≤ I.ih * (I.iw * I.ic) := by rw [h2]; exact Int.mul_le_mul_of_nonneg_right hy h
  have h4 : I.ih * (I.iw * I.ic) = I.iw * I.ih * I.ic := by rw [← Int.mul_assoc, Int.mul_comm I.ih I.iw]
  have h5 : ((y * (I.iw * I.ic).toNat : Nat) : Int) = (y : Int) * ((I.iw * I.ic).toNat : Int) := Int.natCast_mul ..
  omega
theorem rowsTo_all {I : Im} (hI : ImOk I) {y : Nat} (hy : (y : Int) = I.ih) : rowsTo I y = I.il := by
  have h := rowsTo_len hI (show (y : Int) ≤ I.ih by omega)
  unfold rowsTo
  refine List.take_of_length_le ?_
  obtain ⟨a0, a1, b0, b1, hc, _, _, _, hl, _⟩ := hI
  have h : 0 ≤ I.iw * I.ic := Int.mul_nonneg (by omega) (by omega)
  have h2 : ((I.iw * I.ic).toNat : Int) = I.iw * I.ic := Int.toNat_of_nonneg h
  have h4 : I.ih * (I.iw * I.ic) = I.iw * I.ih * I.ic := by rw [← Int.mul_assoc, Int.mul_comm I.ih I.iw]
  have h5 : ((y * (I.iw * I.ic).toNat : Nat) : Int) = (y : Int) * ((I.iw * I.ic).toNat : Int) := Int.natCast_mul ..
  rw [hy, h2] at h5
  omega
set_option maxHeartbeats 4000000 in
set_option maxRecDepth 100000 in
theorem rows_main (a b c t : Int) (xs : List Int) (ad : Option Addr) (cap : Nat) (w : World) (a0 : 0 ≤ a) (b0 : 0 ≤ b) (c0 : 0 ≤ c) (t0 : 0 ≤ t) (t1 : t ≤ 65535) (hr : RowAt .u16 w ad xs) (hx : ∀ x ∈ xs, 0 ≤ x ∧ x ≤ 65535) (hl : xs.length ≤ maxLen) :
    Calls Try.prog 3 #[.int .u16 a, .int .u16 b, .int .u16 c, .int .u16 t, .slice ad xs.length cap] w fun e w' => e = .returned (.bool true) ∧ Below w.heap.size w w' := by
  have CD := fun w hr => draw_any a b c t xs ad cap w a0 b0 c0 t0 t1 hr hx hl
  have HR := hide hr
  obtain ⟨i0, hi0, hz0, hz1, hz2⟩ := info_parts infoU16
  have q1 : ∀ (g : Nat) (w : World), (binOp .eql 25 (.pointer (some ⟨g, 0, none⟩)) (.pointer none)).run Try.prog w = .ok (.bool false) w := fun g w => by kernel_rfl
  clear hr hx hl a0 b0 c0 t0 t1
  generalize xs.length = nl at *
  go_enter Try.func3, Try.ntmps3
  go_wp2_with (first
    | (go_at_call 8; (with_reducible refine (rlives9 _).mono ?_); rintro e w1 ⟨rfl, b1⟩)
    | (go_at_call 9; (with_reducible refine (CD _ (HR.out.below b1)).mono ?_); rintro e w2 ⟨v, I, rfl, ⟨g, h, rfl, gB, hB, hi⟩, i20, j20, b2⟩; have HI := hide hi; clear hi)
    | (go_at_call 10; (with_reducible refine (img_height HI.out).mono ?_); rintro e w7 ⟨rfl, rfl⟩))
  have B2 := hide (bt b1 b2)
  have hok := HI.out.ok
  have HOK := hide hok
  obtain ⟨n1, n2, n3, n4, hc, n5, n6, n7, n8, _⟩ := hok
  obtain ⟨N, hN⟩ : ∃ N : Nat, (N : Int) = I.ih := ⟨_, Int.toNat_of_nonneg (by omega)⟩
  obtain ⟨R, hR⟩ : ∃ R : Nat, (I.iw * I.ic).toNat = R := ⟨_, rfl⟩
  have hRi : (R : Int) = I.iw * I.ic := by
    have := Int.mul_nonneg (show 0 ≤ I.iw by omega) (show 0 ≤ I.ic by omega)
    omega
  have R01 : 1 ≤ R ∧ R ≤ 60 := by
    have h1 : I.iw * 1 ≤ I.iw * I.ic := Int.mul_le_mul_of_nonneg_left (by omega) (by omega)
    have h2 : I.iw * I.ic ≤ I.iw * 3 := Int.mul_le_mul_of_nonneg_left (by omega) (by omega)
    omega
  obtain ⟨R0, R1⟩ := R01
  have N0 : N ≤ 20 := by omega
  have HRW := hide (fun (y : Nat) (hy : y < N) => imRow_len HOK.out (show (0 : Int) ≤ (y : Int) by omega) (show (y : Int) < I.ih by omega))
  have HAT := hide (fun (y : Nat) (hy : y < N) (k : Nat) (hk : k < R) => row_at HOK.out (show (0 : Int) ≤ (y : Int) by omega) (show (y : Int) < I.ih by omega) (show (k : Int) < I.iw * I.ic by omega))
  have HLEN := hide (fun (y : Nat) (hy : y ≤ N) => rowsTo_len HOK.out (show (y : Int) ≤ I.ih by omega))
  have HSN := hide (fun (y : Nat) => rowsTo_snoc HOK.out y)
  have HALL := hide (rowsTo_all HOK.out hN)
  rw [hR] at HRW HLEN
  have HHN := hide hN
  have HHR := hide hRi
  have cpos : 1 ≤ I.ic ∧ I.ic ≤ 3 := by omega
  obtain ⟨cp0, cp1⟩ := cpos
  have CH := fun (w' : World) (b : Below w2.heap.size w2 w') => img_channels (HI.out.below b)
  have CA := fun (w' : World) (b : Below w2.heap.size w2 w') x y z => img_at (HI.out.below b) x y z
  have CR := fun (w' : World) (b : Below w2.heap.size w2 w') y y0 y1 => img_row_yes (HI.out.below b) y y0 y1
  obtain ⟨C, hC⟩ : ∃ C, I.ic = C := ⟨_, rfl⟩
  rw [hC] at cp0 cp1
  simp only [hC] at CH HAT
  rw [← hN]
  clear hN hR hRi n1 n2 n3 n4 n5 n6 n7 n8 hc b1 b2 CD i20 j20 hC
  go_loopg [12, 30] N (fun r v i wr => ∃ y : Nat, y + r = N ∧ i = .int .i64 (y : Int) ∧ OwnI .u16 22 wr w2.heap.size v (rowsTo I y) ∧ Below w2.heap.size w2 wr)
  case atStart => exact ⟨0, by omega, rfl, (by unfold rowsTo; rw [Nat.zero_mul, List.take_zero]; exact OwnI.nil _ _ _ _), Below.refl _ _⟩
  case round =>
    obtain ⟨y, hy, rfl, ho, hb⟩ := hrel
    obtain ⟨G, hG⟩ : ∃ G, G = gk := ⟨_, rfl⟩
    subst hG
    obtain ⟨W, hW⟩ : ∃ W, W = wr := ⟨_, rfl⟩
    subst hW
    obtain ⟨va, hva⟩ : ∃ va, va = u12 := ⟨_, rfl⟩
    subst hva
    have HY := hide hy
    have HO := hide ho
    have HB := hide hb
    clear ho hb hy
    have sW := HB.out.size
    by_cases hlt : y < N
    · have CRy := CR W HB.out (y : Int) (by omega) (by have := HHN.out; omega)
      go_upto_region 11 with (go_at_call 11; (with_reducible refine CRy.mono ?_); rintro e w3 ⟨vr, rfl, own3, b3⟩; obtain ⟨rb, cp3, rfl, grb, lrb, hr3, _, zrb⟩ := own_row own3 (HRW.out y hlt) R0; have HR3 := hide hr3; have HO3 := hide own3; clear hr3 own3)
      have b23 := bt HB.out b3
      have HB3 := hide b23
      have HO3a := hide (HO.out.below b3)
      have hva := HO.out.lt
      clear b23 CRy CR
      go_wp2
      go_loopg [38] R (fun r i wr => ∃ k : Nat, k + r = R ∧ i = .int .i64 (k : Int) ∧ Drew w3 wr)
      case atStart => exact ⟨0, by omega, rfl, Drew.refl _⟩
      case round =>
        obtain ⟨k, hk, rfl, hd⟩ := hrel
        have HK := hide hk
        have HD := hide hd
        clear hk hd
        by_cases hlt2 : k < R
        · have hc := (HR3.out.below HD.out.below).at (show k < (imRow I y).length by rw [HRW.out y hlt]; exact hlt2)
          rw [Nat.zero_add] at hc
          have hat := HAT.out y hlt k hlt2
          have CHk := fun n => CH (wr.drewN n) (bdN (bt HB3.out HD.out.below) n)
          have CAk := fun n => CA (wr.drewN n) (bdN (bt HB3.out HD.out.below) n) ((k : Int) / C) (y : Int) ((k : Int) % C)
          simp only [hat] at CAk
          obtain ⟨p, hp, hp0, hp1⟩ : ∃ p : Int, (k : Int) / C = p ∧ 0 ≤ p ∧ p ≤ 60 := ⟨_, rfl, Int.ediv_nonneg (by omega) (by omega), by
            have := Int.ediv_le_self C (show (0 : Int) ≤ (k : Int) by omega)
            omega⟩
          obtain ⟨q, hq, hq0, hq1⟩ : ∃ q : Int, (k : Int) % C = q ∧ 0 ≤ q ∧ q ≤ 3 := ⟨_, rfl, Int.emod_nonneg _ (by omega), by
            have := Int.emod_lt_of_pos (k : Int) (show (0 : Int) < C by omega)
            omega⟩
          have e1 : (k : Int).tdiv C = p := by rw [Int.tdiv_eq_ediv_of_nonneg (by omega)]; exact hp
          have e2 : (k : Int).tmod C = q := by rw [Int.tmod_eq_emod_of_nonneg (by omega)]; exact hq
          have cz : (C == 0) = false := beq_eq_false_iff_ne.2 (by omega)
          rw [hp, hq] at CAk
          generalize (imRow I y).getD k 0 = u at *
          have hu : (u != u) = false := by simp
          clear hat
          go_upto_region 14 with fail
          go_quiet ((first
            | (go_at_call 13; with_reducible exact calm_at (CHk _))
            | (go_at_call 12; with_reducible exact calmD (CAk _))))
          go_wp2
          go_roundg (gk - 1)
          case measure => have := HK.out; omega
          case rel => exact ⟨k + 1, by have := HK.out; omega, by go_num, HD.out.more _⟩
        · obtain rfl : R = k := by have := HK.out; omega
          clear hlt2
          have hyR : y * R ≤ 20 * 60 := Nat.mul_le_mul (by omega) (by omega)
          have hyL := HLEN.out y (by omega)
          have bW := bt HB3.out HD.out.below
          have sW3 := bW.size
          have s3 := b3.size
          have sD := HD.out.below.size
          have orow := HO3.out.below HD.out.below
          have oall := HO3a.out.below HD.out.below
          have hrow := HR3.out.below HD.out.below
          have ap : Apart va (.slice (some ⟨rb, 0, none⟩) R cp3) := fun g' hg' he => by
            have := hva g' hg'
            have := Option.some.inj he
            simp at this
            omega
          have fresh := fun k hk => (World.ownsRow.lt oall k hk).1
          have HRO := hide (HRW.out y hlt)
          have HH := hide (And.intro orow (And.intro ap (And.intro fresh bW)))
          clear orow ap fresh bW
          go_upto_region 18 with (at_builtin; refine wpList_append_row .u16 _ rfl _ _ 23 rfl w2.heap.size 22 i0 (.int .u16 0) 2 Try.underlying23 hi0 hz0 hz1 hz2 rfl va (rowsTo I y) rfl oall (some ⟨rb, 0, none⟩) R cp3 (imRow I y) rfl HRO.out hrow (fun e => by cases e) (by unfold maxLen; omega) (by omega) sW3 ?_; intro v4 w4 own4 grow4 ap4)
          obtain ⟨orow, ap, fresh, bW⟩ := HH.out
          have b4 := bW.grown grow4 sW3 fresh
          have orow4 := orow.kept grow4 ap.symm
          have ap5 : Apart v4 (.slice (some ⟨rb, 0, none⟩) R cp3) := Apart.grown ap (fun g' he => by
            have := Option.some.inj he
            simp at this
            omega) ap4
          rw [← HSN.out] at own4
          have HR4 := hide (And.intro orow4 (And.intro own4 b4))
          have HAP := hide ap5
          clear orow ap fresh bW b4 orow4 ap4 ap5 own4 grow4 oall hrow HH HO HO3 HO3a HR3
          go_wp2
          go_loopg [62] R (fun r i wr => ∃ j : Nat, j + r = R ∧ i = .int .i64 (j : Int) ∧ (∃ L : List Int, L.length = R ∧ OwnI .u16 22 wr W.heap.size (.slice (some ⟨rb, 0, none⟩) R cp3) L) ∧ OwnI .u16 22 wr w2.heap.size v4 (rowsTo I (y + 1)) ∧ Below w2.heap.size w2 wr)
          case atStart => exact ⟨0, by omega, rfl, ⟨_, HRO.out, HR4.out.1⟩, HR4.out.2.1, HR4.out.2.2⟩
          case round =>
            obtain ⟨j, hj, rfl, ⟨L, hL, ho⟩, hall, hb⟩ := hrel
            have HJ := hide hj
            have HL := hide hL
            have HO := hide ho
            have HA := hide hall
            have HB' := hide hb
            clear hj hL ho hall hb HR4
            by_cases hlt3 : j < R
            · have c1 := HO.out.cellAt HL.out hlt3
              have z1 := HO.out.frozenAt HL.out j
              have H5 := hide (fun x => And.intro (HO.out.stored HL.out j x) (And.intro (HA.out.kept (u := .slice (some ⟨rb, 0, none⟩) R cp3) (grown_set wr rb j (.int .u16 x)) HAP.out) (bs HB'.out (show w2.heap.size ≤ rb by omega) (b := rb) (o := j) (.int .u16 x))))
              generalize L.getD j 0 = u at *
              go_wp2
              go_roundg (gk - 1)
              case measure => have := HJ.out; omega
              case rel => exact ⟨j + 1, by have := HJ.out; omega, by go_num, ⟨_, (by rw [List.length_set]; exact HL.out), (H5.out _).1⟩, (H5.out _).2.1, (H5.out _).2.2⟩
            · obtain rfl : R = j := by have := HJ.out; omega
              clear hlt3
              go_wp2
              go_roundg (G - 1)
              case measure => have := HY.out; omega
              case rel => exact ⟨y + 1, by have := HY.out; omega, by go_num, HA.out, HB'.out⟩
    · obtain rfl : N = y := by have := HY.out; omega
      clear hlt
      have ho := HO.out
      rw [HALL.out] at ho
      obtain ⟨l0, l1⟩ := imOk_len HOK.out
      obtain ⟨ab, acp, hv, _, _, hra, _, _⟩ := own_row ho rfl l0
      subst hv
      have HRA := hide hra
      obtain ⟨n1, n2, n3, n4, hc, n5, n6, n7, n8, _⟩ := HOK.out
      obtain ⟨m0, m1⟩ := side_mul n1 n2 n3 n4
      obtain ⟨p0, p1⟩ := side_mul3 n1 n2 n3 n4 hc
      have ql : ((I.il.length : Int) == I.iw * I.ih * I.ic) = true := by rw [n8]; simp
      have CS := fun ad bd cap cap' w hr hq => dsame_any I.il I.il I.il.length I.il.length rfl rfl ad bd cap cap' l1 w hr hq
      rw [show decide (I.il = I.il) = true from decide_eq_true rfl] at CS
      have HS := hide (img_samples (HI.out.below HB.out))
      obtain ⟨nI, hnI⟩ : ∃ nI, I.il.length = nI := ⟨_, rfl⟩
      have HNI := hide hnI
      rw [hnI] at ql CS l0 l1
      simp only [hnI]
      clear ho hra n1 n2 n3 n4 hc n5 n6 n7 n8 hnI HO CA CR CH
      go_wp2_with (first
        | (go_at_call 15; (with_reducible refine HS.out.mono ?_); rintro e w6 ⟨v2, rfl, own2, b6⟩; obtain ⟨s2, cp2, rfl, gs2, ls2, hr2, _, zs2⟩ := own_row own2 HNI.out l0; have HR2 := hide hr2; clear hr2 own2)
        | (go_at_call 14; (with_reducible refine (CS _ _ _ _ _ (HRA.out.below b6) HR2.out).mono ?_); rintro e w7 ⟨rfl, b7⟩; have HI7 := hide (HI.out.below (bt (bt HB.out b6) b7)))
        | (go_at_call 16; (with_reducible refine (img_width HI7.out).mono ?_); rintro e w8 ⟨rfl, rfl⟩)
        | (go_at_call 10; (with_reducible refine (img_height HI7.out).mono ?_); rintro e w8 ⟨rfl, rfl⟩)
        | (go_at_call 13; (with_reducible refine (img_channels HI7.out).mono ?_); rintro e w8 ⟨rfl, rfl⟩))
      go_ret
      exact ⟨rfl, bt B2.out (bt (bt HB.out b6) b7)⟩
theorem law_RasterRows (a b c t : Int) (xs : List Int) (ad : Option Addr) (cap : Nat) (w : World) (ha : 0 ≤ a ∧ a ≤ 65535) (hb : 0 ≤ b ∧ b ≤ 65535) (hc : 0 ≤ c ∧ c ≤ 65535) (ht : 0 ≤ t ∧ t ≤ 65535) (hr : RowAt .u16 w ad xs) (hx : AllK .u16 xs) (hl : xs.length ≤ maxLen) (_ : ad = none → cap = 0) :
    Calls Try.prog 3 #[.int .u16 a, .int .u16 b, .int .u16 c, .int .u16 t, .slice ad xs.length cap] w fun e w' => e = .returned (.bool true) ∧ Below w.heap.size w w' :=
  rows_main a b c t xs ad cap w ha.1 hb.1 hc.1 ht.1 ht.2 hr (allU hx) hl
end Go.Proofs.Ytcamllahcjonkaa
