/- The law on plays. Written by a program. -/
import Derived.Test.YtcamllahcjonkaaS09I
import Derived.Test.YtcamllahcjonkaaS09Q
import Derived.Deep.RegionHeld3
namespace Go.Proofs.Ytcamllahcjonkaa
open Go.RowKit

theorem imSet_id_len (I : Im) (x y z v : Int) : (imSet I x y z v).il.length = I.il.length := (imSet_sizes I x y z v).2.2.2.2
set_option maxHeartbeats 8000000 in
set_option maxRecDepth 100000 in
theorem plays_main (a b c t : Int) (xs : List Int) (ad : Option Addr) (cap : Nat) (D : List (Int × Int × Int × Int)) (dd : Option Addr) (dcap : Nat) (w : World) (a0 : 0 ≤ a) (b0 : 0 ≤ b) (c0 : 0 ≤ c) (t0 : 0 ≤ t) (t1 : t ≤ 65535) (hr : RowAt .u16 w ad xs) (hx : ∀ x ∈ xs, 0 ≤ x ∧ x ≤ 65535) (hl : xs.length ≤ maxLen) (hd : ActsAt w dd D) (hdl : D.length ≤ 30) :
    Calls Try.prog 6 #[.int .u16 a, .int .u16 b, .int .u16 c, .int .u16 t, .slice ad xs.length cap, .slice dd D.length dcap] w fun e w' => e = .returned (.bool true) ∧ Below w.heap.size w w' := by
  have CD := fun w hr => draw_any a b c t xs ad cap w a0 b0 c0 t0 t1 hr hx hl
  have HR := hide hr
  have HD := hide hd
  have q1 : ∀ (g : Nat) (w : World), (binOp .eql 25 (.pointer (some ⟨g, 0, none⟩)) (.pointer none)).run Try.prog w = .ok (.bool false) w := fun g w => by kernel_rfl
  clear hr hx hl a0 b0 c0 t0 t1 hd
  generalize xs.length = nl at *
  obtain ⟨n, hn⟩ : ∃ n, D.length = n := ⟨_, rfl⟩
  have HN := hide hn
  rw [hn] at hdl ⊢
  clear hn
  go_enter Try.func6, Try.ntmps6
  go_upto_region 7 with (first
    | (go_at_call 8; (with_reducible refine (rlives9 _).mono ?_); rintro e w1 ⟨rfl, b1⟩)
    | (go_at_call 9; (with_reducible refine (CD _ (HR.out.below b1)).mono ?_); rintro e w2 ⟨v, I, rfl, ⟨g, h, rfl, gB, hB, hi⟩, i20, j20, b2⟩; have HI := hide hi; clear hi)
    | (go_at_call 23; (with_reducible refine (dref_any HI.out).mono ?_); unfold imV; rintro e w3 ⟨bb, capb, rfl, r3, gb3, lb3, lc3, b3⟩))
  have i3 := HI.out.below b3
  have lg := i3.lt
  have ngh := i3.ne
  have R0 := hide (show RCell (w3.alloc (.cells #[.int .i64 I.iw, .int .i64 I.ih, .int .i64 I.ic, .int .i64 I.it, .slice (some ⟨bb, 0, none⟩) I.il.length capb] 43)) w3.heap.size bb capb I from
    ⟨⟨by simp, by simp, by simp, by simp, by simp⟩, ⟨by simp, by simp, by simp, by simp, by simp⟩, r3.below (below1 _ _), by omega, lc3, (imOk_len HI.out.ok).1⟩)
  have I4 := hide (i3.below (below1 w3 (.cells #[.int .i64 I.iw, .int .i64 I.ih, .int .i64 I.ic, .int .i64 I.it, .slice (some ⟨bb, 0, none⟩) I.il.length capb] 43)))
  have B4 := hide (ba (bt (bt b1 b2) b3) (.cells #[.int .i64 I.iw, .int .i64 I.ih, .int .i64 I.ic, .int .i64 I.it, .slice (some ⟨bb, 0, none⟩) I.il.length capb] 43))
  have sB := (bt (bt b1 b2) b3).size
  obtain ⟨R, hR⟩ : ∃ R, w3.heap.size = R := ⟨_, rfl⟩
  rw [hR] at R0 lg lb3 sB
  have nRg : R ≠ g := by omega
  have nRh : R ≠ h := by omega
  have li := HI.out.lt
  have nbh : bb ≠ h := by omega
  have hRB : w.heap.size ≤ R := sB
  have hhB : w.heap.size ≤ h := by have := b1.size; omega
  have sR : R < (w3.alloc (.cells #[.int .i64 I.iw, .int .i64 I.ih, .int .i64 I.ic, .int .i64 I.it, .slice (some ⟨bb, 0, none⟩) I.il.length capb] 43)).heap.size := by simp; omega
  simp only [hR]
  clear HI i3 r3 b1 b2 b3 gb3 lb3 lc3 hR lg i20 j20 CD li gB hB sB
  generalize w3.alloc (.cells #[.int .i64 I.iw, .int .i64 I.ih, .int .i64 I.ic, .int .i64 I.it, .slice (some ⟨bb, 0, none⟩) I.il.length capb] 43) = w4 at *
  go_wp2_with (go_at_call 24; (with_reducible refine (img_copy I4.out).mono ?_); rintro e w5 ⟨v1, rfl, ⟨g1, h1, rfl, gB1, hB1, hi1⟩, b5⟩; have H1 := hide hi1; clear hi1)
  have R5 := hide (R0.out.below b5)
  have I5 := hide (I4.out.below b5)
  have B5 := hide (bt B4.out b5)
  have lg4 := I4.out.lt
  have n1g : g1 ≠ R := by omega
  have n1h : h1 ≠ R := by omega
  have n2g : g1 ≠ h := by omega
  have n2h : h1 ≠ h := by omega
  clear R0 I4 B4 b5 lg4 gB1 hB1 sR
  go_loopw [45] (fun i wr => ∃ (j : Nat) (I' : Im) (b' cap' : Nat), j ≤ n ∧ i = .int .i64 (j : Int) ∧ Hid (ImgAt wr g h I') ∧ Hid (RCell wr R b' cap' I') ∧ b' ≠ h ∧ Hid (ImgAt wr g1 h1 I) ∧ Hid (Below w.heap.size w wr)) (fun i _ => n - (intOf i).toNat)
  case atStart => exact ⟨0, I, bb, capb, by omega, rfl, I5, R5, nbh, H1, B5⟩
  case round =>
    obtain ⟨j, J, b', cap', hj, rfl, HI, HC, nb, H1', HB⟩ := hrel
    clear R5 I5 B5 H1 nbh
    by_cases hlt : j < n
    · obtain ⟨ba', off, rfl, hin, hfit⟩ := (HD.out.below HB.out).get (show j < D.length by rw [HN.out]; exact hlt)
      obtain ⟨x, y, z, v, hact⟩ : ∃ x y z v, actD D j = (x, y, z, v) := ⟨_, _, _, _, rfl⟩
      rw [hact] at hin hfit
      obtain ⟨d0, d1, d2, d3⟩ := hin
      obtain ⟨⟨x0, x1⟩, ⟨y0, y1⟩, ⟨z0, z1⟩, v0, v1⟩ := hfit
      replace d0 : wr.cell? ⟨ba', off + j * 4, none⟩ = some (.int .i64 x) := d0
      replace d1 : wr.cell? ⟨ba', off + j * 4 + 1, none⟩ = some (.int .i64 y) := d1
      replace d2 : wr.cell? ⟨ba', off + j * 4 + 2, none⟩ = some (.int .i64 z) := d2
      replace d3 : wr.cell? ⟨ba', off + j * 4 + 3, none⟩ = some (.int .u16 v) := d3
      replace x0 : -9223372036854775808 ≤ x := x0
      replace x1 : x ≤ 9223372036854775807 := x1
      replace y0 : -9223372036854775808 ≤ y := y0
      replace y1 : y ≤ 9223372036854775807 := y1
      replace z0 : -9223372036854775808 ≤ z := z0
      replace z1 : z ≤ 9223372036854775807 := z1
      replace v0 : 0 ≤ v := v0
      replace v1 : v ≤ 65535 := v1
      clear hact
      go_upto_region 11 with fail
      have ka := HI.out.ok
      have WA := hide (below1 wr (.cells #[.int .i64 x, .int .i64 y, .int .i64 z, .int .u16 v] 47))
      have I1 := hide (HI.out.below WA.out)
      have C1 := hide (HC.out.below WA.out)
      have H11 := hide (H1'.out.below WA.out)
      have B1 := hide (ba HB.out (.cells #[.int .i64 x, .int .i64 y, .int .i64 z, .int .u16 v] 47))
      have lI := HI.out.lt
      have lC := HC.out.lt
      have a0 : (wr.alloc (.cells #[.int .i64 x, .int .i64 y, .int .i64 z, .int .u16 v] 47)).cell? ⟨wr.heap.size, 0, none⟩ = some (.int .i64 x) := by simp
      have a1 : (wr.alloc (.cells #[.int .i64 x, .int .i64 y, .int .i64 z, .int .u16 v] 47)).cell? ⟨wr.heap.size, 1, none⟩ = some (.int .i64 y) := by simp
      have a2 : (wr.alloc (.cells #[.int .i64 x, .int .i64 y, .int .i64 z, .int .u16 v] 47)).cell? ⟨wr.heap.size, 2, none⟩ = some (.int .i64 z) := by simp
      have a3 : (wr.alloc (.cells #[.int .i64 x, .int .i64 y, .int .i64 z, .int .u16 v] 47)).cell? ⟨wr.heap.size, 3, none⟩ = some (.int .u16 v) := by simp
      have nAR : wr.heap.size ≠ R := by omega
      have nAh : wr.heap.size ≠ h := by omega
      clear HI HC H1' HB WA d0 d1 d2 d3
      generalize wr.alloc (.cells #[.int .i64 x, .int .i64 y, .int .i64 z, .int .u16 v] 47) = w1 at *
      generalize wr.heap.size = A at *
      have lI1 := I1.out.lt
      clear lI lC
      obtain ⟨⟨r0, r1, r2, r3, r4⟩, ⟨f0, f1, f2, f3, f4⟩, hrow, nbR, lcap, l0⟩ := C1.out
      have l1 := (imOk_len ka).2
      have CSET := fun (w : World) hr => dset_any J b' cap' ka x y z v v0 v1 w hr
      unfold imV at CSET
      have HROW := hide hrow
      have lA := cell_ltL a0
      have lR := cell_ltL r0
      have HL := hide (imSet_id_len J x y z v)
      have HK := hide (imSet_ok (x := x) (y := y) (z := z) ka v0)
      have CSX := fun {w : World} (hi : ImgAt w g h J) => img_set_any hi x y z v v0 v1
      obtain ⟨ok, hok⟩ : ∃ ok, setOk J x y z v = ok := ⟨_, rfl⟩
      rw [hok] at CSET CSX
      obtain ⟨I', hI'⟩ : ∃ I', imSet J x y z v = I' := ⟨_, rfl⟩
      rw [hI'] at CSET CSX HL HK
      obtain ⟨nl2, hnl2⟩ : ∃ nl2, J.il.length = nl2 := ⟨_, rfl⟩
      have hlen : I'.il.length = nl2 := HL.out.trans hnl2
      have HLEN := hide hlen
      have HJL := hide hnl2
      rw [hnl2] at CSET l0 l1 lcap r4
      clear hrow ka HL hlen hok hI' hnl2
      go_upto_region 13 with (go_at_call 25; (with_reducible refine (CSET _ HROW.out).mono ?_); rintro e w2 ⟨b2', cap2, rfl, hrow2, hbc, b2⟩; have A0 := cb b2 lA a0; have A1 := cb b2 lA a1; have A2 := cb b2 lA a2; have A3 := cb b2 lA a3; have R0 := cb b2 lR r0; have R1 := cb b2 lR r1; have R2 := cb b2 lR r2; have R3 := cb b2 lR r3; have R4 := cb b2 lR r4; have F0 := fb b2 lR f0; have F1 := fb b2 lR f1; have F2 := fb b2 lR f2; have F3 := fb b2 lR f3; have F4 := fb b2 lR f4; have lR2 : R < w2.heap.size := Nat.lt_of_lt_of_le lR b2.size; have lA2 : A < w2.heap.size := Nat.lt_of_lt_of_le lA b2.size)
      have hb2R : b2' ≠ R := by rcases hbc with ⟨e, _⟩ | ⟨e, _⟩ <;> omega
      have hb2h : b2' ≠ h := by rcases hbc with ⟨e, _⟩ | ⟨e, _⟩ <;> omega
      have hcap2 : nl2 ≤ cap2 := by rcases hbc with ⟨_, e⟩ | ⟨_, e⟩ <;> omega
      have hst := (C1.out.below b2).store hrow2 hb2R (cap' := cap2) (by rw [HLEN.out]; exact hcap2) (by rw [HLEN.out]; exact l0) rfl
      rw [HLEN.out] at hst
      obtain ⟨hrc, hgs⟩ := hst
      have sgR : some g ≠ some R := fun e => nRg (Option.some.inj e).symm
      have shR : some h ≠ some R := fun e => nRh (Option.some.inj e).symm
      have sg1R : some g1 ≠ some R := fun e => n1g (Option.some.inj e)
      have sh1R : some h1 ≠ some R := fun e => n1h (Option.some.inj e)
      have sAR : some A ≠ some R := fun e => nAR (Option.some.inj e)
      have wl := hgs.size
      have B2 := bt B1.out b2
      have B3 := hide (ba (B2.grown hgs B2.size (fun k hk => by have := Option.some.inj hk; omega)) (.cells #[.int .i64 I'.iw, .int .i64 I'.ih, .int .i64 I'.ic, .int .i64 I'.it, .slice (some ⟨b2', 0, none⟩) nl2 cap2] 43))
      have C3 := hide (hrc.below (below1 _ (.cells #[.int .i64 I'.iw, .int .i64 I'.ih, .int .i64 I'.ic, .int .i64 I'.it, .slice (some ⟨b2', 0, none⟩) nl2 cap2] 43)))
      have I3 := hide (((I1.out.below b2).grown hgs sgR shR).below (below1 _ (.cells #[.int .i64 I'.iw, .int .i64 I'.ih, .int .i64 I'.ic, .int .i64 I'.it, .slice (some ⟨b2', 0, none⟩) nl2 cap2] 43)))
      have H3 := hide (((H11.out.below b2).grown hgs sg1R sh1R).below (below1 _ (.cells #[.int .i64 I'.iw, .int .i64 I'.ih, .int .i64 I'.ic, .int .i64 I'.it, .slice (some ⟨b2', 0, none⟩) nl2 cap2] 43)))
      replace a0 := cb (below1 _ (.cells #[.int .i64 I'.iw, .int .i64 I'.ih, .int .i64 I'.ic, .int .i64 I'.it, .slice (some ⟨b2', 0, none⟩) nl2 cap2] 43)) (Nat.lt_of_lt_of_le lA2 wl) (cg hgs sAR A0)
      replace a1 := cb (below1 _ (.cells #[.int .i64 I'.iw, .int .i64 I'.ih, .int .i64 I'.ic, .int .i64 I'.it, .slice (some ⟨b2', 0, none⟩) nl2 cap2] 43)) (Nat.lt_of_lt_of_le lA2 wl) (cg hgs sAR A1)
      replace a2 := cb (below1 _ (.cells #[.int .i64 I'.iw, .int .i64 I'.ih, .int .i64 I'.ic, .int .i64 I'.it, .slice (some ⟨b2', 0, none⟩) nl2 cap2] 43)) (Nat.lt_of_lt_of_le lA2 wl) (cg hgs sAR A2)
      replace a3 := cb (below1 _ (.cells #[.int .i64 I'.iw, .int .i64 I'.ih, .int .i64 I'.ic, .int .i64 I'.it, .slice (some ⟨b2', 0, none⟩) nl2 cap2] 43)) (Nat.lt_of_lt_of_le lA2 wl) (cg hgs sAR A3)
      have HRC := hide hrc
      have HGS := hide hgs
      clear hrc hgs B2 I1 C1 H11 B1 A0 A1 A2 A3 R0 R1 R2 R3 R4 F0 F1 F2 F3 F4 r0 r1 r2 r3 r4 f0 f1 f2 f3 f4 hrow2 HROW CSET hbc wl sgR shR sg1R sh1R sAR lR2 lA2 b2 lA lR lcap nbR nb lI1 HRC HGS
      generalize (((((w2.setCell ⟨R, 0, none⟩ (.int .i64 I'.iw)).setCell ⟨R, 1, none⟩ (.int .i64 I'.ih)).setCell ⟨R, 2, none⟩ (.int .i64 I'.ic)).setCell ⟨R, 3, none⟩ (.int .i64 I'.it)).setCell ⟨R, 4, none⟩ (.slice (some ⟨b2', 0, none⟩) nl2 cap2)).alloc (.cells #[.int .i64 I'.iw, .int .i64 I'.ih, .int .i64 I'.ic, .int .i64 I'.it, .slice (some ⟨b2', 0, none⟩) nl2 cap2] 43) = w3 at *
      generalize w2.heap.size = sl18 at *
      go_upto_region 14 with (go_at_call 24; (with_reducible refine (img_copy I3.out).mono ?_); rintro e w4 ⟨v1, rfl, ⟨g2, h2, rfl, gB2, hB2, hi2⟩, b4⟩; have HK4 := hide hi2; clear hi2)
      have lw3 := I3.out.lt
      have sA : some A ≠ some h := fun e => nAh (Option.some.inj e)
      have sR : some R ≠ some h := fun e => nRh (Option.some.inj e)
      have sb : some b2' ≠ some h := fun e => hb2h (Option.some.inj e)
      have sg1 : some g1 ≠ some h := fun e => n2g (Option.some.inj e)
      have sh1 : some h1 ≠ some h := fun e => n2h (Option.some.inj e)
      have sg2 : some g2 ≠ some h := fun e => by have := Option.some.inj e; omega
      have sh2 : some h2 ≠ some h := fun e => by have := Option.some.inj e; omega
      obtain ⟨⟨r0, r1, r2, r3, r4⟩, _, hrow, _, _, _⟩ := C3.out
      rw [HLEN.out] at r4
      have hs4 := s9_below (s9_below ⟨a0, a1, a2, a3, r0, r1, r2, r3, r4⟩ b4) (bd (Below.refl _ w4))
      have HROW := hide ((hrow.below b4).below (bd (Below.refl _ w4)))
      have HI4 := hide ((I3.out.below b4).below (bd (Below.refl _ w4)))
      have l1' : I'.il.length ≤ 268435456 := (imOk_len HK.out).2
      have CAT := fun {w : World} (hi : ImgAt w g h I') => img_at hi x y z
      have CDA := fun (w : World) hr => dat_any I' b2' cap2 HK.out x y z w hr
      have CRF := fun {w : World} (hi : ImgAt w g h I') => dref_any hi
      have CEQ := fun (b cap : Nat) (w : World) hr hr' => dequal_any I' I' b b2' cap cap2 l1' w hr hr'
      unfold imV at CDA CRF CEQ
      rw [HLEN.out] at CDA CRF CEQ
      rw [imSame_self] at CEQ
      generalize imAt I' x y z = u at CAT CDA
      have hu : (u != u) = false := by simp
      have hok : (ok != ok) = false := by simp
      clear hrow r0 r1 r2 r3 r4 a0 a1 a2 a3 l1' lw3
      go_region_held3 (fun w' => w'.cell? ⟨A, 0, none⟩ = some (.int .i64 x) ∧ w'.cell? ⟨A, 1, none⟩ = some (.int .i64 y) ∧ w'.cell? ⟨A, 2, none⟩ = some (.int .i64 z) ∧ w'.cell? ⟨A, 3, none⟩ = some (.int .u16 v) ∧ w'.cell? ⟨R, 0, none⟩ = some (.int .i64 I'.iw) ∧ w'.cell? ⟨R, 1, none⟩ = some (.int .i64 I'.ih) ∧ w'.cell? ⟨R, 2, none⟩ = some (.int .i64 I'.ic) ∧ w'.cell? ⟨R, 3, none⟩ = some (.int .i64 I'.it) ∧ w'.cell? ⟨R, 4, none⟩ = some (.slice (some ⟨b2', 0, none⟩) nl2 cap2)) (first | assumption | go_keep)
        (first
          | (go_at_call 26; (with_reducible refine (CSX HI4.out).mono ?_); rintro e w5 ⟨rfl, hi5, g5⟩; have HI5 := hide hi5; clear hi5; have hs5 := s9_grown hs4 g5 sA sR; have r5 := hide (HROW.out.grown g5 sb))
          | (go_at_call 12; (with_reducible refine (CAT HI5.out).mono ?_); rintro e w6 ⟨rfl, d6⟩; have hs6 := s9_below hs5 d6.below)
          | (go_at_call 27; (with_reducible refine (CDA _ (r5.out.below d6.below)).mono ?_); rintro e w7 ⟨rfl, b7⟩; have hs7 := s9_below hs6 b7)
          | (go_at_call 23; (with_reducible refine (CRF (HI5.out.below (bt d6.below b7))).mono ?_); rintro e w8 ⟨b8, cap8, rfl, r8, gb8, lb8, lc8, bel8⟩; have hs8 := s9_below hs7 bel8)
          | (go_at_call 28; (with_reducible refine (CEQ _ _ _ r8 (r5.out.below (bt (bt d6.below b7) bel8))).mono ?_); rintro e w9 ⟨rfl, b9⟩; have hs9 := s9_below hs8 b9))
      have bel59 := bt (bt (bt d6.below b7) bel8) b9
      have dr4 := bd (Below.refl w4.heap.size w4)
      have I9 := hide (HI5.out.below bel59)
      have C9 := hide ((((C3.out.below b4).below dr4).grown g5 sR sb).below bel59)
      have H9 := hide ((((H3.out.below b4).below dr4).grown g5 sg1 sh1).below bel59)
      have K9 := hide (((HK4.out.below dr4).grown g5 sg2 sh2).below bel59)
      have B9 := hide (bt ((bd (bt B3.out b4)).grown g5 (by have := (bd (bt B3.out b4)).size; exact this) (fun k hk => by have := Option.some.inj hk; omega)) bel59)
      clear bel59 dr4 hs4 hs5 hs6 hs7 hs8 d6 b7 bel8 b9 b4 g5 r5 r8 HI5 C3 H3 HK4 B3 CAT CDA CRF CEQ CSX HROW HI4 sA sR sg1 sh1 sg2 sh2 gb8 lb8 lc8 I3 hu hok
      go_upto_region 16 with fail
      obtain ⟨⟨r0, r1, r2, r3, r4⟩, _, hrow, _, _, _⟩ := C9.out
      rw [HLEN.out] at r4
      have dr9 := bd (Below.refl w9.heap.size w9)
      have hs9d := s5_below ⟨r0, r1, r2, r3, r4⟩ dr9
      have HROW := hide (hrow.below dr9)
      have HK9 := hide (K9.out.below dr9)
      have CS1 := img_same (I9.out.below dr9) HK9.out
      have CRF := fun {w : World} (hi : ImgAt w g2 h2 J) => dref_any hi
      have CEQ := fun (b cap : Nat) (w : World) hr hr' => dequal_any J I' b b2' cap cap2 (imOk_len K9.out.ok).2 w hr hr'
      have CS2 := fun {w : World} {g3 h3 : Nat} (hi : ImgAt w g2 h2 J) (hk : ImgAt w g3 h3 J) => img_same hi hk
      unfold imV at CRF CEQ
      rw [HJL.out] at CRF CEQ
      rw [HLEN.out] at CEQ
      rw [imSame_comm J I'] at CEQ
      rw [imSame_self] at CS2
      generalize imSame I' J = sm at CS1 CEQ
      have hsm : (sm != sm) = false := by simp
      clear hrow r0 r1 r2 r3 r4
      go_region_held3 (fun w' => w'.cell? ⟨R, 0, none⟩ = some (.int .i64 I'.iw) ∧ w'.cell? ⟨R, 1, none⟩ = some (.int .i64 I'.ih) ∧ w'.cell? ⟨R, 2, none⟩ = some (.int .i64 I'.ic) ∧ w'.cell? ⟨R, 3, none⟩ = some (.int .i64 I'.it) ∧ w'.cell? ⟨R, 4, none⟩ = some (.slice (some ⟨b2', 0, none⟩) nl2 cap2)) (first | assumption | go_keep)
        (first
          | (go_at_call 29; (with_reducible refine CS1.mono ?_); rintro e w10 ⟨rfl, d10⟩; have hs10 := s5_below hs9d d10.below)
          | (go_at_call 23; (with_reducible refine (CRF (HK9.out.below d10.below)).mono ?_); rintro e w11 ⟨b11, cap11, rfl, r11, gb11, lb11, lc11, bel11⟩; have hs11 := s5_below hs10 bel11)
          | (go_at_call 28; (with_reducible refine (CEQ _ _ _ r11 (HROW.out.below (bt d10.below bel11))).mono ?_); rintro e w12 ⟨rfl, b12⟩; have hs12 := s5_below hs11 b12)
          | (go_at_call 24; (with_reducible refine (img_copy (HK9.out.below (bt (bt d10.below bel11) b12))).mono ?_); rintro e w13 ⟨v13, rfl, ⟨g3, h3, rfl, gB3, hB3, hi13⟩, b13⟩; have HI13 := hide hi13; clear hi13; have hs13 := s5_below hs12 b13)
          | (go_at_call 29; (with_reducible refine (CS2 (HK9.out.below (bt (bt (bt d10.below bel11) b12) b13)) HI13.out).mono ?_); rintro e w14 ⟨rfl, d14⟩; have hs14 := s5_below hs13 d14.below))
      have bel9 := bt (bt (bt (bt (bt dr9 d10.below) bel11) b12) b13) d14.below
      have I14 := hide (I9.out.below bel9)
      have C14 := hide (C9.out.below bel9)
      have H14 := hide (H9.out.below bel9)
      have B14 := hide (bt B9.out bel9)
      clear bel9 dr9 hs9d hs10 hs11 hs12 hs13 hs14 d10 bel11 b12 b13 d14 r11 HI13 I9 C9 H9 K9 B9 HROW HK9 CS1 CRF CEQ CS2
      go_wp2
      go_roundw
      case rel => exact ⟨j + 1, I', b2', cap2, by omega, by go_num, I14, C14, hb2h, H14, B14⟩
      case measure => simp [intOf]; omega
    · obtain rfl : n = j := by omega
      clear hlt HD HN HR
      have hok := HI.out.ok
      have HOK := hide hok
      obtain ⟨o0, o1, o2, o3, oc, _, _, om, ol, _⟩ := hok
      go_wp2
      go_loopw [21] (fun i w' => ∃ q : Int, -1 ≤ q ∧ q ≤ J.ih + 1 ∧ i = .int .i64 q ∧ Hid (Below wr.heap.size wr w')) (fun i _ => (J.ih + 1 - intOf i).toNat)
      case atStart => exact ⟨-1, by omega, by omega, rfl, Below.refl _ _⟩
      case round =>
        obtain ⟨q, q0, qh, rfl, hb⟩ := hrel
        have I2 := hide (HI.out.below hb.out)
        have C2 := hide (HC.out.below hb.out)
        obtain ⟨⟨r0, r1, r2, r3, r4⟩, _, hrow, _, hcap, _⟩ := C2.out
        obtain ⟨l0, l1⟩ := imOk_len HOK.out
        by_cases hend : q ≤ J.ih
        · by_cases hneg : q < 0
          · obtain rfl : q = -1 := by omega
            have CR := img_row_no I2.out (-1) (.inl (by omega))
            clear hrow r0 r2 r3 r4 hneg hend
            go_wp2_with (go_at_call 11; (with_reducible refine CR.mono ?_); rintro e w6 ⟨rfl, rfl⟩)
            go_roundw
            case rel => exact ⟨0, by omega, by omega, by go_num, hb⟩
            case measure => simp [intOf]; omega
          · by_cases hlast : q = J.ih
            · subst hlast
              have CR := img_row_no I2.out J.ih (.inr (by omega))
              have qq : (J.ih == J.ih) = true := beq_self_eq_true J.ih
              have q00 : 0 ≤ J.ih := by omega
              clear hrow r0 r2 r3 r4 hneg
              go_wp2_with (go_at_call 11; (with_reducible refine CR.mono ?_); rintro e w6 ⟨rfl, rfl⟩)
              go_roundw
              case rel => exact ⟨J.ih + 1, by omega, by omega, by go_num, hb⟩
              case measure => simp [intOf]; omega
            · have q00 : 0 ≤ q := by omega
              have q11 : q < J.ih := by omega
              have CR := img_row_yes I2.out q q00 q11
              obtain ⟨p0, p1, p2, p3, p4, p5⟩ := row_in HOK.out q00 q11
              have hln := imRow_len HOK.out q00 q11
              have qq : (q == J.ih) = false := beq_eq_false_iff_ne.2 hlast
              obtain ⟨k, hkk⟩ : ∃ k : Nat, (k : Int) = q * J.iw * J.ic := ⟨_, Int.toNat_of_nonneg p2⟩
              obtain ⟨m, hm⟩ : ∃ m : Nat, (m : Int) = J.iw * J.ic := ⟨_, Int.toNat_of_nonneg (by omega)⟩
              have hpart := hrow.part k m (by omega)
              have e1 : imRow J q = (J.il.drop k).take m := by unfold imRow; rw [← hkk, ← hm, Int.toNat_natCast, Int.toNat_natCast]
              rw [← hm, Int.toNat_natCast] at hln
              rw [← e1, Nat.zero_add] at hpart
              have HP := hide hpart
              have g1' : q * J.iw * J.ic = (k : Int) := hkk.symm
              have g2' : (q + 1) * J.iw * J.ic = (k : Int) + (m : Int) := by rw [Int.add_mul, Int.one_mul, Int.add_mul, hkk, hm]
              have g3 : (q + 1) * J.iw = q * J.iw + J.iw := by rw [Int.add_mul, Int.one_mul]
              have g4 : 0 ≤ (q + 1) * J.iw := by omega
              have g5 : (q + 1) * J.iw ≤ 4295032832 := by omega
              have CS := fun (ad bd : Option Addr) (c1 c2 : Nat) (w : World) hr hr' => dsame_any (imRow J q) (imRow J q) m m hln hln ad bd c1 c2 (by omega) w hr hr'
              rw [show decide (imRow J q = imRow J q) = true from decide_eq_true rfl] at CS
              rw [← hkk, ← hm] at p3
              rw [← hm] at p0
              have HLN := hide hln
              have m0 : 1 ≤ m := by omega
              clear hrow hpart e1 hln g3 hkk hm hlast hneg r3
              go_wp2_with (first
                | (go_at_call 11; (with_reducible refine CR.mono ?_); rintro e w6 ⟨v6, rfl, own6, b6⟩; obtain ⟨s6, cp6, rfl, gs6, ls6, hr6, _, zs6⟩ := own_row own6 HLN.out m0; have HR6 := hide hr6; clear hr6 own6; have lR := cell_ltL r0; replace r0 := cb b6 lR r0; replace r1 := cb b6 lR r1; replace r2 := cb b6 lR r2; replace r4 := cb b6 lR r4)
                | (go_at_call 14; (with_reducible refine (CS _ _ _ _ _ HR6.out (HP.out.below b6)).mono ?_); rintro e w7 ⟨rfl, b7⟩))
              go_roundw
              case rel => exact ⟨q + 1, by omega, by omega, by go_num, bt (bt hb.out b6) b7⟩
              case measure => simp [intOf]; omega
        · have hend' : J.ih < q := by omega
          have H2 := hide (H1'.out.below hb.out)
          have BZ := hide (bt HB.out hb.out)
          clear o0 o1 o2 o3 oc om ol hb HI HC H1' HB hend q0 qh
          go_upto_region 28 with fail
          have dr := bd (Below.refl wr.heap.size wr)
          have hs0 := s5_below ⟨r0, r1, r2, r3, r4⟩ dr
          have HROW := hide (hrow.below dr)
          have CS1 := img_same (H2.out.below dr) (I2.out.below dr)
          have HF := hide (H2.out.below dr)
          have lI := (imOk_len H2.out.ok).2
          have CRF := fun {w : World} (hi : ImgAt w g1 h1 I) => dref_any hi
          have CEQ := fun (b cap : Nat) (w : World) hr hr' => dequal_any I J b b' cap cap' lI w hr hr'
          unfold imV at CRF CEQ
          generalize imSame I J = sm at CS1 CEQ
          have hsm : (sm == sm) = true := by simp
          clear hrow
          go_region_held3 (fun w' => w'.cell? ⟨R, 0, none⟩ = some (.int .i64 J.iw) ∧ w'.cell? ⟨R, 1, none⟩ = some (.int .i64 J.ih) ∧ w'.cell? ⟨R, 2, none⟩ = some (.int .i64 J.ic) ∧ w'.cell? ⟨R, 3, none⟩ = some (.int .i64 J.it) ∧ w'.cell? ⟨R, 4, none⟩ = some (.slice (some ⟨b', 0, none⟩) J.il.length cap')) (first | assumption | go_keep)
            (first
              | (go_at_call 29; (with_reducible refine CS1.mono ?_); rintro e w10 ⟨rfl, d10⟩; have hs10 := s5_below hs0 d10.below)
              | (go_at_call 23; (with_reducible refine (CRF (HF.out.below d10.below)).mono ?_); rintro e w11 ⟨b11, cap11, rfl, r11, gb11, lb11, lc11, bel11⟩; have hs11 := s5_below hs10 bel11)
              | (go_at_call 28; (with_reducible refine (CEQ _ _ _ r11 (HROW.out.below (bt d10.below bel11))).mono ?_); rintro e w12 ⟨rfl, b12⟩; have hs12 := s5_below hs11 b12))
          go_wp2
          go_ret
          exact ⟨rfl, bt (bt (bt (bd BZ.out) d10.below) bel11) b12⟩
theorem law_RasterPlays (a b c t : Int) (xs : List Int) (ad : Option Addr) (cap : Nat) (D : List (Int × Int × Int × Int)) (dd : Option Addr) (dcap : Nat) (w : World) (ha : 0 ≤ a ∧ a ≤ 65535) (hb : 0 ≤ b ∧ b ≤ 65535) (hc : 0 ≤ c ∧ c ≤ 65535) (ht : 0 ≤ t ∧ t ≤ 65535) (hr : RowAt .u16 w ad xs) (hx : AllK .u16 xs) (hl : xs.length ≤ maxLen) (_ : ad = none → cap = 0) (hd : ActsAt w dd D) (hdl : D.length ≤ maxLen) (_ : dd = none → dcap = 0) :
    Calls Try.prog 6 #[.int .u16 a, .int .u16 b, .int .u16 c, .int .u16 t, .slice ad xs.length cap, .slice dd D.length dcap] w fun e w' => e = .returned (.bool true) ∧ Below w.heap.size w w' := by
  by_cases h30 : D.length ≤ 30
  · exact plays_main a b c t xs ad cap D dd dcap w ha.1 hb.1 hc.1 ht.1 ht.2 hr (allU hx) hl hd h30
  · have hd2 : D.length ≤ 9223372036854775807 := hdl
    generalize D.length = n at *
    generalize xs.length = m at *
    clear hr hx hl hd hdl ha hb hc ht
    go_enter Try.func6, Try.ntmps6
    go_wp2_with (first
      | (go_at_call 8; (with_reducible refine (rlives9 w).mono ?_); rintro e w1 ⟨rfl, b1⟩)
      | (go_at_call 8; (with_reducible refine (rlives9 w1).mono ?_); rintro e w2 ⟨rfl, b2⟩))
    go_ret
    exact ⟨rfl, bt b1 b2⟩
end Go.Proofs.Ytcamllahcjonkaa
