/- Parts, joined. -/
import Derived.Test.YtlknopmpbkepjaaDoorJ24
import Derived.Deep.RegionHeldLaw
/- Operations as texts: the law on what is printed, of few operations. Written by gen_XS13AP.py. -/
namespace Go.Proofs.YtlknopmpbkepjaaDoor
open Go.RowKit

theorem ref13_any (o : Opr) (ax : Option Addr) (cx : Nat) (ay : Option Addr) (cy : Nat) (w : World) :
    Calls Tryd.prog 10 #[opV o ax cx ay cy] w fun e w' => e = .returned (opV o ax cx ay cy) ∧ Below w.heap.size w w' := by
  unfold opV
  obtain ⟨kd, bd, sg, rd, xs, ys, fl, wd, ht⟩ := o
  simp only
  generalize xs.length = nx at *
  generalize ys.length = ny at *
  go_enter Tryd.func10, Tryd.ntmps10
  go_wp2
  exact bodyPost_ret (v := .agg #[.int .i64 kd, .int .i64 bd, .int .i64 sg, .int .i64 rd, .slice ax nx cx, .slice ay ny cy, .int .i64 fl, .int .i64 wd, .int .i64 ht]) (by simp [results, Tryd.results10, go_sem]) rfl ⟨rfl, ba (below1 _ _) _⟩
set_option maxHeartbeats 20000000 in
set_option maxRecDepth 100000 in
theorem prints_yes (L : List Opr) (n : Nat) (hn : L.length = n) (h1 : n ≤ maxLen) (ad : Option Addr) (cap : Nat) (w : World) (hk : KP w) (hr : OpsAt w ad L) (hsm : ∀ o ∈ L, SmW o) (h20 : n ≤ 20) (h : fewB L n = true) :
    Calls Tryd.prog 3 #[.slice ad n cap] w fun e w' => e = .returned (.bool true) ∧ Below w.heap.size w w' := by
  have CL := fun w' (b : Below w.heap.size w w') => lives13_any w' (kp_below hk b).1
  have CF := fun w' (b : Below w.heap.size w w') => few_any L n hn h1 ad cap w' (hr.below b)
  rw [h] at CF
  have HR := hide hr
  have HN := hide hn
  have HK := hide hk
  have HSA := hide hsm
  have HSM := hide (fun (k : Nat) (hk : k < n) => hsm _ (opAt_mem (show k < L.length by omega)))
  have HWL := hide (fun (k : Nat) (hk : k ≤ n) => want_len (L := L) (fun j hj => (hsm _ (opAt_mem hj)).word) (k := k) (by omega))
  clear hr hk h hn hsm
  go_enter Tryd.func3, Tryd.ntmps3
  go_wp2_with (first
    | (go_at_call 8; (with_reducible refine (CF _ B1.out).mono ?_); rintro e w2 ⟨rfl, b2⟩; have B2 := hide (bt B1.out b2); clear B1 b2)
    | (go_at_call 7; (with_reducible refine (CL _ (Below.refl _ _)).mono ?_); rintro e w1 ⟨rfl, b1⟩; have B1 := hide b1; clear b1))
  clear CL CF
  go_loopw [27, 3, 4] (fun i a b wr => ∃ k : Nat, k ≤ n ∧ i = .int .i64 (k : Int) ∧ a = .string (txt (wantB L k)) ∧ b = .bool (allW (L.take k)) ∧ Below w.heap.size w wr) (fun i _ _ _ => n - (intOf i).toNat)
  case atStart => exact ⟨0, by omega, rfl, rfl, by rw [List.take_zero]; rfl, B2.out⟩
  case round =>
    obtain ⟨k, hk, rfl, ha, hbb, hb⟩ := hrel
    have HB := hide hb
    by_cases hlt : k < n
    · subst ha hbb
      have hkL : k < L.length := by rw [HN.out]; exact hlt
      obtain ⟨b, off, rfl, h⟩ := (HR.out.below hb).get hkL
      obtain ⟨i0, i1, i2, i3, i6, i7, i8, ax, cx, ay, cy, i4, i5, ga⟩ := h
      obtain ⟨hF, l1, l2⟩ := HSM.out k hlt
      have hT := wordT_size (HSM.out k hlt).word
      have hWz : (txt (wantB L k)).size ≤ 60000 := by
        rw [txt_size (want_byts L k)]
        have := HWL.out k hk
        omega
      obtain ⟨W6, hW6⟩ : ∃ W, wr.alloc (.cells #[.int .i64 (opAt L k).kd, .int .i64 (opAt L k).bd, .int .i64 (opAt L k).sg, .int .i64 (opAt L k).rd, .slice ax (opAt L k).xs.length cx, .slice ay (opAt L k).ys.length cy, .int .i64 (opAt L k).fl, .int .i64 (opAt L k).wd, .int .i64 (opAt L k).ht] 30) = W := ⟨_, rfl⟩
      have B6 := hide (show Below wr.heap.size wr W6 by rw [← hW6]; exact below1 _ _)
      have g6 : OpAt W6 (opAt L k) ax cx ay cy := ga.below B6.out
      have P0 := hide (show ∀ w', Below W6.heap.size W6 w' → P9 w' wr.heap.size (opAt L k).kd (opAt L k).bd (opAt L k).sg (opAt L k).rd (.slice ax (opAt L k).xs.length cx) (.slice ay (opAt L k).ys.length cy) (opAt L k).fl (opAt L k).wd (opAt L k).ht from fun w' b => by
        refine P9.below ?_ b
        rw [← hW6]
        exact P9.new wr 30 _ _ _ _ _ _ _ _ _)
      obtain ⟨z0, z1, z2, z3, z4, z5, z6, z7, z8⟩ := P0.out W6 (Below.refl _ _)
      have KW6 : ∀ w', Below W6.heap.size W6 w' → KW w' := fun w' b => (kp_below HK.out (bt HB.out (bt B6.out b))).1
      have hc := cln_len (o := opAt L k) (n := 1000000) (by omega) (by omega)
      have CR := fun w' => ref13_any (opAt L k) ax cx ay cy w'
      have CWD := fun w' (b : Below W6.heap.size W6 w') => dword_any (opAt L k) ax cx ay cy w' hF (g6.below b) (by omega) (by omega)
      have CWP := fun w' (b : Below W6.heap.size W6 w') => word_any (opAt L k) ax cx ay cy w' hF (g6.below b) (by omega) (by omega) (KW6 w' b).1 (KW6 w' b).2.1 (KW6 w' b).2.2
      have CC := fun w' (b : Below W6.heap.size W6 w') => clean_any (opAt L k) ax cx ay cy w' (g6.below b) (by omega) (by omega)
      have CDC := fun w' (b : Below W6.heap.size W6 w') => dclean_any (opAt L k) ax cx ay cy w' (g6.below b)
      have CS := fun bx dx by_ dy ex gx ey gy w' hB hE => same13_any (clnO (opAt L k)) bx dx by_ dy ex gx ey gy w' hB hE hc.1 hc.2
      have HNX := hide (show (if k = 0 then txt (wantB L k) else txt (wantB L k) ++ ⟨#[59]⟩) ++ wordT (opAt L k) = txt (wantB L (k + 1)) by
        by_cases e : k = 0
        · subst e
          rw [if_pos rfl]
          exact want_first L
        · rw [if_neg e]
          exact want_next L k e)
      have HMB := hide (all_next hkL)
      obtain ⟨Wn, hWn⟩ : ∃ x, txt (wantB L (k + 1)) = x := ⟨_, rfl⟩
      obtain ⟨mb2, hmb2⟩ : ∃ x, allW (L.take (k + 1)) = x := ⟨_, rfl⟩
      rw [hWn] at HNX
      rw [hmb2] at HMB
      have HWN := hide hWn
      have HMB2 := hide hmb2
      unfold wordC at CWP
      generalize clnO (opAt L k) = c at CC CDC CS
      unfold opV at CR CWD CWP CC CDC CS
      clear hF l1 l2 ga g6 KW6 hc hb hkL hWn hmb2
      generalize txt (wantB L k) = Wt at *
      generalize wordT (opAt L k) = T at *
      generalize mayW (opAt L k) = mw at *
      generalize allW (L.take k) = mb at *
      generalize (opAt L k).kd = kd at *
      generalize (opAt L k).bd = bo at *
      generalize (opAt L k).sg = sg at *
      generalize (opAt L k).rd = rd at *
      generalize (opAt L k).xs.length = nx at *
      generalize (opAt L k).ys.length = ny at *
      generalize (opAt L k).fl = fl at *
      generalize (opAt L k).wd = wd at *
      generalize (opAt L k).ht = ht at *
      generalize c.kd = kd2 at *
      generalize c.bd = bo2 at *
      generalize c.sg = sg2 at *
      generalize c.rd = rd2 at *
      generalize c.xs.length = nx2 at *
      generalize c.ys.length = ny2 at *
      generalize c.fl = fl2 at *
      generalize c.wd = wd2 at *
      generalize c.ht = ht2 at *
      cases mw with
      | true =>
        rw [if_pos rfl] at CWP
        go_upto_region 9 with (first
          | (go_at_call 9; (with_reducible refine (CWD _ D1.out).mono ?_); rintro e w2 ⟨rfl, b2⟩; have D2 := hide (bt D1.out b2); obtain ⟨a0, a1, a2, a3, a4, a5, a6, a7, a8⟩ := P0.out _ D2.out; clear D1 b2)
          | (go_at_call 10; (with_reducible refine (CR _).mono ?_); rintro e w1 ⟨rfl, b1⟩; have D1 := hide b1; clear b1)
          | (go_at_call 11; (with_reducible refine (CWP _ D2.out).mono ?_); rintro e w3 ⟨rfl, b3⟩; have D3 := hide (bt D2.out b3); have P3 := hide (P0.out _ D3.out); clear a0 a1 a2 a3 a4 a5 a6 a7 a8 D2 b3))
        obtain ⟨g0, g1, g2, g3, g4, g5, g6, g7, g8⟩ := P3.out
        have gl := cell_ltL g0
        clear z0 z1 z2 z3 z4 z5 z6 z7 z8
        first | go_region_held_law (fun w' => w'.cell? ⟨wr.heap.size, 0, none⟩ = some (.int .i64 kd) ∧ w'.cell? ⟨wr.heap.size, 1, none⟩ = some (.int .i64 bo) ∧ w'.cell? ⟨wr.heap.size, 2, none⟩ = some (.int .i64 sg) ∧ w'.cell? ⟨wr.heap.size, 3, none⟩ = some (.int .i64 rd) ∧ w'.cell? ⟨wr.heap.size, 4, none⟩ = some (.slice ax nx cx) ∧ w'.cell? ⟨wr.heap.size, 5, none⟩ = some (.slice ay ny cy) ∧ w'.cell? ⟨wr.heap.size, 6, none⟩ = some (.int .i64 fl) ∧ w'.cell? ⟨wr.heap.size, 7, none⟩ = some (.int .i64 wd) ∧ w'.cell? ⟨wr.heap.size, 8, none⟩ = some (.int .i64 ht)) (first | assumption | go_keep)
          (first
            | (go_at_call 13; (with_reducible refine (CC _ (bd D3.out)).mono ?_); rintro e w7 ⟨⟨ex, gx, ey, gy, rfl, hE7⟩, b7⟩; have D7 := hide (bt (bd D3.out) b7); have HE7 := hide hE7; have y7 := P0.out _ D7.out; unfold P9 at y7; clear hE7 b7)
            | (go_at_call 10; (with_reducible refine (CR _).mono ?_); rintro e w8 ⟨rfl, b8⟩; have D8 := hide (bt D7.out b8); have HE8 := hide (HE7.out.below b8); have y8 := P0.out _ D8.out; unfold P9 at y8; clear b8)
            | (go_at_call 14; (with_reducible refine (CDC _ D8.out).mono ?_); rintro e w9 ⟨⟨fx, hx, fy, hy, rfl, hE9⟩, b9⟩; have D9 := hide (bt D8.out b9); have HE9 := hide (And.intro (HE8.out.below b9) hE9); have y9 := P0.out _ D9.out; unfold P9 at y9; clear hE9 b9)
            | (go_at_call 12; (with_reducible refine (CS _ _ _ _ _ _ _ _ _ HE9.out.1 HE9.out.2).mono ?_); rintro e w10 ⟨rfl, b10⟩; have D10 := hide (bt D9.out b10); have y10 := P0.out _ D10.out; unfold P9 at y10; clear b10)) | fail
        all_goals
          have BZ := hide (bt HB.out (bt B6.out D10.out))
          clear HE7 HE8 HE9 D7 D8 D9 D3 P3 CC CDC CS CR CWD CWP
          by_cases hk0 : k = 0
          · subst hk0
            rw [if_pos rfl] at HNX
            cases mb with
            | true =>
              obtain rfl : mb2 = true := HMB.out
              go_wp2
              go_roundw
              case rel => exact ⟨0 + 1, by omega, by go_num, by rw [HNX.out, HWN.out], by rw [HMB2.out], BZ.out⟩
              case measure => simp [intOf]; omega
            | false =>
              obtain rfl : mb2 = false := HMB.out
              go_wp2
              go_roundw
              case rel => exact ⟨0 + 1, by omega, by go_num, by rw [HNX.out, HWN.out], by rw [HMB2.out], BZ.out⟩
              case measure => simp [intOf]; omega
          · rw [if_neg hk0] at HNX
            have hkp : (0 : Int) < (k : Int) := by omega
            cases mb with
            | true =>
              obtain rfl : mb2 = true := HMB.out
              go_wp2
              go_roundw
              case rel => exact ⟨k + 1, by omega, by go_num, by rw [HNX.out, HWN.out], by rw [HMB2.out], BZ.out⟩
              case measure => simp [intOf]; omega
            | false =>
              obtain rfl : mb2 = false := HMB.out
              go_wp2
              go_roundw
              case rel => exact ⟨k + 1, by omega, by go_num, by rw [HNX.out, HWN.out], by rw [HMB2.out], BZ.out⟩
              case measure => simp [intOf]; omega
      | false =>
        rw [if_neg (by decide)] at CWP
        go_upto_region 9 with (first
          | (go_at_call 9; (with_reducible refine (CWD _ D1.out).mono ?_); rintro e w2 ⟨rfl, b2⟩; have D2 := hide (bt D1.out b2); obtain ⟨a0, a1, a2, a3, a4, a5, a6, a7, a8⟩ := P0.out _ D2.out; clear D1 b2)
          | (go_at_call 10; (with_reducible refine (CR _).mono ?_); rintro e w1 ⟨rfl, b1⟩; have D1 := hide b1; clear b1)
          | (go_at_call 11; (with_reducible refine (CWP _ D2.out).mono ?_); rintro e w3 ⟨rfl, b3⟩; have D3 := hide (bt D2.out b3); have P3 := hide (P0.out _ D3.out); clear a0 a1 a2 a3 a4 a5 a6 a7 a8 D2 b3))
        obtain ⟨g0, g1, g2, g3, g4, g5, g6, g7, g8⟩ := P3.out
        have gl := cell_ltL g0
        clear z0 z1 z2 z3 z4 z5 z6 z7 z8
        go_region_held3 (fun w' => w'.cell? ⟨wr.heap.size, 0, none⟩ = some (.int .i64 kd) ∧ w'.cell? ⟨wr.heap.size, 1, none⟩ = some (.int .i64 bo) ∧ w'.cell? ⟨wr.heap.size, 2, none⟩ = some (.int .i64 sg) ∧ w'.cell? ⟨wr.heap.size, 3, none⟩ = some (.int .i64 rd) ∧ w'.cell? ⟨wr.heap.size, 4, none⟩ = some (.slice ax nx cx) ∧ w'.cell? ⟨wr.heap.size, 5, none⟩ = some (.slice ay ny cy) ∧ w'.cell? ⟨wr.heap.size, 6, none⟩ = some (.int .i64 fl) ∧ w'.cell? ⟨wr.heap.size, 7, none⟩ = some (.int .i64 wd) ∧ w'.cell? ⟨wr.heap.size, 8, none⟩ = some (.int .i64 ht)) (first | assumption | go_keep)
          (first
            | (go_at_call 13; (with_reducible refine (CC _ (bd D3.out)).mono ?_); rintro e w7 ⟨⟨ex, gx, ey, gy, rfl, hE7⟩, b7⟩; have D7 := hide (bt (bd D3.out) b7); have HE7 := hide hE7; have y7 := P0.out _ D7.out; unfold P9 at y7; clear hE7 b7)
            | (go_at_call 10; (with_reducible refine (CR _).mono ?_); rintro e w8 ⟨rfl, b8⟩; have D8 := hide (bt D7.out b8); have HE8 := hide (HE7.out.below b8); have y8 := P0.out _ D8.out; unfold P9 at y8; clear b8)
            | (go_at_call 14; (with_reducible refine (CDC _ D8.out).mono ?_); rintro e w9 ⟨⟨fx, hx, fy, hy, rfl, hE9⟩, b9⟩; have D9 := hide (bt D8.out b9); have HE9 := hide (And.intro (HE8.out.below b9) hE9); have y9 := P0.out _ D9.out; unfold P9 at y9; clear hE9 b9)
            | (go_at_call 12; (with_reducible refine (CS _ _ _ _ _ _ _ _ _ HE9.out.1 HE9.out.2).mono ?_); rintro e w10 ⟨rfl, b10⟩; have D10 := hide (bt D9.out b10); have y10 := P0.out _ D10.out; unfold P9 at y10; clear b10))
        all_goals
          have BZ := hide (bt HB.out (bt B6.out D10.out))
          clear HE7 HE8 HE9 D7 D8 D9 D3 P3 CC CDC CS CR CWD CWP
          by_cases hk0 : k = 0
          · subst hk0
            rw [if_pos rfl] at HNX
            cases mb with
            | true =>
              obtain rfl : mb2 = false := HMB.out
              go_wp2
              go_roundw
              case rel => exact ⟨0 + 1, by omega, by go_num, by rw [HNX.out, HWN.out], by rw [HMB2.out], BZ.out⟩
              case measure => simp [intOf]; omega
            | false =>
              obtain rfl : mb2 = false := HMB.out
              go_wp2
              go_roundw
              case rel => exact ⟨0 + 1, by omega, by go_num, by rw [HNX.out, HWN.out], by rw [HMB2.out], BZ.out⟩
              case measure => simp [intOf]; omega
          · rw [if_neg hk0] at HNX
            have hkp : (0 : Int) < (k : Int) := by omega
            cases mb with
            | true =>
              obtain rfl : mb2 = false := HMB.out
              go_wp2
              go_roundw
              case rel => exact ⟨k + 1, by omega, by go_num, by rw [HNX.out, HWN.out], by rw [HMB2.out], BZ.out⟩
              case measure => simp [intOf]; omega
            | false =>
              obtain rfl : mb2 = false := HMB.out
              go_wp2
              go_roundw
              case rel => exact ⟨k + 1, by omega, by go_num, by rw [HNX.out, HWN.out], by rw [HMB2.out], BZ.out⟩
              case measure => simp [intOf]; omega
    · obtain rfl : k = n := by omega
      have hLn : L.take k = L := by rw [← HN.out, List.take_length]
      rw [hLn] at hbb
      have CPR := fun w' (b : Below wr.heap.size wr w') => print_any L k HN.out (by omega) ad cap w' ((HR.out.below hb).below b) (fun o ho => (HSA.out o ho).lit) (kp_below HK.out (bt hb b)).1
      have hwz : wantB L k = printB (L.take k) → True := fun _ => trivial
      clear hwz
      cases hall : allW L with
      | false =>
        rw [hall] at hbb
        subst hbb ha
        have e1 : printT L = ⟨#[]⟩ := by unfold printT; rw [hall]; rfl
        have e2 : printC L = 6 := by unfold printC; rw [hall]; rfl
        rw [e1, e2] at CPR
        clear hall e1 e2 hLn
        generalize txt (wantB L k) = Wt at *
        go_wp2_with (go_at_call 15; (with_reducible refine (CPR _ (Below.refl _ _)).mono ?_); rintro e w6 ⟨rfl, b6⟩; have B6 := hide (bt HB.out b6); clear b6)
        exact bodyPost_ret (v := .bool true) (by simp [results, Tryd.results3, go_sem]) rfl ⟨rfl, B6.out⟩
      | true =>
        rw [hall] at hbb
        have hwant : wantB L k = printB L := by
          have := want_all (L := L) (k := k) (by rw [HN.out]; exact Nat.le_refl _) (by rw [hLn]; exact hall)
          rw [hLn] at this
          exact this
        rw [hwant] at ha
        subst hbb ha
        have e1 : printT L = txt (printB L) := by unfold printT; rw [if_pos hall]
        have e2 : printC L = 0 := by unfold printC; rw [if_pos hall]
        rw [e1, e2] at CPR
        have hsz : (txt (printB L)).size ≤ 100000 := by
          rw [← hwant, txt_size (want_byts L k)]
          have := HWL.out k (Nat.le_refl _)
          omega
        obtain ⟨f, hf⟩ := one_of
        have hpp : parseW f (byt (txt (printB L))) = (L.map clnO, true) := by
          rw [byt_txt (byts_print L)]
          exact parse_print hf fun o ho => ⟨by
            have := allW_at.1 hall
            obtain ⟨j, hj, e⟩ := List.getElem_of_mem ho
            have h2 := this j hj
            rw [show opAt L j = o from by unfold opAt; rw [List.getD_eq_getElem?_getD, List.getElem?_eq_getElem hj]; exact e] at h2
            exact h2, fit_cln (HSA.out o ho).1⟩
        have CPA := fun w' (b : Below wr.heap.size wr w') => pparse_any f hf (txt (printB L)) hsz w' (kp_below HK.out (bt hb b))
        unfold PParseAns at CPA
        rw [hpp] at CPA
        simp only [List.length_map, HN.out, if_true] at CPA
        clear hall e1 e2 hLn hwant hpp hsz hf
        generalize txt (printB L) = Wt at *
        have HR2 := hide (HR.out.below hb)
        go_wp2_with (first
          | (go_at_call 15; (with_reducible refine (CPR _ (Below.refl _ _)).mono ?_); rintro e w6 ⟨rfl, b6⟩; have B6 := hide b6; clear b6)
          | (go_at_call 16; (with_reducible refine (CPA _ B6.out).mono ?_); rintro e w7 ⟨⟨ad2, cap2, rfl, hr2, hz2⟩, b7⟩; have B7 := hide (bt B6.out b7); have HS := hide hr2; clear b7 hr2 hz2))
        clear CPR CPA
        have HOA := hide (fun (j : Nat) (hj : j < k) => show opAt (L.map clnO) j = clnO (opAt L j) from by
          unfold opAt
          rw [List.getD_eq_getElem?_getD, List.getD_eq_getElem?_getD, List.getElem?_map]
          have hj2 : j < L.length := by rw [HN.out]; exact hj
          rw [List.getElem?_eq_getElem hj2]
          rfl)
        have HLN := hide (show (L.map clnO).length = k by rw [List.length_map]; exact HN.out)
        go_loopw [124] (fun i wr => ∃ j : Nat, j ≤ k ∧ i = .int .i64 (j : Int) ∧ Below w7.heap.size w7 wr) (fun i _ => k - (intOf i).toNat)
        case atStart => exact ⟨0, by omega, rfl, Below.refl _ _⟩
        case round =>
          obtain ⟨j, hj, rfl, hb2⟩ := hrel
          have HB2 := hide hb2
          by_cases hlt2 : j < k
          · obtain ⟨b, off, rfl, h⟩ := ((HS.out).below hb2).get (show j < (L.map clnO).length by rw [HLN.out]; exact hlt2)
            rw [HOA.out j hlt2] at h
            obtain ⟨g0, g1, g2, g3, g6, g7, g8, bx, dx, by_, dy, g4, g5, ga⟩ := h
            obtain ⟨b2, off2, rfl, h2⟩ := ((HR2.out.below B7.out).below hb2).get (show j < L.length by rw [HN.out]; exact hlt2)
            obtain ⟨i0, i1, i2, i3, i6, i7, i8, ax, cx, ay, cy, i4, i5, ia⟩ := h2
            obtain ⟨hF, l1, l2⟩ := HSM.out j hlt2
            have hc := cln_len (o := opAt L j) (n := 1000000) (by omega) (by omega)
            have CR := fun w' => ref13_any (opAt L j) ax cx ay cy w'
            have CDC := fun w' (b : Below wr.heap.size wr w') => dclean_any (opAt L j) ax cx ay cy w' (ia.below b)
            have CS := fun ex gx ey gy w' hE (b : Below wr.heap.size wr w') => same13_any (clnO (opAt L j)) bx dx by_ dy ex gx ey gy w' (ga.below b) hE hc.1 hc.2
            generalize clnO (opAt L j) = c at *
            unfold opV at CR CDC CS
            clear hF l1 l2 ga ia hc hb2
            generalize (opAt L j).kd = kd at *
            generalize (opAt L j).bd = bo at *
            generalize (opAt L j).sg = sg at *
            generalize (opAt L j).rd = rd at *
            generalize (opAt L j).xs.length = nx at *
            generalize (opAt L j).ys.length = ny at *
            generalize (opAt L j).fl = fl at *
            generalize (opAt L j).wd = wd at *
            generalize (opAt L j).ht = ht at *
            generalize c.kd = kd2 at *
            generalize c.bd = bo2 at *
            generalize c.sg = sg2 at *
            generalize c.rd = rd2 at *
            generalize c.xs.length = nx2 at *
            generalize c.ys.length = ny2 at *
            generalize c.fl = fl2 at *
            generalize c.wd = wd2 at *
            generalize c.ht = ht2 at *
            have P0 := hide (fun (w' : World) (bw : Below wr.heap.size wr w') => And.intro (cb bw (cell_ltL g0) g0) (And.intro (cb bw (cell_ltL g1) g1) (And.intro (cb bw (cell_ltL g2) g2) (And.intro (cb bw (cell_ltL g3) g3) (And.intro (cb bw (cell_ltL g4) g4) (And.intro (cb bw (cell_ltL g5) g5) (And.intro (cb bw (cell_ltL g6) g6) (And.intro (cb bw (cell_ltL g7) g7) (And.intro (cb bw (cell_ltL g8) g8) (And.intro (cb bw (cell_ltL i0) i0) (And.intro (cb bw (cell_ltL i1) i1) (And.intro (cb bw (cell_ltL i2) i2) (And.intro (cb bw (cell_ltL i3) i3) (And.intro (cb bw (cell_ltL i4) i4) (And.intro (cb bw (cell_ltL i5) i5) (And.intro (cb bw (cell_ltL i6) i6) (And.intro (cb bw (cell_ltL i7) i7) (cb bw (cell_ltL i8) i8))))))))))))))))))
            go_upto_region 25 with fail
            go_region_held3 (fun w' => w'.cell? ⟨b, off + j * 9, none⟩ = some (.int .i64 kd2) ∧ w'.cell? ⟨b, off + j * 9 + 1, none⟩ = some (.int .i64 bo2) ∧ w'.cell? ⟨b, off + j * 9 + 2, none⟩ = some (.int .i64 sg2) ∧ w'.cell? ⟨b, off + j * 9 + 3, none⟩ = some (.int .i64 rd2) ∧ w'.cell? ⟨b, off + j * 9 + 4, none⟩ = some (.slice bx nx2 dx) ∧ w'.cell? ⟨b, off + j * 9 + 5, none⟩ = some (.slice by_ ny2 dy) ∧ w'.cell? ⟨b, off + j * 9 + 6, none⟩ = some (.int .i64 fl2) ∧ w'.cell? ⟨b, off + j * 9 + 7, none⟩ = some (.int .i64 wd2) ∧ w'.cell? ⟨b, off + j * 9 + 8, none⟩ = some (.int .i64 ht2) ∧ w'.cell? ⟨b2, off2 + j * 9, none⟩ = some (.int .i64 kd) ∧ w'.cell? ⟨b2, off2 + j * 9 + 1, none⟩ = some (.int .i64 bo) ∧ w'.cell? ⟨b2, off2 + j * 9 + 2, none⟩ = some (.int .i64 sg) ∧ w'.cell? ⟨b2, off2 + j * 9 + 3, none⟩ = some (.int .i64 rd) ∧ w'.cell? ⟨b2, off2 + j * 9 + 4, none⟩ = some (.slice ax nx cx) ∧ w'.cell? ⟨b2, off2 + j * 9 + 5, none⟩ = some (.slice ay ny cy) ∧ w'.cell? ⟨b2, off2 + j * 9 + 6, none⟩ = some (.int .i64 fl) ∧ w'.cell? ⟨b2, off2 + j * 9 + 7, none⟩ = some (.int .i64 wd) ∧ w'.cell? ⟨b2, off2 + j * 9 + 8, none⟩ = some (.int .i64 ht)) (first | assumption | go_keep)
              (first
                | (go_at_call 10; (with_reducible refine (CR _).mono ?_); rintro e w8 ⟨rfl, b8⟩; have D8 := hide (bt (bd (Below.refl wr.heap.size wr)) b8); have y8 := P0.out _ D8.out; clear b8)
                | (go_at_call 14; (with_reducible refine (CDC _ D8.out).mono ?_); rintro e w9 ⟨⟨fx, hx, fy, hy, rfl, hE9⟩, b9⟩; have D9 := hide (bt D8.out b9); have HE9 := hide hE9; have y9 := P0.out _ D9.out; clear hE9 b9)
                | (go_at_call 12; (with_reducible refine (CS _ _ _ _ _ HE9.out D9.out).mono ?_); rintro e w10 ⟨rfl, b10⟩; have D10 := hide (bt D9.out b10); have y10 := P0.out _ D10.out; clear b10))
            all_goals
              have BZ := hide (bt HB2.out D10.out)
              clear D8 D9 HE9 P0 CR CDC CS
              go_wp2
              go_roundw
              case rel => exact ⟨j + 1, by omega, by go_num, BZ.out⟩
              case measure => simp [intOf]; omega
          · obtain rfl : j = k := by omega
            go_wp2
            exact bodyPost_ret (v := .bool true) (by simp [results, Tryd.results3, go_sem]) rfl ⟨rfl, bt (bt HB.out B7.out) HB2.out⟩
end Go.Proofs.YtlknopmpbkepjaaDoor
