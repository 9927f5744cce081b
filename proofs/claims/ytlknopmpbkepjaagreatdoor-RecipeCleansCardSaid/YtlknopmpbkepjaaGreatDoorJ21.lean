/- Parts, joined. -/
import Derived.Test.YtlknopmpbkepjaaGreatDoorJ20
import Derived.Test.YtlknopmpbkepjaaGreatDoorJ19
/- Operations as texts: the program's Word. Written by gen_XS13Q.py. -/
namespace Go.Proofs.YtlknopmpbkepjaaGreatDoor
open Go.RowKit


theorem rune_ne {k : Int} (h : 0 ≤ k ∧ k ≤ 3) : (runeB k == 0) = false := beq_eq_false_iff_ne.2 fun e => by have := rune_at.1 e; omega
set_option maxHeartbeats 4000000 in
set_option maxRecDepth 100000 in
theorem word_kd (o : Opr) (ax : Option Addr) (cx : Nat) (ay : Option Addr) (cy : Nat) (w : World) (h : o.kd < 0 ∨ 3 < o.kd) (hN : NamesE w) :
    Calls Tryz.prog 13 #[opV o ax cx ay cy] w fun e w' => e = .returned (.tuple #[.string ⟨#[]⟩, .int .i64 6]) ∧ Below w.heap.size w w' := by
  have CS := fun w => sign_any o.kd w
  have CB := fun w' (b : Below w.heap.size w w') => bname_any o.bd w' (namesE_below hN b)
  rw [rune_at.2 h] at CS
  unfold opV
  obtain ⟨kd, bo, sg, rd, xs, ys, fl, wd, ht⟩ := o
  simp only at *
  clear h hN
  generalize txt (bordB bo) = B at *
  generalize xs.length = nx at *
  generalize ys.length = ny at *
  have HP := hide (P9.new w 27 kd bo sg rd (.slice ax nx cx) (.slice ay ny cy) fl wd ht)
  go_enter Tryz.func13, Tryz.ntmps13
  go_upto_region 1 with fail
  obtain ⟨W0, hW0⟩ : ∃ W0, w.alloc (.cells #[.int .i64 kd, .int .i64 bo, .int .i64 sg, .int .i64 rd, .slice ax nx cx, .slice ay ny cy, .int .i64 fl, .int .i64 wd, .int .i64 ht] 27) = W0 := ⟨_, rfl⟩
  rw [hW0] at HP
  have HB0 := hide (show Below w.heap.size w W0 by rw [← hW0]; exact below1 _ _)
  simp only [hW0]
  clear hW0
  obtain ⟨g0, g1, g2, g3, g4, g5, g6, g7, g8⟩ := HP.out
  have gl := cell_ltL g0
  have S8 := hide (show ∀ w', Below W0.heap.size W0 w' → P9 w' w.heap.size kd bo sg rd (.slice ax nx cx) (.slice ay ny cy) fl wd ht from fun w' b => HP.out.below b)
  clear g2 g3 g4 g5 g6 g7 g8
  go_region_held3 (fun w' => w'.cell? ⟨w.heap.size, 0, none⟩ = some (.int .i64 kd) ∧ w'.cell? ⟨w.heap.size, 1, none⟩ = some (.int .i64 bo)) (first | assumption | go_keep)
    (first
      | (go_at_call 21; (with_reducible refine (CS _).mono ?_); rintro e w2 ⟨rfl, b2⟩; have B2 := hide (bt (bd (Below.refl W0.heap.size W0)) b2); have y2 := And.intro (cb B2.out gl g0) (cb B2.out gl g1))
      | (go_at_call 16; (with_reducible refine (CB _ (bt HB0.out B2.out)).mono ?_); rintro e w3 ⟨rfl, rfl⟩)
      | (go_at_call 16; (with_reducible refine (CB _ (bd HB0.out)).mono ?_); rintro e w3 ⟨rfl, rfl⟩))
  all_goals
    have BZ := hide (bt HB0.out B2.out)
    obtain ⟨p0, p1, p2, p3, p4, p5, p6, p7, p8⟩ := S8.out _ B2.out
    clear y2 b2 CS g0 g1 S8
    clear CB
    go_wp2
    exact bodyPost_ret (v := .tuple #[.string ⟨#[]⟩, .int .i64 6]) (by simp [results, Tryz.results13, go_sem]) rfl ⟨rfl, BZ.out⟩
set_option maxHeartbeats 4000000 in
set_option maxRecDepth 100000 in
theorem word_bd (o : Opr) (ax : Option Addr) (cx : Nat) (ay : Option Addr) (cy : Nat) (w : World) (hk : 0 ≤ o.kd ∧ o.kd ≤ 3) (h : o.bd < 0 ∨ 2 < o.bd) (hN : NamesE w) :
    Calls Tryz.prog 13 #[opV o ax cx ay cy] w fun e w' => e = .returned (.tuple #[.string ⟨#[]⟩, .int .i64 6]) ∧ Below w.heap.size w w' := by
  have CS := fun w => sign_any o.kd w
  have CB := fun w' (b : Below w.heap.size w w') => bname_any o.bd w' (namesE_below hN b)
  rw [bord_nil h, txt_nil] at CB
  have hR := rune_ne hk
  unfold opV
  obtain ⟨kd, bo, sg, rd, xs, ys, fl, wd, ht⟩ := o
  simp only at *
  clear h hN hk
  generalize runeB kd = R at *
  generalize xs.length = nx at *
  generalize ys.length = ny at *
  have HP := hide (P9.new w 27 kd bo sg rd (.slice ax nx cx) (.slice ay ny cy) fl wd ht)
  go_enter Tryz.func13, Tryz.ntmps13
  go_upto_region 1 with fail
  obtain ⟨W0, hW0⟩ : ∃ W0, w.alloc (.cells #[.int .i64 kd, .int .i64 bo, .int .i64 sg, .int .i64 rd, .slice ax nx cx, .slice ay ny cy, .int .i64 fl, .int .i64 wd, .int .i64 ht] 27) = W0 := ⟨_, rfl⟩
  rw [hW0] at HP
  have HB0 := hide (show Below w.heap.size w W0 by rw [← hW0]; exact below1 _ _)
  simp only [hW0]
  clear hW0
  obtain ⟨g0, g1, g2, g3, g4, g5, g6, g7, g8⟩ := HP.out
  have gl := cell_ltL g0
  have S8 := hide (show ∀ w', Below W0.heap.size W0 w' → P9 w' w.heap.size kd bo sg rd (.slice ax nx cx) (.slice ay ny cy) fl wd ht from fun w' b => HP.out.below b)
  clear g2 g3 g4 g5 g6 g7 g8
  go_region_held3 (fun w' => w'.cell? ⟨w.heap.size, 0, none⟩ = some (.int .i64 kd) ∧ w'.cell? ⟨w.heap.size, 1, none⟩ = some (.int .i64 bo)) (first | assumption | go_keep)
    (first
      | (go_at_call 21; (with_reducible refine (CS _).mono ?_); rintro e w2 ⟨rfl, b2⟩; have B2 := hide (bt (bd (Below.refl W0.heap.size W0)) b2); have y2 := And.intro (cb B2.out gl g0) (cb B2.out gl g1))
      | (go_at_call 16; (with_reducible refine (CB _ (bt HB0.out B2.out)).mono ?_); rintro e w3 ⟨rfl, rfl⟩)
      | (go_at_call 16; (with_reducible refine (CB _ (bd HB0.out)).mono ?_); rintro e w3 ⟨rfl, rfl⟩))
  all_goals
    have BZ := hide (bt HB0.out B2.out)
    obtain ⟨p0, p1, p2, p3, p4, p5, p6, p7, p8⟩ := S8.out _ B2.out
    clear y2 b2 CS g0 g1 S8
    clear CB
    go_wp2
    exact bodyPost_ret (v := .tuple #[.string ⟨#[]⟩, .int .i64 6]) (by simp [results, Tryz.results13, go_sem]) rfl ⟨rfl, BZ.out⟩
set_option maxHeartbeats 4000000 in
set_option maxRecDepth 100000 in
theorem word_fl (o : Opr) (ax : Option Addr) (cx : Nat) (ay : Option Addr) (cy : Nat) (w : World) (hk : o.kd = 3) (hb : 0 ≤ o.bd ∧ o.bd ≤ 2) (h : o.fl < 0 ∨ 2 < o.fl) (hN : NamesE w) (hK : Kinds w) :
    Calls Tryz.prog 13 #[opV o ax cx ay cy] w fun e w' => e = .returned (.tuple #[.string ⟨#[]⟩, .int .i64 6]) ∧ Below w.heap.size w w' := by
  have CS := fun w => sign_any o.kd w
  have CB := fun w' (b : Below w.heap.size w w') => bname_any o.bd w' (namesE_below hN b)
  have CF := fun w' (b : Below w.heap.size w w') => fname_any o.fl w' (kinds_below hK b)
  rw [filt_nil h, txt_nil] at CF
  have hR := rune_ne (k := o.kd) (by omega)
  have e2 := isEmpty_no (byts_bord o.bd) (bord_ne hb)
  unfold opV
  obtain ⟨kd, bo, sg, rd, xs, ys, fl, wd, ht⟩ := o
  simp only at *
  subst hk
  clear h hN hb hK
  generalize runeB 3 = R at *
  generalize txt (bordB bo) = B at *
  generalize xs.length = nx at *
  generalize ys.length = ny at *
  have HP := hide (P9.new w 27 3 bo sg rd (.slice ax nx cx) (.slice ay ny cy) fl wd ht)
  go_enter Tryz.func13, Tryz.ntmps13
  go_upto_region 1 with fail
  obtain ⟨W0, hW0⟩ : ∃ W0, w.alloc (.cells #[.int .i64 3, .int .i64 bo, .int .i64 sg, .int .i64 rd, .slice ax nx cx, .slice ay ny cy, .int .i64 fl, .int .i64 wd, .int .i64 ht] 27) = W0 := ⟨_, rfl⟩
  rw [hW0] at HP
  have HB0 := hide (show Below w.heap.size w W0 by rw [← hW0]; exact below1 _ _)
  simp only [hW0]
  clear hW0
  obtain ⟨g0, g1, g2, g3, g4, g5, g6, g7, g8⟩ := HP.out
  have gl := cell_ltL g0
  have S8 := hide (show ∀ w', Below W0.heap.size W0 w' → P9 w' w.heap.size 3 bo sg rd (.slice ax nx cx) (.slice ay ny cy) fl wd ht from fun w' b => HP.out.below b)
  clear g2 g3 g4 g5 g6 g7 g8
  go_region_held3 (fun w' => w'.cell? ⟨w.heap.size, 0, none⟩ = some (.int .i64 3) ∧ w'.cell? ⟨w.heap.size, 1, none⟩ = some (.int .i64 bo)) (first | assumption | go_keep)
    (first
      | (go_at_call 21; (with_reducible refine (CS _).mono ?_); rintro e w2 ⟨rfl, b2⟩; have B2 := hide (bt (bd (Below.refl W0.heap.size W0)) b2); have y2 := And.intro (cb B2.out gl g0) (cb B2.out gl g1))
      | (go_at_call 16; (with_reducible refine (CB _ (bt HB0.out B2.out)).mono ?_); rintro e w3 ⟨rfl, rfl⟩)
      | (go_at_call 16; (with_reducible refine (CB _ (bd HB0.out)).mono ?_); rintro e w3 ⟨rfl, rfl⟩))
  all_goals
    have BZ := hide (bt HB0.out B2.out)
    obtain ⟨p0, p1, p2, p3, p4, p5, p6, p7, p8⟩ := S8.out _ B2.out
    clear y2 b2 CS g0 g1 S8
    clear CB
    go_wp2_with (go_at_call 22; (with_reducible refine (CF _ BZ.out).mono ?_); rintro e w3 ⟨rfl, rfl⟩)
    exact bodyPost_ret (v := .tuple #[.string ⟨#[]⟩, .int .i64 6]) (by simp [results, Tryz.results13, go_sem]) rfl ⟨rfl, BZ.out⟩
set_option maxHeartbeats 4000000 in
set_option maxRecDepth 100000 in
theorem word_ok3 (o : Opr) (ax : Option Addr) (cx : Nat) (ay : Option Addr) (cy : Nat) (w : World) (h : mayW o = true) (hF : FitW o) (hA : OpAt w o ax cx ay cy) (l1 : o.xs.length ≤ 1000) (l2 : o.ys.length ≤ 1000) (k3 : o.kd = 3) (hP : Pow10 w) (hK : Kinds w) (hN : NamesE w) :
    Calls Tryz.prog 13 #[opV o ax cx ay cy] w fun e w' => e = .returned (.tuple #[.string (txt (wordB o)), .int .i64 0]) ∧ Below w.heap.size w w' := by
  obtain ⟨k0, k1, b0, b1, hf⟩ := mayW_iff.1 h
  have CS := fun w => sign_any o.kd w
  have CB := fun w' (b : Below w.heap.size w w') => bname_any o.bd w' (namesE_below hN b)
  have CY := fun w' (b : Below w.heap.size w w') => body_any o ax cx ay cy w' ⟨k0, k1⟩ hF (hA.below b) l1 l2 (pow10_below w w' hP b) (kinds_below hK b)
  have hR := rune_ne (k := o.kd) ⟨k0, k1⟩
  have e2 := isEmpty_no (byts_bord o.bd) (bord_ne ⟨b0, b1⟩)
  have hcv := sgn_conv ⟨k0, k1⟩
  have s1 : (txt (sgnB o.kd)).size ≤ 3 := by rw [txt_size (byts_sgn _)]; exact sgn_len _
  have s2 : (txt (bordB o.bd)).size ≤ 6 := by rw [txt_size (byts_bord _)]; exact bord_len _
  have s3 : (txt (bodyB o)).size ≤ 42050 := by rw [txt_size (byts_body _)]; have := body_len hF; omega
  have HW := hide (word_txt o)
  have CF := fun w' (b : Below w.heap.size w w') => fname_any o.fl w' (kinds_below hK b)
  have e3 := isEmpty_no (byts_filt o.fl) (filt_ne (hf k3))
  unfold opV at CY ⊢
  generalize txt (wordB o) = T at *
  generalize txt (bodyB o) = BD at *
  obtain ⟨kd, bo, sg, rd, xs, ys, fl, wd, ht⟩ := o
  simp only at *
  subst k3
  clear h hF hA hP hK hN k0 k1 b0 b1 hf l1 l2
  generalize runeB 3 = R at *
  generalize txt (sgnB 3) = S at *
  generalize txt (bordB bo) = B at *
  generalize txt (filtB fl) = F at *
  generalize xs.length = nx at *
  generalize ys.length = ny at *
  have HP := hide (P9.new w 27 3 bo sg rd (.slice ax nx cx) (.slice ay ny cy) fl wd ht)
  go_enter Tryz.func13, Tryz.ntmps13
  go_upto_region 1 with fail
  obtain ⟨W0, hW0⟩ : ∃ W0, w.alloc (.cells #[.int .i64 3, .int .i64 bo, .int .i64 sg, .int .i64 rd, .slice ax nx cx, .slice ay ny cy, .int .i64 fl, .int .i64 wd, .int .i64 ht] 27) = W0 := ⟨_, rfl⟩
  rw [hW0] at HP
  have HB0 := hide (show Below w.heap.size w W0 by rw [← hW0]; exact below1 _ _)
  simp only [hW0]
  clear hW0
  obtain ⟨g0, g1, g2, g3, g4, g5, g6, g7, g8⟩ := HP.out
  have gl := cell_ltL g0
  have S8 := hide (show ∀ w', Below W0.heap.size W0 w' → P9 w' w.heap.size 3 bo sg rd (.slice ax nx cx) (.slice ay ny cy) fl wd ht from fun w' b => HP.out.below b)
  clear g2 g3 g4 g5 g6 g7 g8
  go_region_held3 (fun w' => w'.cell? ⟨w.heap.size, 0, none⟩ = some (.int .i64 3) ∧ w'.cell? ⟨w.heap.size, 1, none⟩ = some (.int .i64 bo)) (first | assumption | go_keep)
    (first
      | (go_at_call 21; (with_reducible refine (CS _).mono ?_); rintro e w2 ⟨rfl, b2⟩; have B2 := hide (bt (bd (Below.refl W0.heap.size W0)) b2); have y2 := And.intro (cb B2.out gl g0) (cb B2.out gl g1))
      | (go_at_call 16; (with_reducible refine (CB _ (bt HB0.out B2.out)).mono ?_); rintro e w3 ⟨rfl, rfl⟩)
      | (go_at_call 16; (with_reducible refine (CB _ (bd HB0.out)).mono ?_); rintro e w3 ⟨rfl, rfl⟩))
  all_goals
    have BZ := hide (bt HB0.out B2.out)
    obtain ⟨p0, p1, p2, p3, p4, p5, p6, p7, p8⟩ := S8.out _ B2.out
    clear y2 b2 CS g0 g1 S8
    clear CB
    go_wp2_with (first
      | (go_at_call 22; (with_reducible refine (CF _ BZ.out).mono ?_); rintro e w3 ⟨rfl, rfl⟩)
      | (go_at_call 23; (with_reducible refine (CY _ BZ.out).mono ?_); rintro e w4 ⟨rfl, b4⟩))
    exact bodyPost_ret (v := .tuple #[.string (S ++ BD ++ ⟨#[124]⟩ ++ B), .int .i64 0]) (by simp [results, Tryz.results13, go_sem]) rfl ⟨by rw [HW.out], bt BZ.out b4⟩
set_option maxHeartbeats 4000000 in
set_option maxRecDepth 100000 in
theorem word_ok2 (o : Opr) (ax : Option Addr) (cx : Nat) (ay : Option Addr) (cy : Nat) (w : World) (h : mayW o = true) (hF : FitW o) (hA : OpAt w o ax cx ay cy) (l1 : o.xs.length ≤ 1000) (l2 : o.ys.length ≤ 1000) (k3 : o.kd ≠ 3) (hP : Pow10 w) (hK : Kinds w) (hN : NamesE w) :
    Calls Tryz.prog 13 #[opV o ax cx ay cy] w fun e w' => e = .returned (.tuple #[.string (txt (wordB o)), .int .i64 0]) ∧ Below w.heap.size w w' := by
  obtain ⟨k0, k1, b0, b1, hf⟩ := mayW_iff.1 h
  have CS := fun w => sign_any o.kd w
  have CB := fun w' (b : Below w.heap.size w w') => bname_any o.bd w' (namesE_below hN b)
  have CY := fun w' (b : Below w.heap.size w w') => body_any o ax cx ay cy w' ⟨k0, k1⟩ hF (hA.below b) l1 l2 (pow10_below w w' hP b) (kinds_below hK b)
  have hR := rune_ne (k := o.kd) ⟨k0, k1⟩
  have e2 := isEmpty_no (byts_bord o.bd) (bord_ne ⟨b0, b1⟩)
  have hcv := sgn_conv ⟨k0, k1⟩
  have s1 : (txt (sgnB o.kd)).size ≤ 3 := by rw [txt_size (byts_sgn _)]; exact sgn_len _
  have s2 : (txt (bordB o.bd)).size ≤ 6 := by rw [txt_size (byts_bord _)]; exact bord_len _
  have s3 : (txt (bodyB o)).size ≤ 42050 := by rw [txt_size (byts_body _)]; have := body_len hF; omega
  have HW := hide (word_txt o)
  have hq : (o.kd == 3) = false := beq_eq_false_iff_ne.2 k3
  unfold opV at CY ⊢
  generalize txt (wordB o) = T at *
  generalize txt (bodyB o) = BD at *
  obtain ⟨kd, bo, sg, rd, xs, ys, fl, wd, ht⟩ := o
  simp only at *
  clear h hF hA hP hK hN k0 k1 b0 b1 hf l1 l2 k3
  generalize runeB kd = R at *
  generalize txt (sgnB kd) = S at *
  generalize txt (bordB bo) = B at *
  generalize xs.length = nx at *
  generalize ys.length = ny at *
  have HP := hide (P9.new w 27 kd bo sg rd (.slice ax nx cx) (.slice ay ny cy) fl wd ht)
  go_enter Tryz.func13, Tryz.ntmps13
  go_upto_region 1 with fail
  obtain ⟨W0, hW0⟩ : ∃ W0, w.alloc (.cells #[.int .i64 kd, .int .i64 bo, .int .i64 sg, .int .i64 rd, .slice ax nx cx, .slice ay ny cy, .int .i64 fl, .int .i64 wd, .int .i64 ht] 27) = W0 := ⟨_, rfl⟩
  rw [hW0] at HP
  have HB0 := hide (show Below w.heap.size w W0 by rw [← hW0]; exact below1 _ _)
  simp only [hW0]
  clear hW0
  obtain ⟨g0, g1, g2, g3, g4, g5, g6, g7, g8⟩ := HP.out
  have gl := cell_ltL g0
  have S8 := hide (show ∀ w', Below W0.heap.size W0 w' → P9 w' w.heap.size kd bo sg rd (.slice ax nx cx) (.slice ay ny cy) fl wd ht from fun w' b => HP.out.below b)
  clear g2 g3 g4 g5 g6 g7 g8
  go_region_held3 (fun w' => w'.cell? ⟨w.heap.size, 0, none⟩ = some (.int .i64 kd) ∧ w'.cell? ⟨w.heap.size, 1, none⟩ = some (.int .i64 bo)) (first | assumption | go_keep)
    (first
      | (go_at_call 21; (with_reducible refine (CS _).mono ?_); rintro e w2 ⟨rfl, b2⟩; have B2 := hide (bt (bd (Below.refl W0.heap.size W0)) b2); have y2 := And.intro (cb B2.out gl g0) (cb B2.out gl g1))
      | (go_at_call 16; (with_reducible refine (CB _ (bt HB0.out B2.out)).mono ?_); rintro e w3 ⟨rfl, rfl⟩)
      | (go_at_call 16; (with_reducible refine (CB _ (bd HB0.out)).mono ?_); rintro e w3 ⟨rfl, rfl⟩))
  all_goals
    have BZ := hide (bt HB0.out B2.out)
    obtain ⟨p0, p1, p2, p3, p4, p5, p6, p7, p8⟩ := S8.out _ B2.out
    clear y2 b2 CS g0 g1 S8
    clear CB
    go_wp2_with (go_at_call 23; (with_reducible refine (CY _ BZ.out).mono ?_); rintro e w4 ⟨rfl, b4⟩)
    exact bodyPost_ret (v := .tuple #[.string (S ++ BD ++ ⟨#[124]⟩ ++ B), .int .i64 0]) (by simp [results, Tryz.results13, go_sem]) rfl ⟨by rw [HW.out], bt BZ.out b4⟩
/-- What Word tells. -/
def wordC (o : Opr) : Int := if mayW o = true then 0 else 6
theorem word_any (o : Opr) (ax : Option Addr) (cx : Nat) (ay : Option Addr) (cy : Nat) (w : World) (hF : FitW o) (hA : OpAt w o ax cx ay cy) (l1 : o.xs.length ≤ 1000) (l2 : o.ys.length ≤ 1000) (hP : Pow10 w) (hK : Kinds w) (hN : NamesE w) :
    Calls Tryz.prog 13 #[opV o ax cx ay cy] w fun e w' => e = .returned (.tuple #[.string (wordT o), .int .i64 (wordC o)]) ∧ Below w.heap.size w w' := by
  unfold wordT wordC
  cases h : mayW o with
  | false =>
    have hn : ¬ (0 ≤ o.kd ∧ o.kd ≤ 3 ∧ 0 ≤ o.bd ∧ o.bd ≤ 2 ∧ (o.kd = 3 → 0 ≤ o.fl ∧ o.fl ≤ 2)) := fun g => by rw [mayW_iff.2 g] at h; cases h
    by_cases a1 : 0 ≤ o.kd ∧ o.kd ≤ 3
    · by_cases a2 : 0 ≤ o.bd ∧ o.bd ≤ 2
      · have k3 : o.kd = 3 := by
          by_cases k : o.kd = 3
          · exact k
          · exact absurd ⟨a1.1, a1.2, a2.1, a2.2, fun q => absurd q k⟩ hn
        have a3 : o.fl < 0 ∨ 2 < o.fl := by
          by_cases k : 0 ≤ o.fl ∧ o.fl ≤ 2
          · exact absurd ⟨a1.1, a1.2, a2.1, a2.2, fun _ => k⟩ hn
          · omega
        exact word_fl o ax cx ay cy w k3 a2 a3 hN hK
      · exact word_bd o ax cx ay cy w a1 (by omega) hN
    · exact word_kd o ax cx ay cy w (by omega) hN
  | true =>
    rw [if_pos rfl, if_pos rfl]
    by_cases k3 : o.kd = 3
    · exact word_ok3 o ax cx ay cy w h hF hA l1 l2 k3 hP hK hN
    · exact word_ok2 o ax cx ay cy w h hF hA l1 l2 k3 hP hK hN
end Go.Proofs.YtlknopmpbkepjaaGreatDoor

/- Operations as texts: a builder of texts; the program's Print. -/
namespace Go.Proofs.YtlknopmpbkepjaaGreatDoor
open Go.RowKit

theorem semi_size : (⟨#[59]⟩ : ByteArray).size = 1 := rfl
theorem byt_semi : byt ⟨#[59]⟩ = [59] := by decide
/-! ### Print -/
/-- What the tables hold that the recipes read. -/
def KW (w : World) : Prop := Pow10 w ∧ Kinds w ∧ NamesE w
theorem kw_below {w w' : World} (h : KW w) (b : Below w.heap.size w w') : KW w' := ⟨pow10_below w w' h.1 b, kinds_below h.2.1 b, namesE_below h.2.2 b⟩
def allW (L : List Opr) : Bool := L.all mayW
theorem allW_at {L : List Opr} : allW L = true ↔ ∀ j, j < L.length → mayW (opAt L j) = true := by
  unfold allW
  rw [List.all_eq_true]
  constructor
  · intro h j hj
    unfold opAt
    rw [List.getD_eq_getElem?_getD, List.getElem?_eq_getElem hj]
    exact h _ (List.getElem_mem hj)
  · intro h o ho
    obtain ⟨j, hj, rfl⟩ := List.getElem_of_mem ho
    have := h j hj
    unfold opAt at this
    rwa [List.getD_eq_getElem?_getD, List.getElem?_eq_getElem hj] at this
theorem opAt_mem {L : List Opr} {j : Nat} (h : j < L.length) : opAt L j ∈ L := by
  unfold opAt
  rw [List.getD_eq_getElem?_getD, List.getElem?_eq_getElem h]
  exact List.getElem_mem h
theorem take_op {L : List Opr} {k : Nat} (hk : k < L.length) : L.take (k + 1) = L.take k ++ [opAt L k] := by
  unfold opAt
  rw [List.take_add_one, List.getD_eq_getElem?_getD, List.getElem?_eq_getElem hk]
  rfl
/-- Operations that can be printed: their numbers are some, their weights few. -/
def LitW (o : Opr) : Prop := FitW o ∧ o.xs.length ≤ 1000 ∧ o.ys.length ≤ 1000
def printT (L : List Opr) : ByteArray := txt (if allW L = true then printB L else [])
def printC (L : List Opr) : Int := if allW L = true then 0 else 6
end Go.Proofs.YtlknopmpbkepjaaGreatDoor

/- Operations as texts: the statements' own helpers; rows of operations, appended; the laws on signs and on rows that are joined. -/
namespace Go.Proofs.YtlknopmpbkepjaaGreatDoor
open Go.RowKit


/-! ### Lives -/
theorem row_new (w : World) (T : TypeId) (x : Int) (xs : List Int) (n : Nat) (_ : (x :: xs).length = n) : RowAt .i64 (w.alloc (.cells ((x :: xs).map (Value.int .i64)).toArray T)) (some ⟨w.heap.size, 0, none⟩) (x :: xs) := by
  refine .inr ⟨w.heap.size, 0, rfl, fun j hj => ?_⟩
  have h := new_list w ((x :: xs).map (Value.int .i64)) T j (.int .i64 ((x :: xs).getD j 0)) (by
    rw [List.getElem?_map, List.getD_eq_getElem?_getD, List.getElem?_eq_getElem hj]
    rfl)
  rw [addr_add] at h
  exact h
def livO : Opr := ⟨2, 2, 0, 0, [1, 2, 1], [1], 0, 0, 0⟩
theorem liv_word : wordT livO = ⟨#[226, 138, 151, 49, 44, 50, 44, 49, 195, 151, 49, 124, 119, 114, 97, 112]⟩ ∧ wordC livO = 0 := by decide +kernel
theorem liv_fit : FitW livO := ⟨fun x hx => by
    simp only [livO, List.mem_cons, List.not_mem_nil, or_false] at hx
    omega, fun x hx => by
    simp only [livO, List.mem_cons, List.not_mem_nil, or_false] at hx
    omega, fun x hx => by
    simp only [livO, List.mem_cons, List.not_mem_nil, or_false] at hx
    omega⟩
set_option maxRecDepth 100000 in
theorem lives13_any (w : World) (hk : KW w) :
    Calls Tryz.prog 4 #[] w fun e w' => e = .returned (.bool true) ∧ Below w.heap.size w w' := by
  have CW : ∀ ax cx ay cy w', Below w.heap.size w w' → OpAt w' livO ax cx ay cy → Calls Tryz.prog 13 #[.agg #[.int .i64 2, .int .i64 2, .int .i64 0, .int .i64 0, .slice ax 3 cx, .slice ay 1 cy, .int .i64 0, .int .i64 0, .int .i64 0]] w' fun e w2 => e = .returned (.tuple #[.string ⟨#[226, 138, 151, 49, 44, 50, 44, 49, 195, 151, 49, 124, 119, 114, 97, 112]⟩, .int .i64 0]) ∧ Below w'.heap.size w' w2 := fun ax cx ay cy w' hb hA => by
    have h := word_any livO ax cx ay cy w' liv_fit hA (by decide) (by decide) (kw_below hk hb).1 (kw_below hk hb).2.1 (kw_below hk hb).2.2
    rw [liv_word.1, liv_word.2] at h
    exact h
  have HA := hide (show OpAt ((w.alloc (.cells #[.int .i64 1, .int .i64 2, .int .i64 1] 2)).alloc (.cells #[.int .i64 1] 2)) livO (some ⟨w.heap.size, 0, none⟩) 3 (some ⟨w.heap.size + 1, 0, none⟩) 1 by
    have h2 := row_new (w.alloc (.cells #[.int .i64 1, .int .i64 2, .int .i64 1] 2)) 2 1 [] 1 rfl
    rw [World.size_alloc] at h2
    exact ⟨(row_new w 2 1 [2, 1] 3 rfl).below (below1 _ _), h2, (fun e => by cases e), (fun e => by cases e)⟩)
  clear hk
  go_enter Tryz.func4, Tryz.ntmps4
  go_wp2_with (go_at_call 13; go_loud (with_reducible refine (CW _ _ _ _ _ (ba (below1 _ _) _) HA.out).mono ?_); rintro e w3 ⟨rfl, b3⟩)
  go_ret
  exact ⟨rfl, bt (ba (below1 _ _) _) b3⟩
/-! ### Few and little ones -/
def fewB (L : List Opr) (n : Nat) : Bool := (L.all fun o => decide (o.xs.length ≤ 60) && decide (o.ys.length ≤ 60)) && decide (n ≤ 20)
theorem few_no {L : List Opr} {n k : Nat} (hk : k < L.length) (h : 60 < (opAt L k).xs.length ∨ 60 < (opAt L k).ys.length) : fewB L n = false := by
  have : (L.all fun o => decide (o.xs.length ≤ 60) && decide (o.ys.length ≤ 60)) = false := by
    cases e : (L.all fun o => decide (o.xs.length ≤ 60) && decide (o.ys.length ≤ 60)) with
    | false => rfl
    | true =>
      have := List.all_eq_true.1 e _ (opAt_mem hk)
      simp only [Bool.and_eq_true, decide_eq_true_eq] at this
      omega
  unfold fewB
  rw [this]
  rfl
theorem few_yes {L : List Opr} {n : Nat} (h : ∀ j, j < L.length → (opAt L j).xs.length ≤ 60 ∧ (opAt L j).ys.length ≤ 60) : fewB L n = decide (n ≤ 20) := by
  have : (L.all fun o => decide (o.xs.length ≤ 60) && decide (o.ys.length ≤ 60)) = true := by
    rw [List.all_eq_true]
    intro o ho
    obtain ⟨j, hj, rfl⟩ := List.getElem_of_mem ho
    have := h j hj
    unfold opAt at this
    rw [List.getD_eq_getElem?_getD, List.getElem?_eq_getElem hj] at this
    simp only [Option.getD_some] at this
    simp [this.1, this.2]
  unfold fewB
  rw [this]
  rfl
theorem few_iff {L : List Opr} {n : Nat} (h : fewB L n = true) : n ≤ 20 ∧ ∀ o ∈ L, o.xs.length ≤ 60 ∧ o.ys.length ≤ 60 := by
  unfold fewB at h
  rw [Bool.and_eq_true] at h
  refine ⟨of_decide_eq_true h.2, fun o ho => ?_⟩
  have := List.all_eq_true.1 h.1 o ho
  simpa using this
end Go.Proofs.YtlknopmpbkepjaaGreatDoor
