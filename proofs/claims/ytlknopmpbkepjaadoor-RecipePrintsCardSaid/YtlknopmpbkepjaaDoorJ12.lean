/- Parts, joined. -/
import Derived.Test.YtlknopmpbkepjaaDoorJ11
import Derived.Test.YtlknopmpbkepjaaDoorJ09
/- Operations as texts: the program's Word. Written by gen_XS13Q.py. -/
namespace Go.Proofs.YtlknopmpbkepjaaDoor
open Go.RowKit


theorem rune_ne {k : Int} (h : 0 ≤ k ∧ k ≤ 3) : (runeB k == 0) = false := beq_eq_false_iff_ne.2 fun e => by have := rune_at.1 e; omega
set_option maxHeartbeats 4000000 in
set_option maxRecDepth 100000 in
theorem word_kd (o : Opr) (ax : Option Addr) (cx : Nat) (ay : Option Addr) (cy : Nat) (w : World) (h : o.kd < 0 ∨ 3 < o.kd) (hN : NamesE w) :
    Calls Tryd.prog 11 #[opV o ax cx ay cy] w fun e w' => e = .returned (.tuple #[.string ⟨#[]⟩, .int .i64 6]) ∧ Below w.heap.size w w' := by
  have CS := fun w => sign_any o.kd w
  have CB := fun w' (b : Below w.heap.size w w') => bname_any o.bd w' (namesE_below hN b)
  rw [rune_at.2 h] at CS
  unfold opV
  obtain ⟨kd, bo, sg, rd, xs, ys, fl, wd, ht⟩ := o
  simp only at *
  clear h hN
  generalize txt (bordB bo) = B at *
  generalize xs.length = nx at *
  generalize ys.length = ny at *
  have HP := hide (P9.new w 30 kd bo sg rd (.slice ax nx cx) (.slice ay ny cy) fl wd ht)
  go_enter Tryd.func11, Tryd.ntmps11
  go_upto_region 1 with fail
  obtain ⟨W0, hW0⟩ : ∃ W0, w.alloc (.cells #[.int .i64 kd, .int .i64 bo, .int .i64 sg, .int .i64 rd, .slice ax nx cx, .slice ay ny cy, .int .i64 fl, .int .i64 wd, .int .i64 ht] 30) = W0 := ⟨_, rfl⟩
  rw [hW0] at HP
  have HB0 := hide (show Below w.heap.size w W0 by rw [← hW0]; exact below1 _ _)
  simp only [hW0]
  clear hW0
  obtain ⟨g0, g1, g2, g3, g4, g5, g6, g7, g8⟩ := HP.out
  have gl := cell_ltL g0
  have S8 := hide (show ∀ w', Below W0.heap.size W0 w' → P9 w' w.heap.size kd bo sg rd (.slice ax nx cx) (.slice ay ny cy) fl wd ht from fun w' b => HP.out.below b)
  clear g2 g3 g4 g5 g6 g7 g8
  go_region_held3 (fun w' => w'.cell? ⟨w.heap.size, 0, none⟩ = some (.int .i64 kd) ∧ w'.cell? ⟨w.heap.size, 1, none⟩ = some (.int .i64 bo)) (first | assumption | go_keep)
    (first
      | (go_at_call 19; (with_reducible refine (CS _).mono ?_); rintro e w2 ⟨rfl, b2⟩; have B2 := hide (bt (bd (Below.refl W0.heap.size W0)) b2); have y2 := And.intro (cb B2.out gl g0) (cb B2.out gl g1))
      | (go_at_call 25; (with_reducible refine (CB _ (bt HB0.out B2.out)).mono ?_); rintro e w3 ⟨rfl, rfl⟩)
      | (go_at_call 25; (with_reducible refine (CB _ (bd HB0.out)).mono ?_); rintro e w3 ⟨rfl, rfl⟩))
  all_goals
    have BZ := hide (bt HB0.out B2.out)
    obtain ⟨p0, p1, p2, p3, p4, p5, p6, p7, p8⟩ := S8.out _ B2.out
    clear y2 b2 CS g0 g1 S8
    clear CB
    go_wp2
    exact bodyPost_ret (v := .tuple #[.string ⟨#[]⟩, .int .i64 6]) (by simp [results, Tryd.results11, go_sem]) rfl ⟨rfl, BZ.out⟩
set_option maxHeartbeats 4000000 in
set_option maxRecDepth 100000 in
theorem word_bd (o : Opr) (ax : Option Addr) (cx : Nat) (ay : Option Addr) (cy : Nat) (w : World) (hk : 0 ≤ o.kd ∧ o.kd ≤ 3) (h : o.bd < 0 ∨ 2 < o.bd) (hN : NamesE w) :
    Calls Tryd.prog 11 #[opV o ax cx ay cy] w fun e w' => e = .returned (.tuple #[.string ⟨#[]⟩, .int .i64 6]) ∧ Below w.heap.size w w' := by
  have CS := fun w => sign_any o.kd w
  have CB := fun w' (b : Below w.heap.size w w') => bname_any o.bd w' (namesE_below hN b)
  rw [bord_nil h, txt_nil] at CB
  have hR := rune_ne hk
  unfold opV
  obtain ⟨kd, bo, sg, rd, xs, ys, fl, wd, ht⟩ := o
  simp only at *
  clear h hN hk
  generalize runeB kd = R at *
  generalize xs.length = nx at *
  generalize ys.length = ny at *
  have HP := hide (P9.new w 30 kd bo sg rd (.slice ax nx cx) (.slice ay ny cy) fl wd ht)
  go_enter Tryd.func11, Tryd.ntmps11
  go_upto_region 1 with fail
  obtain ⟨W0, hW0⟩ : ∃ W0, w.alloc (.cells #[.int .i64 kd, .int .i64 bo, .int .i64 sg, .int .i64 rd, .slice ax nx cx, .slice ay ny cy, .int .i64 fl, .int .i64 wd, .int .i64 ht] 30) = W0 := ⟨_, rfl⟩
  rw [hW0] at HP
  have HB0 := hide (show Below w.heap.size w W0 by rw [← hW0]; exact below1 _ _)
  simp only [hW0]
  clear hW0
  obtain ⟨g0, g1, g2, g3, g4, g5, g6, g7, g8⟩ := HP.out
  have gl := cell_ltL g0
  have S8 := hide (show ∀ w', Below W0.heap.size W0 w' → P9 w' w.heap.size kd bo sg rd (.slice ax nx cx) (.slice ay ny cy) fl wd ht from fun w' b => HP.out.below b)
  clear g2 g3 g4 g5 g6 g7 g8
  go_region_held3 (fun w' => w'.cell? ⟨w.heap.size, 0, none⟩ = some (.int .i64 kd) ∧ w'.cell? ⟨w.heap.size, 1, none⟩ = some (.int .i64 bo)) (first | assumption | go_keep)
    (first
      | (go_at_call 19; (with_reducible refine (CS _).mono ?_); rintro e w2 ⟨rfl, b2⟩; have B2 := hide (bt (bd (Below.refl W0.heap.size W0)) b2); have y2 := And.intro (cb B2.out gl g0) (cb B2.out gl g1))
      | (go_at_call 25; (with_reducible refine (CB _ (bt HB0.out B2.out)).mono ?_); rintro e w3 ⟨rfl, rfl⟩)
      | (go_at_call 25; (with_reducible refine (CB _ (bd HB0.out)).mono ?_); rintro e w3 ⟨rfl, rfl⟩))
  all_goals
    have BZ := hide (bt HB0.out B2.out)
    obtain ⟨p0, p1, p2, p3, p4, p5, p6, p7, p8⟩ := S8.out _ B2.out
    clear y2 b2 CS g0 g1 S8
    clear CB
    go_wp2
    exact bodyPost_ret (v := .tuple #[.string ⟨#[]⟩, .int .i64 6]) (by simp [results, Tryd.results11, go_sem]) rfl ⟨rfl, BZ.out⟩
set_option maxHeartbeats 4000000 in
set_option maxRecDepth 100000 in
theorem word_fl (o : Opr) (ax : Option Addr) (cx : Nat) (ay : Option Addr) (cy : Nat) (w : World) (hk : o.kd = 3) (hb : 0 ≤ o.bd ∧ o.bd ≤ 2) (h : o.fl < 0 ∨ 2 < o.fl) (hN : NamesE w) (hK : Kinds w) :
    Calls Tryd.prog 11 #[opV o ax cx ay cy] w fun e w' => e = .returned (.tuple #[.string ⟨#[]⟩, .int .i64 6]) ∧ Below w.heap.size w w' := by
  have CS := fun w => sign_any o.kd w
  have CB := fun w' (b : Below w.heap.size w w') => bname_any o.bd w' (namesE_below hN b)
  have CF := fun w' (b : Below w.heap.size w w') => fname_any o.fl w' (kinds_below hK b)
  rw [filt_nil h, txt_nil] at CF
  have hR := rune_ne (k := o.kd) (by omega)
  have e2 := isEmpty_no (byts_bord o.bd) (bord_ne hb)
  unfold opV
  obtain ⟨kd, bo, sg, rd, xs, ys, fl, wd, ht⟩ := o
  simp only at *
  subst hk
  clear h hN hb hK
  generalize runeB 3 = R at *
  generalize txt (bordB bo) = B at *
  generalize xs.length = nx at *
  generalize ys.length = ny at *
  have HP := hide (P9.new w 30 3 bo sg rd (.slice ax nx cx) (.slice ay ny cy) fl wd ht)
  go_enter Tryd.func11, Tryd.ntmps11
  go_upto_region 1 with fail
  obtain ⟨W0, hW0⟩ : ∃ W0, w.alloc (.cells #[.int .i64 3, .int .i64 bo, .int .i64 sg, .int .i64 rd, .slice ax nx cx, .slice ay ny cy, .int .i64 fl, .int .i64 wd, .int .i64 ht] 30) = W0 := ⟨_, rfl⟩
  rw [hW0] at HP
  have HB0 := hide (show Below w.heap.size w W0 by rw [← hW0]; exact below1 _ _)
  simp only [hW0]
  clear hW0
  obtain ⟨g0, g1, g2, g3, g4, g5, g6, g7, g8⟩ := HP.out
  have gl := cell_ltL g0
  have S8 := hide (show ∀ w', Below W0.heap.size W0 w' → P9 w' w.heap.size 3 bo sg rd (.slice ax nx cx) (.slice ay ny cy) fl wd ht from fun w' b => HP.out.below b)
  clear g2 g3 g4 g5 g6 g7 g8
  go_region_held3 (fun w' => w'.cell? ⟨w.heap.size, 0, none⟩ = some (.int .i64 3) ∧ w'.cell? ⟨w.heap.size, 1, none⟩ = some (.int .i64 bo)) (first | assumption | go_keep)
    (first
      | (go_at_call 19; (with_reducible refine (CS _).mono ?_); rintro e w2 ⟨rfl, b2⟩; have B2 := hide (bt (bd (Below.refl W0.heap.size W0)) b2); have y2 := And.intro (cb B2.out gl g0) (cb B2.out gl g1))
      | (go_at_call 25; (with_reducible refine (CB _ (bt HB0.out B2.out)).mono ?_); rintro e w3 ⟨rfl, rfl⟩)
      | (go_at_call 25; (with_reducible refine (CB _ (bd HB0.out)).mono ?_); rintro e w3 ⟨rfl, rfl⟩))
  all_goals
    have BZ := hide (bt HB0.out B2.out)
    obtain ⟨p0, p1, p2, p3, p4, p5, p6, p7, p8⟩ := S8.out _ B2.out
    clear y2 b2 CS g0 g1 S8
    clear CB
    go_wp2_with (go_at_call 26; (with_reducible refine (CF _ BZ.out).mono ?_); rintro e w3 ⟨rfl, rfl⟩)
    exact bodyPost_ret (v := .tuple #[.string ⟨#[]⟩, .int .i64 6]) (by simp [results, Tryd.results11, go_sem]) rfl ⟨rfl, BZ.out⟩
set_option maxHeartbeats 4000000 in
set_option maxRecDepth 100000 in
theorem word_ok3 (o : Opr) (ax : Option Addr) (cx : Nat) (ay : Option Addr) (cy : Nat) (w : World) (h : mayW o = true) (hF : FitW o) (hA : OpAt w o ax cx ay cy) (l1 : o.xs.length ≤ 1000) (l2 : o.ys.length ≤ 1000) (k3 : o.kd = 3) (hP : Pow10 w) (hK : Kinds w) (hN : NamesE w) :
    Calls Tryd.prog 11 #[opV o ax cx ay cy] w fun e w' => e = .returned (.tuple #[.string (txt (wordB o)), .int .i64 0]) ∧ Below w.heap.size w w' := by
  obtain ⟨k0, k1, b0, b1, hf⟩ := mayW_iff.1 h
  have CS := fun w => sign_any o.kd w
  have CB := fun w' (b : Below w.heap.size w w') => bname_any o.bd w' (namesE_below hN b)
  have CY := fun w' (b : Below w.heap.size w w') => body_any o ax cx ay cy w' ⟨k0, k1⟩ hF (hA.below b) l1 l2 (pow10_below w w' hP b) (kinds_below hK b)
  have hR := rune_ne (k := o.kd) ⟨k0, k1⟩
  have e2 := isEmpty_no (byts_bord o.bd) (bord_ne ⟨b0, b1⟩)
  have hcv := sgn_conv ⟨k0, k1⟩
  have s1 : (txt (sgnB o.kd)).size ≤ 3 := by rw [txt_size (byts_sgn _)]; exact sgn_len _
  have s2 : (txt (bordB o.bd)).size ≤ 6 := by rw [txt_size (byts_bord _)]; exact bord_len _
  have s3 : (txt (bodyB o)).size ≤ 42050 := by rw [txt_size (byts_body _)]; have := body_len hF; omega
  have HW := hide (word_txt o)
  have CF := fun w' (b : Below w.heap.size w w') => fname_any o.fl w' (kinds_below hK b)
  have e3 := isEmpty_no (byts_filt o.fl) (filt_ne (hf k3))
  unfold opV at CY ⊢
  generalize txt (wordB o) = T at *
  generalize txt (bodyB o) = BD at *
  obtain ⟨kd, bo, sg, rd, xs, ys, fl, wd, ht⟩ := o
  simp only at *
  subst k3
  clear h hF hA hP hK hN k0 k1 b0 b1 hf l1 l2
  generalize runeB 3 = R at *
  generalize txt (sgnB 3) = S at *
  generalize txt (bordB bo) = B at *
  generalize txt (filtB fl) = F at *
  generalize xs.length = nx at *
  generalize ys.length = ny at *
  have HP := hide (P9.new w 30 3 bo sg rd (.slice ax nx cx) (.slice ay ny cy) fl wd ht)
  go_enter Tryd.func11, Tryd.ntmps11
  go_upto_region 1 with fail
  obtain ⟨W0, hW0⟩ : ∃ W0, w.alloc (.cells #[.int .i64 3, .int .i64 bo, .int .i64 sg, .int .i64 rd, .slice ax nx cx, .slice ay ny cy, .int .i64 fl, .int .i64 wd, .int .i64 ht] 30) = W0 := ⟨_, rfl⟩
  rw [hW0] at HP
  have HB0 := hide (show Below w.heap.size w W0 by rw [← hW0]; exact below1 _ _)
  simp only [hW0]
  clear hW0
  obtain ⟨g0, g1, g2, g3, g4, g5, g6, g7, g8⟩ := HP.out
  have gl := cell_ltL g0
  have S8 := hide (show ∀ w', Below W0.heap.size W0 w' → P9 w' w.heap.size 3 bo sg rd (.slice ax nx cx) (.slice ay ny cy) fl wd ht from fun w' b => HP.out.below b)
  clear g2 g3 g4 g5 g6 g7 g8
  go_region_held3 (fun w' => w'.cell? ⟨w.heap.size, 0, none⟩ = some (.int .i64 3) ∧ w'.cell? ⟨w.heap.size, 1, none⟩ = some (.int .i64 bo)) (first | assumption | go_keep)
    (first
      | (go_at_call 19; (with_reducible refine (CS _).mono ?_); rintro e w2 ⟨rfl, b2⟩; have B2 := hide (bt (bd (Below.refl W0.heap.size W0)) b2); have y2 := And.intro (cb B2.out gl g0) (cb B2.out gl g1))
      | (go_at_call 25; (with_reducible refine (CB _ (bt HB0.out B2.out)).mono ?_); rintro e w3 ⟨rfl, rfl⟩)
      | (go_at_call 25; (with_reducible refine (CB _ (bd HB0.out)).mono ?_); rintro e w3 ⟨rfl, rfl⟩))
  all_goals
    have BZ := hide (bt HB0.out B2.out)
    obtain ⟨p0, p1, p2, p3, p4, p5, p6, p7, p8⟩ := S8.out _ B2.out
    clear y2 b2 CS g0 g1 S8
    clear CB
    go_wp2_with (first
      | (go_at_call 26; (with_reducible refine (CF _ BZ.out).mono ?_); rintro e w3 ⟨rfl, rfl⟩)
      | (go_at_call 27; (with_reducible refine (CY _ BZ.out).mono ?_); rintro e w4 ⟨rfl, b4⟩))
    exact bodyPost_ret (v := .tuple #[.string (S ++ BD ++ ⟨#[124]⟩ ++ B), .int .i64 0]) (by simp [results, Tryd.results11, go_sem]) rfl ⟨by rw [HW.out], bt BZ.out b4⟩
set_option maxHeartbeats 4000000 in
set_option maxRecDepth 100000 in
theorem word_ok2 (o : Opr) (ax : Option Addr) (cx : Nat) (ay : Option Addr) (cy : Nat) (w : World) (h : mayW o = true) (hF : FitW o) (hA : OpAt w o ax cx ay cy) (l1 : o.xs.length ≤ 1000) (l2 : o.ys.length ≤ 1000) (k3 : o.kd ≠ 3) (hP : Pow10 w) (hK : Kinds w) (hN : NamesE w) :
    Calls Tryd.prog 11 #[opV o ax cx ay cy] w fun e w' => e = .returned (.tuple #[.string (txt (wordB o)), .int .i64 0]) ∧ Below w.heap.size w w' := by
  obtain ⟨k0, k1, b0, b1, hf⟩ := mayW_iff.1 h
  have CS := fun w => sign_any o.kd w
  have CB := fun w' (b : Below w.heap.size w w') => bname_any o.bd w' (namesE_below hN b)
  have CY := fun w' (b : Below w.heap.size w w') => body_any o ax cx ay cy w' ⟨k0, k1⟩ hF (hA.below b) l1 l2 (pow10_below w w' hP b) (kinds_below hK b)
  have hR := rune_ne (k := o.kd) ⟨k0, k1⟩
  have e2 := isEmpty_no (byts_bord o.bd) (bord_ne ⟨b0, b1⟩)
  have hcv := sgn_conv ⟨k0, k1⟩
  have s1 : (txt (sgnB o.kd)).size ≤ 3 := by rw [txt_size (byts_sgn _)]; exact sgn_len _
  have s2 : (txt (bordB o.bd)).size ≤ 6 := by rw [txt_size (byts_bord _)]; exact bord_len _
  have s3 : (txt (bodyB o)).size ≤ 42050 := by rw [txt_size (byts_body _)]; have := body_len hF; omega
  have HW := hide (word_txt o)
  have hq : (o.kd == 3) = false := beq_eq_false_iff_ne.2 k3
  unfold opV at CY ⊢
  generalize txt (wordB o) = T at *
  generalize txt (bodyB o) = BD at *
  obtain ⟨kd, bo, sg, rd, xs, ys, fl, wd, ht⟩ := o
  simp only at *
  clear h hF hA hP hK hN k0 k1 b0 b1 hf l1 l2 k3
  generalize runeB kd = R at *
  generalize txt (sgnB kd) = S at *
  generalize txt (bordB bo) = B at *
  generalize xs.length = nx at *
  generalize ys.length = ny at *
  have HP := hide (P9.new w 30 kd bo sg rd (.slice ax nx cx) (.slice ay ny cy) fl wd ht)
  go_enter Tryd.func11, Tryd.ntmps11
  go_upto_region 1 with fail
  obtain ⟨W0, hW0⟩ : ∃ W0, w.alloc (.cells #[.int .i64 kd, .int .i64 bo, .int .i64 sg, .int .i64 rd, .slice ax nx cx, .slice ay ny cy, .int .i64 fl, .int .i64 wd, .int .i64 ht] 30) = W0 := ⟨_, rfl⟩
  rw [hW0] at HP
  have HB0 := hide (show Below w.heap.size w W0 by rw [← hW0]; exact below1 _ _)
  simp only [hW0]
  clear hW0
  obtain ⟨g0, g1, g2, g3, g4, g5, g6, g7, g8⟩ := HP.out
  have gl := cell_ltL g0
  have S8 := hide (show ∀ w', Below W0.heap.size W0 w' → P9 w' w.heap.size kd bo sg rd (.slice ax nx cx) (.slice ay ny cy) fl wd ht from fun w' b => HP.out.below b)
  clear g2 g3 g4 g5 g6 g7 g8
  go_region_held3 (fun w' => w'.cell? ⟨w.heap.size, 0, none⟩ = some (.int .i64 kd) ∧ w'.cell? ⟨w.heap.size, 1, none⟩ = some (.int .i64 bo)) (first | assumption | go_keep)
    (first
      | (go_at_call 19; (with_reducible refine (CS _).mono ?_); rintro e w2 ⟨rfl, b2⟩; have B2 := hide (bt (bd (Below.refl W0.heap.size W0)) b2); have y2 := And.intro (cb B2.out gl g0) (cb B2.out gl g1))
      | (go_at_call 25; (with_reducible refine (CB _ (bt HB0.out B2.out)).mono ?_); rintro e w3 ⟨rfl, rfl⟩)
      | (go_at_call 25; (with_reducible refine (CB _ (bd HB0.out)).mono ?_); rintro e w3 ⟨rfl, rfl⟩))
  all_goals
    have BZ := hide (bt HB0.out B2.out)
    obtain ⟨p0, p1, p2, p3, p4, p5, p6, p7, p8⟩ := S8.out _ B2.out
    clear y2 b2 CS g0 g1 S8
    clear CB
    go_wp2_with (go_at_call 27; (with_reducible refine (CY _ BZ.out).mono ?_); rintro e w4 ⟨rfl, b4⟩)
    exact bodyPost_ret (v := .tuple #[.string (S ++ BD ++ ⟨#[124]⟩ ++ B), .int .i64 0]) (by simp [results, Tryd.results11, go_sem]) rfl ⟨by rw [HW.out], bt BZ.out b4⟩
/-- What Word tells. -/
def wordC (o : Opr) : Int := if mayW o = true then 0 else 6
theorem word_any (o : Opr) (ax : Option Addr) (cx : Nat) (ay : Option Addr) (cy : Nat) (w : World) (hF : FitW o) (hA : OpAt w o ax cx ay cy) (l1 : o.xs.length ≤ 1000) (l2 : o.ys.length ≤ 1000) (hP : Pow10 w) (hK : Kinds w) (hN : NamesE w) :
    Calls Tryd.prog 11 #[opV o ax cx ay cy] w fun e w' => e = .returned (.tuple #[.string (wordT o), .int .i64 (wordC o)]) ∧ Below w.heap.size w w' := by
  unfold wordT wordC
  cases h : mayW o with
  | false =>
    have hn : ¬ (0 ≤ o.kd ∧ o.kd ≤ 3 ∧ 0 ≤ o.bd ∧ o.bd ≤ 2 ∧ (o.kd = 3 → 0 ≤ o.fl ∧ o.fl ≤ 2)) := fun g => by rw [mayW_iff.2 g] at h; cases h
    by_cases a1 : 0 ≤ o.kd ∧ o.kd ≤ 3
    · by_cases a2 : 0 ≤ o.bd ∧ o.bd ≤ 2
      · have k3 : o.kd = 3 := by
          by_cases k : o.kd = 3
          · exact k
          · exact absurd ⟨a1.1, a1.2, a2.1, a2.2, fun q => absurd q k⟩ hn
        have a3 : o.fl < 0 ∨ 2 < o.fl := by
          by_cases k : 0 ≤ o.fl ∧ o.fl ≤ 2
          · exact absurd ⟨a1.1, a1.2, a2.1, a2.2, fun _ => k⟩ hn
          · omega
        exact word_fl o ax cx ay cy w k3 a2 a3 hN hK
      · exact word_bd o ax cx ay cy w a1 (by omega) hN
    · exact word_kd o ax cx ay cy w (by omega) hN
  | true =>
    rw [if_pos rfl, if_pos rfl]
    by_cases k3 : o.kd = 3
    · exact word_ok3 o ax cx ay cy w h hF hA l1 l2 k3 hP hK hN
    · exact word_ok2 o ax cx ay cy w h hF hA l1 l2 k3 hP hK hN
end Go.Proofs.YtlknopmpbkepjaaDoor

/- Operations as texts: a builder of texts; the program's Print. -/
namespace Go.Proofs.YtlknopmpbkepjaaDoor
open Go.RowKit


/-- A builder that holds these bytes. -/
def Bld (w : World) (B b : Nat) (l : List Int) : Prop := Go.Lib.IsBuilderF 64 5 B b (l.map (Value.int .u8)) w
theorem bldAt_below {p : Value} {w w' : World} {B b : Nat} {l : List Value} (h : Go.Lib.BuilderAtF 64 5 B b p l w) (hb : Below w.heap.size w w') : Go.Lib.BuilderAtF 64 5 B b p l w' := by
  have hlt := h.lt
  obtain ⟨hB, v, hv, hown, hne⟩ := h
  exact ⟨hB, v, (hb.block b hlt).trans hv, hown.kept (row := none) ⟨hb.os, hb.tape, hb.output, hb.size, fun k hk _ => hb.block k hk⟩ (Classical.em _), hne⟩
theorem Bld.below {w w' : World} {B b : Nat} {l : List Int} (h : Bld w B b l) (hb : Below w.heap.size w w') : Bld w' B b l := h.elim (fun x => .inl (bldAt_below x hb)) (fun x => .inr (bldAt_below x hb))
theorem semi_size : (⟨#[59]⟩ : ByteArray).size = 1 := rfl
theorem byt_semi : byt ⟨#[59]⟩ = [59] := by decide
theorem bld_new (w : World) : Bld (w.alloc (.cells #[.pointer none, .slice none 0 0] 64)) w.heap.size w.heap.size [] := by
  refine .inl ⟨Nat.le_refl _, .slice none 0 0, ?_, ?_, fun e => by cases e⟩
  · show (w.heap.push _)[w.heap.size]? = _
    simp
  · exact World.ownsRowF_of (World.ownsRow_nil _ _ _ _)
theorem wr_any {B b : Nat} {l : List Int} (t : ByteArray) (w : World) (h : Bld w B b l) (hl : l.length + t.size ≤ 140737488355328) (hB : B ≤ w.heap.size) :
    Calls Tryd.prog 30 #[.pointer (some ⟨b, 0, none⟩), .string t] w fun e w' => e = .returned (.tuple #[.int .i64 t.size, .nilIface]) ∧ Bld w' B b (l ++ byt t) ∧ Below B w w' := by
  refine (Go.Proofs.Any.Builder_WriteString_k wrstrL builderX B b (l.map (Value.int .u8)) t w h (by rw [List.length_map]; exact hl) hB).mono ?_
  rintro e w' ⟨rfl, h1, h2, _⟩
  refine ⟨rfl, .inr ?_, h2⟩
  rw [List.map_append]
  have e : (byt t).map (Value.int .u8) = Go.Lib.strCells t := by
    unfold byt Go.Lib.strCells
    rw [List.map_map]
    rfl
  rw [e]
  exact h1
theorem bstr_any {B b : Nat} {l : List Int} (hy : Byts l) (w : World) (h : Bld w B b l) (hB : B ≤ w.heap.size) :
    Calls Tryd.prog 31 #[.pointer (some ⟨b, 0, none⟩)] w fun e w' => e = .returned (.string (txt l)) ∧ Below B w w' := by
  refine (Go.Proofs.Any.Builder_String_any_k bstrL builderY B b (txt l).data.toList w (by rw [u8_cells hy]; exact h) hB).mono ?_
  rintro e w' ⟨rfl, _, h2, _⟩
  exact ⟨by simp, h2⟩
/-! ### Print -/
/-- What the tables hold that the recipes read. -/
def KW (w : World) : Prop := Pow10 w ∧ Kinds w ∧ NamesE w
theorem kw_below {w w' : World} (h : KW w) (b : Below w.heap.size w w') : KW w' := ⟨pow10_below w w' h.1 b, kinds_below h.2.1 b, namesE_below h.2.2 b⟩
def allW (L : List Opr) : Bool := L.all mayW
theorem allW_at {L : List Opr} : allW L = true ↔ ∀ j, j < L.length → mayW (opAt L j) = true := by
  unfold allW
  rw [List.all_eq_true]
  constructor
  · intro h j hj
    unfold opAt
    rw [List.getD_eq_getElem?_getD, List.getElem?_eq_getElem hj]
    exact h _ (List.getElem_mem hj)
  · intro h o ho
    obtain ⟨j, hj, rfl⟩ := List.getElem_of_mem ho
    have := h j hj
    unfold opAt at this
    rwa [List.getD_eq_getElem?_getD, List.getElem?_eq_getElem hj] at this
theorem opAt_mem {L : List Opr} {j : Nat} (h : j < L.length) : opAt L j ∈ L := by
  unfold opAt
  rw [List.getD_eq_getElem?_getD, List.getElem?_eq_getElem h]
  exact List.getElem_mem h
theorem take_op {L : List Opr} {k : Nat} (hk : k < L.length) : L.take (k + 1) = L.take k ++ [opAt L k] := by
  unfold opAt
  rw [List.take_add_one, List.getD_eq_getElem?_getD, List.getElem?_eq_getElem hk]
  rfl
/-- Operations that can be printed: their numbers are some, their weights few. -/
def LitW (o : Opr) : Prop := FitW o ∧ o.xs.length ≤ 1000 ∧ o.ys.length ≤ 1000
def printT (L : List Opr) : ByteArray := txt (if allW L = true then printB L else [])
def printC (L : List Opr) : Int := if allW L = true then 0 else 6
set_option maxHeartbeats 4000000 in
set_option maxRecDepth 100000 in
theorem print_any (L : List Opr) (n : Nat) (hn : L.length = n) (h1 : n ≤ 1000) (ad : Option Addr) (cap : Nat) (w : World) (hr : OpsAt w ad L) (hL : ∀ o ∈ L, LitW o) (hk : KW w) :
    Calls Tryd.prog 15 #[.slice ad n cap] w fun e w' => e = .returned (.tuple #[.string (printT L), .int .i64 (printC L)]) ∧ Below w.heap.size w w' := by
  have HR := hide hr
  have HN := hide hn
  have HL := hide hL
  have HK := hide hk
  have HBAD := hide (fun (k : Nat) (hk : k < n) (h : mayW (opAt L k) = false) => show printT L = ⟨#[]⟩ ∧ printC L = 6 by
    have e : allW L = false := by
      cases g : allW L with
      | false => rfl
      | true =>
        have := allW_at.1 g k (by rw [HN.out]; exact hk)
        rw [h] at this
        cases this
    unfold printT printC
    rw [e]
    exact ⟨rfl, rfl⟩)
  have HGOOD := hide (fun (h : ∀ j, j < n → mayW (opAt L j) = true) => show printT L = txt (printB L) ∧ printC L = 0 by
    have e : allW L = true := allW_at.2 (by rw [HN.out]; exact h)
    unfold printT printC
    rw [e]
    exact ⟨rfl, rfl⟩)
  obtain ⟨PT, hPT⟩ : ∃ PT, printT L = PT := ⟨_, rfl⟩
  obtain ⟨PC, hPC⟩ : ∃ PC, printC L = PC := ⟨_, rfl⟩
  rw [hPT, hPC] at HBAD HGOOD
  rw [hPT, hPC]
  have HW := hide (bld_new w)
  clear hr hn hL hk hPT hPC
  go_enter Tryd.func15, Tryd.ntmps15
  go_wp2
  go_loopw [11] (fun i wr => ∃ k : Nat, k ≤ n ∧ i = .int .i64 (k : Int) ∧ Hid (∀ j, j < k → mayW (opAt L j) = true) ∧ Hid (Bld wr w.heap.size w.heap.size (printB (L.take k))) ∧ Below w.heap.size w wr) (fun i _ => n - (intOf i).toNat)
  case atStart => exact ⟨0, by omega, rfl, hide (fun j hj => absurd hj (Nat.not_lt_zero _)), hide (by rw [List.take_zero]; exact HW.out), below1 _ _⟩
  case round =>
    obtain ⟨k, hk, rfl, HM, HD, hb⟩ := hrel
    have HB := hide hb
    have hpl : (printB (L.take k)).length ≤ 42062 * k := by
      have h2 := print_len (L := L.take k) 42061 (fun o ho => by
        obtain ⟨f, q1, q2⟩ := HL.out o (List.mem_of_mem_take ho)
        have := word_len f
        omega)
      rw [List.length_take, HN.out, Nat.min_eq_left hk] at h2
      exact h2
    by_cases hlt : k < n
    · obtain ⟨b, off, rfl, h⟩ := (HR.out.below hb).get (show k < L.length by rw [HN.out]; exact hlt)
      obtain ⟨g0, g1, g2, g3, g6, g7, g8, ax, cx, ay, cy, g4, g5, ga⟩ := h
      have hLk := HL.out _ (opAt_mem (show k < L.length by rw [HN.out]; exact hlt))
      have CW := fun w' (bw : Below wr.heap.size wr w') => word_any (opAt L k) ax cx ay cy w' hLk.1 (ga.below bw) hLk.2.1 hLk.2.2 (kw_below HK.out (bt HB.out bw)).1 (kw_below HK.out (bt HB.out bw)).2.1 (kw_below HK.out (bt HB.out bw)).2.2
      have hwl : (wordB (opAt L k)).length ≤ 42061 := by have := word_len hLk.1; have := hLk.2.1; have := hLk.2.2; omega
      have hZ := hide (show k = 0 → printB (L.take k) ++ wordB (opAt L k) = printB (L.take (k + 1)) from fun e => by
        rw [take_op (by rw [HN.out]; exact hlt), e]
        rfl)
      have hMo := hide (show k ≠ 0 → (printB (L.take k) ++ [59]) ++ wordB (opAt L k) = printB (L.take (k + 1)) from fun e => by
        have hne : L.take k ≠ [] := fun q => by
          have hl : 0 < (L.take k).length := by rw [List.length_take, HN.out]; omega
          rw [q] at hl
          cases hl
        rw [take_op (by rw [HN.out]; exact hlt), printB_more hne, List.append_assoc]
        rfl)
      have HM2 := hide (fun (h : mayW (opAt L k) = true) => show ∀ j, j < k + 1 → mayW (opAt L j) = true from fun j hj => by
        by_cases e : j = k
        · subst e; exact h
        · exact HM.out j (by omega))
      have hBy := byts_word (opAt L k)
      have HBADk := hide (HBAD.out k hlt)
      unfold opV at CW
      unfold wordT wordC at CW
      clear hLk HBAD HGOOD HM ga HL
      obtain ⟨P2, hp2⟩ : ∃ P2, printB (L.take (k + 1)) = P2 := ⟨_, rfl⟩
      rw [hp2] at hZ hMo
      have HP2 := hide hp2
      clear hp2
      generalize printB (L.take k) = P1 at *
      generalize wordB (opAt L k) = WB at *
      generalize mayW (opAt L k) = mw at *
      generalize (opAt L k).kd = kd at *
      generalize (opAt L k).bd = bo at *
      generalize (opAt L k).sg = sg at *
      generalize (opAt L k).rd = rd at *
      generalize (opAt L k).xs.length = nx at *
      generalize (opAt L k).ys.length = ny at *
      generalize (opAt L k).fl = fl at *
      generalize (opAt L k).wd = wd at *
      generalize (opAt L k).ht = ht at *
      cases mw with
      | false =>
        obtain ⟨rfl, rfl⟩ := HBADk.out rfl
        rw [if_neg (by decide), if_neg (by decide), txt_nil] at CW
        clear hZ hMo HM2 HBADk HD HW
        go_wp2_with (go_at_call 11; (with_reducible refine (CW _ (below1 _ _)).mono ?_); rintro e w3 ⟨rfl, b3⟩)
        have BB := hide (bt HB.out (bt (below1 _ _) b3))
        exact bodyPost_ret (v := .tuple #[.string ⟨#[]⟩, .int .i64 6]) (by simp [results, Tryd.results15, go_sem]) rfl ⟨rfl, BB.out⟩
      | true =>
        rw [if_pos rfl, if_pos rfl] at CW
        have HJ := hide (HM2.out rfl)
        have hts : (txt WB).size ≤ 42061 := by rw [txt_size hBy]; exact hwl
        have htb := byt_txt hBy
        clear HM2 HBADk HW
        generalize txt WB = T at *
        by_cases hk0 : k = 0
        · subst hk0
          have hz := hZ.out rfl
          rw [Nat.zero_mul, Nat.add_zero] at g0 g1 g2 g3 g4 g5 g6 g7 g8
          clear hZ hMo
          go_wp2_with (first
            | (go_at_call 11; (with_reducible refine (CW _ (below1 _ _)).mono ?_); rintro e w3 ⟨rfl, b3⟩; have BB := hide (bt HB.out (bt (below1 _ _) b3)); have D3 := hide (HD.out.below (bt (below1 _ _) b3)))
            | (go_at_call 30; (with_reducible refine (wr_any T _ D3.out (by omega) BB.out.size).mono ?_); rintro e w4 ⟨rfl, d4, b4⟩))
          rw [htb, hz] at d4
          have D4 := hide d4
          have B4 := BB.out.trans b4
          clear d4 b4 b3
          go_roundw
          case rel => exact ⟨0 + 1, by omega, by go_num, HJ, by rw [HP2.out]; exact D4, B4⟩
          case measure => simp [intOf]; omega
        · have hm := hMo.out hk0
          have hk1 : 0 < (k : Int) := by omega
          clear hZ hMo
          go_wp2_with (first
            | (go_at_call 11; (with_reducible refine (CW _ (below1 _ _)).mono ?_); rintro e w3 ⟨rfl, b3⟩; have BB := hide (bt HB.out (bt (below1 _ _) b3)); have D3 := hide (HD.out.below (bt (below1 _ _) b3)); clear CW)
            | (go_at_call 30; go_loud (with_reducible refine (wr_any ⟨#[59]⟩ _ D3.out (by have := semi_size; omega) BB.out.size).mono ?_); rintro e w4 ⟨rfl, d4, b4⟩; rw [byt_semi] at d4; have D4 := hide d4; have B4 := hide (BB.out.trans b4); clear D3)
            | (go_at_call 30; (with_reducible refine (wr_any T _ D4.out (by rw [List.length_append, List.length_singleton]; omega) B4.out.size).mono ?_); rintro e w5 ⟨rfl, d5, b5⟩))
          rw [htb, hm] at d5
          have D5 := hide d5
          have B5 := B4.out.trans b5
          clear d5 b5 b3 d4 b4
          go_roundw
          case rel => exact ⟨k + 1, by omega, by go_num, HJ, by rw [HP2.out]; exact D5, B5⟩
          case measure => simp [intOf]; omega
    · obtain rfl : k = n := by omega
      have he : L.take k = L := List.take_of_length_le (by rw [HN.out]; exact Nat.le_refl _)
      rw [he] at HD
      obtain ⟨e1, e2⟩ := HGOOD.out HM.out
      subst e1 e2
      have hy := byts_print L
      clear HBAD HGOOD HM he
      obtain ⟨P1, hP1⟩ : ∃ P1, printB L = P1 := ⟨_, rfl⟩
      rw [hP1] at hy HD
      have CS := bstr_any hy wr HD.out HB.out.size
      obtain ⟨T, hT⟩ : ∃ T, txt P1 = T := ⟨_, rfl⟩
      rw [hT] at CS
      have HT := hide (show txt (printB L) = T by rw [hP1]; exact hT)
      clear hP1 hT hy HD hb HW
      go_wp2_with (go_at_call 31; (with_reducible refine CS.mono ?_); rintro e w3 ⟨rfl, b3⟩)
      exact bodyPost_ret (v := .tuple #[.string T, .int .i64 0]) (by simp [results, Tryd.results15, go_sem]) rfl ⟨by rw [HT.out], HB.out.trans b3⟩
end Go.Proofs.YtlknopmpbkepjaaDoor
