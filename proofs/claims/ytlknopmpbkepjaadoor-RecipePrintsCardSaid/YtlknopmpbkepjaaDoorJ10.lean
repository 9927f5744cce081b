/- Parts, joined. -/
import Derived.Test.YtlknopmpbkepjaaDoorJ08
import Derived.Test.YtlknopmpbkepjaaDoorJ09
import Derived.Test.YtlknopmpbkepjaaDoorJ06
import Derived.Test.YtlknopmpbkepjaaDoorJ07
import Derived.Test.YtlknopmpbkepjaaDoorJ02
import Derived.Laws.RangeAny
import Derived.Shelf.Strings.Cut
/- Operations as texts: the document's Word. -/
namespace Go.Proofs.YtlknopmpbkepjaaDoor
open Go.RowKit


theorem txt_isEmpty {l : List Int} (h : Byts l) : (txt l).toList.isEmpty = l.isEmpty := by rw [byt_empty, byt_txt h]
theorem byts_sgn (k : Int) : Byts (sgnB k) := fun _ h => sgn_in h
theorem byts_bord (k : Int) : Byts (bordB k) := fun _ h => by have := bord_mem h; omega
theorem byts_filt (k : Int) : Byts (filtB k) := fun _ h => by have := filt_mem h; omega
theorem byts_mul : Byts mulB := fun _ h => by have := mul_mem h; omega
theorem byts_app {a b : List Int} (ha : Byts a) (hb : Byts b) : Byts (a ++ b) := fun x h => (List.mem_append.1 h).elim (ha x) (hb x)
theorem byts_one {c : Int} (h0 : 0 ≤ c) (h1 : c ≤ 255) : Byts [c] := fun x h => by rw [List.mem_singleton] at h; omega
theorem bord_ne {b : Int} (h : 0 ≤ b ∧ b ≤ 2) : bordB b ≠ [] := by
  rcases (show b = 0 ∨ b = 1 ∨ b = 2 by omega) with rfl | rfl | rfl <;> decide
theorem filt_ne {b : Int} (h : 0 ≤ b ∧ b ≤ 2) : filtB b ≠ [] := by
  rcases (show b = 0 ∨ b = 1 ∨ b = 2 by omega) with rfl | rfl | rfl <;> decide
theorem sgn_nil {b : Int} (h : b < 0 ∨ 3 < b) : sgnB b = [] := by unfold sgnB; rw [if_neg (by omega), if_neg (by omega), if_neg (by omega), if_neg (by omega)]
theorem bord_nil {b : Int} (h : b < 0 ∨ 2 < b) : bordB b = [] := by unfold bordB; rw [if_neg (by omega), if_neg (by omega), if_neg (by omega)]
theorem filt_nil {b : Int} (h : b < 0 ∨ 2 < b) : filtB b = [] := by unfold filtB; rw [if_neg (by omega), if_neg (by omega), if_neg (by omega)]
theorem isEmpty_no {l : List Int} (h : Byts l) (hn : l ≠ []) : (txt l).toList.isEmpty = false := by
  rw [txt_isEmpty h]
  cases l with
  | nil => exact absurd rfl hn
  | cons a l => rfl
/-- A word's text out of its parts. -/
theorem word_txt (o : Opr) : txt (sgnB o.kd) ++ txt (bodyB o) ++ ⟨#[124]⟩ ++ txt (bordB o.bd) = txt (wordB o) := by
  rw [show (⟨#[124]⟩ : ByteArray) = txt [124] from rfl, txt_app (byts_sgn _) (byts_body o), txt_app (byts_app (byts_sgn _) (byts_body o)) (byts_one (by decide) (by decide)), txt_app (byts_app (byts_app (byts_sgn _) (byts_body o)) (byts_one (by decide) (by decide))) (byts_bord _)]
  congr 1
  unfold wordB
  simp
/-- What Word answers. -/
def wordT (o : Opr) : ByteArray := txt (if mayW o = true then wordB o else [])
set_option maxHeartbeats 4000000 in
set_option maxRecDepth 100000 in
theorem dword_bad (o : Opr) (ax : Option Addr) (cx : Nat) (ay : Option Addr) (cy : Nat) (w : World) (h : mayW o = false) :
    Calls Tryd.prog 9 #[opV o ax cx ay cy] w fun e w' => e = .returned (.tuple #[.string ⟨#[]⟩, .bool false]) ∧ Below w.heap.size w w' := by
  have hn : ¬ (0 ≤ o.kd ∧ o.kd ≤ 3 ∧ 0 ≤ o.bd ∧ o.bd ≤ 2 ∧ (o.kd = 3 → 0 ≤ o.fl ∧ o.fl ≤ 2)) := fun g => by rw [mayW_iff.2 g] at h; cases h
  have CS := fun w => dsign13_any o.kd w
  have CB := fun w => dbord_any o.bd w
  have CF := fun w => dfilt_any o.fl w
  unfold opV
  obtain ⟨kd, bd, sg, rd, xs, ys, fl, wd, ht⟩ := o
  simp only at *
  clear h
  generalize xs.length = nx at *
  generalize ys.length = ny at *
  by_cases a1 : 0 ≤ kd ∧ kd ≤ 3
  case neg =>
    rw [sgn_nil (by omega), txt_nil] at CS
    clear hn a1
    go_enter Tryd.func9, Tryd.ntmps9
    go_wp2_with (go_at_call 18; (with_reducible refine (CS _).mono ?_); rintro e w1 ⟨rfl, rfl⟩)
    exact bodyPost_ret (v := .tuple #[.string ⟨#[]⟩, .bool false]) (by simp [results, Tryd.results9, go_sem]) rfl ⟨rfl, below1 _ _⟩
  have e1 := isEmpty_no (byts_sgn kd) (sgn_ne a1)
  have s1 : (txt (sgnB kd)).size ≤ 3 := by rw [txt_size (byts_sgn kd)]; exact sgn_len kd
  by_cases a2 : 0 ≤ bd ∧ bd ≤ 2
  case neg =>
    rw [bord_nil (by omega), txt_nil] at CB
    generalize txt (sgnB kd) = S at *
    clear hn a1 a2
    go_enter Tryd.func9, Tryd.ntmps9
    go_wp2_with (first
      | (go_at_call 18; (with_reducible refine (CS _).mono ?_); rintro e w1 ⟨rfl, rfl⟩)
      | (go_at_call 20; (with_reducible refine (CB _).mono ?_); rintro e w1 ⟨rfl, rfl⟩))
    exact bodyPost_ret (v := .tuple #[.string ⟨#[]⟩, .bool false]) (by simp [results, Tryd.results9, go_sem]) rfl ⟨rfl, below1 _ _⟩
  have e2 := isEmpty_no (byts_bord bd) (bord_ne a2)
  have k3 : kd = 3 := by
    by_cases k : kd = 3
    · exact k
    · exact absurd ⟨a1.1, a1.2, a2.1, a2.2, fun q => absurd q k⟩ hn
  subst k3
  have a3 : fl < 0 ∨ 2 < fl := by
    by_cases k : 0 ≤ fl ∧ fl ≤ 2
    · exact absurd ⟨a1.1, a1.2, a2.1, a2.2, fun _ => k⟩ hn
    · omega
  rw [filt_nil a3, txt_nil] at CF
  generalize txt (sgnB 3) = S at *
  generalize txt (bordB bd) = B at *
  clear hn a1 a2 a3
  go_enter Tryd.func9, Tryd.ntmps9
  go_wp2_with (first
    | (go_at_call 18; (with_reducible refine (CS _).mono ?_); rintro e w1 ⟨rfl, rfl⟩)
    | (go_at_call 20; (with_reducible refine (CB _).mono ?_); rintro e w1 ⟨rfl, rfl⟩)
    | (go_at_call 24; (with_reducible refine (CF _).mono ?_); rintro e w1 ⟨rfl, rfl⟩))
  exact bodyPost_ret (v := .tuple #[.string ⟨#[]⟩, .bool false]) (by simp [results, Tryd.results9, go_sem]) rfl ⟨rfl, below1 _ _⟩
set_option maxHeartbeats 4000000 in
set_option maxRecDepth 100000 in
theorem dword_one (o : Opr) (ax : Option Addr) (cx : Nat) (ay : Option Addr) (cy : Nat) (w : World) (h : mayW o = true) (hF : FitW o) (k3 : o.kd = 0 ∨ o.kd = 1) :
    Calls Tryd.prog 9 #[opV o ax cx ay cy] w fun e w' => e = .returned (.tuple #[.string (txt (wordB o)), .bool true]) ∧ Below w.heap.size w w' := by
  obtain ⟨k0, k1, b0, b1, _⟩ := mayW_iff.1 h
  have CS := fun w => dsign13_any o.kd w
  have CB := fun w => dbord_any o.bd w
  have CD0 := fun w => ddeci_any o.sg (hF.1 _ (by simp)) w
  have CD1 := fun w => ddeci_any o.rd (hF.1 _ (by simp)) w
  have e1 := isEmpty_no (byts_sgn o.kd) (sgn_ne ⟨k0, k1⟩)
  have e2 := isEmpty_no (byts_bord o.bd) (bord_ne ⟨b0, b1⟩)
  have s1 : (txt (sgnB o.kd)).size ≤ 3 := by rw [txt_size (byts_sgn _)]; exact sgn_len _
  have s2 : (txt (bordB o.bd)).size ≤ 6 := by rw [txt_size (byts_bord _)]; exact bord_len _
  have s3 : (txt (intF o.sg)).size ≤ 20 := by rw [txt_size (byts_int _)]; exact intF_20 (hF.1 _ (by simp))
  have s4 : (txt (intF o.rd)).size ≤ 20 := by rw [txt_size (byts_int _)]; exact intF_20 (hF.1 _ (by simp))
  have HW := hide (word_txt o)
  have hb0 : o.kd = 0 → bodyB o = intF o.sg := fun e => if_pos e
  have hb1 : o.kd = 1 → bodyB o = intF o.rd := fun e => (if_neg (by omega)).trans (if_pos e)
  unfold opV
  generalize txt (wordB o) = T at *
  generalize bodyB o = BD at *
  obtain ⟨kd, bd, sg, rd, xs, ys, fl, wd, ht⟩ := o
  simp only at *
  clear h hF k0 k1 b0 b1
  generalize xs.length = nx at *
  generalize ys.length = ny at *
  rcases k3 with rfl | rfl
  · have hB := hb0 rfl
    subst hB
    clear hb0 hb1 CD1 s4
    generalize txt (sgnB 0) = S at *
    generalize txt (bordB bd) = B at *
    generalize txt (intF sg) = D at *
    go_enter Tryd.func9, Tryd.ntmps9
    go_upto_region 15 with (first
      | (go_at_call 18; (with_reducible refine (CS _).mono ?_); rintro e w1 ⟨rfl, rfl⟩)
      | (go_at_call 20; (with_reducible refine (CB _).mono ?_); rintro e w1 ⟨rfl, rfl⟩)
      | (go_at_call 21; (with_reducible refine (CD0 _).mono ?_); rintro e w2 ⟨rfl, b2⟩; have p := (P9.new w 34 0 bd sg rd (.slice ax nx cx) (.slice ay ny cy) fl wd ht).below b2; obtain ⟨p0, p1, p2, p3, p4, p5, p6, p7, p8⟩ := p))
    go_quiet (first
      | (go_at_call 18; (with_reducible exact calm CS _ _))
      | (go_at_call 20; (with_reducible exact calm CB _ _)))
    go_wp2
    exact bodyPost_ret (v := .tuple #[.string (S ++ D ++ ⟨#[124]⟩ ++ B), .bool true]) (by simp [results, Tryd.results9, go_sem]) rfl ⟨by rw [HW.out], bdN (bt (below1 _ _) b2) _⟩
  · have hB := hb1 rfl
    subst hB
    clear hb0 hb1 CD0 s3
    generalize txt (sgnB 1) = S at *
    generalize txt (bordB bd) = B at *
    generalize txt (intF rd) = D at *
    go_enter Tryd.func9, Tryd.ntmps9
    go_upto_region 15 with (first
      | (go_at_call 18; (with_reducible refine (CS _).mono ?_); rintro e w1 ⟨rfl, rfl⟩)
      | (go_at_call 20; (with_reducible refine (CB _).mono ?_); rintro e w1 ⟨rfl, rfl⟩)
      | (go_at_call 21; (with_reducible refine (CD1 _).mono ?_); rintro e w2 ⟨rfl, b2⟩; have p := (P9.new w 34 1 bd sg rd (.slice ax nx cx) (.slice ay ny cy) fl wd ht).below b2; obtain ⟨p0, p1, p2, p3, p4, p5, p6, p7, p8⟩ := p))
    go_quiet (first
      | (go_at_call 18; (with_reducible exact calm CS _ _))
      | (go_at_call 20; (with_reducible exact calm CB _ _)))
    go_wp2
    exact bodyPost_ret (v := .tuple #[.string (S ++ D ++ ⟨#[124]⟩ ++ B), .bool true]) (by simp [results, Tryd.results9, go_sem]) rfl ⟨by rw [HW.out], bdN (bt (below1 _ _) b2) _⟩
set_option maxHeartbeats 4000000 in
set_option maxRecDepth 100000 in
theorem dword_two (o : Opr) (ax : Option Addr) (cx : Nat) (ay : Option Addr) (cy : Nat) (w : World) (h : mayW o = true) (hF : FitW o) (hA : OpAt w o ax cx ay cy) (l1 : o.xs.length ≤ 1000) (l2 : o.ys.length ≤ 1000) (k3 : o.kd = 2) :
    Calls Tryd.prog 9 #[opV o ax cx ay cy] w fun e w' => e = .returned (.tuple #[.string (txt (wordB o)), .bool true]) ∧ Below w.heap.size w w' := by
  obtain ⟨k0, k1, b0, b1, _⟩ := mayW_iff.1 h
  have CS := fun w => dsign13_any o.kd w
  have CB := fun w => dbord_any o.bd w
  have CM := fun w => dmul_any w
  have CX := fun w' (b : Below w.heap.size w w') => dlist_any o.xs o.xs.length rfl (by omega) hF.2.1 ax cx w' (hA.1.below b)
  have CY := fun w' (b : Below w.heap.size w w') => dlist_any o.ys o.ys.length rfl (by omega) hF.2.2 ay cy w' (hA.2.1.below b)
  have e1 := isEmpty_no (byts_sgn o.kd) (sgn_ne ⟨k0, k1⟩)
  have e2 := isEmpty_no (byts_bord o.bd) (bord_ne ⟨b0, b1⟩)
  have s1 : (txt (sgnB o.kd)).size ≤ 3 := by rw [txt_size (byts_sgn _)]; exact sgn_len _
  have s2 : (txt (bordB o.bd)).size ≤ 6 := by rw [txt_size (byts_bord _)]; exact bord_len _
  have s3 : (txt (rowB o.xs)).size ≤ 21000 := by rw [txt_size (byts_row _)]; have := rowB_len hF.2.1; omega
  have s4 : (txt (rowB o.ys)).size ≤ 21000 := by rw [txt_size (byts_row _)]; have := rowB_len hF.2.2; omega
  have s5 : (txt mulB).size ≤ 2 := by rw [txt_size byts_mul]; decide
  have HW := hide (show txt (sgnB o.kd) ++ (txt (rowB o.xs) ++ txt mulB ++ txt (rowB o.ys)) ++ ⟨#[124]⟩ ++ txt (bordB o.bd) = txt (wordB o) by
    rw [← word_txt o, txt_app (byts_row _) byts_mul, txt_app (byts_app (byts_row _) byts_mul) (byts_row _), List.append_assoc, show bodyB o = rowB o.xs ++ (mulB ++ rowB o.ys) from (if_neg (by omega)).trans ((if_neg (by omega)).trans (if_pos k3))])
  unfold opV
  generalize txt (wordB o) = T at *
  obtain ⟨kd, bo, sg, rd, xs, ys, fl, wd, ht⟩ := o
  simp only at *
  subst k3
  clear h hF k0 k1 b0 b1 hA
  generalize txt (sgnB 2) = S at *
  generalize txt (bordB bo) = B at *
  generalize txt (rowB xs) = X at *
  generalize txt (rowB ys) = Y at *
  generalize txt mulB = M at *
  generalize xs.length = nx at *
  generalize ys.length = ny at *
  have HP := hide (P9.new w 34 2 bo sg rd (.slice ax nx cx) (.slice ay ny cy) fl wd ht)
  go_enter Tryd.func9, Tryd.ntmps9
  go_upto_region 10 with (first
    | (go_at_call 18; (with_reducible refine (CS _).mono ?_); rintro e w1 ⟨rfl, rfl⟩)
    | (go_at_call 20; (with_reducible refine (CB _).mono ?_); rintro e w1 ⟨rfl, rfl⟩))
  obtain ⟨W0, hW0⟩ : ∃ W0, w.alloc (.cells #[.int .i64 2, .int .i64 bo, .int .i64 sg, .int .i64 rd, .slice ax nx cx, .slice ay ny cy, .int .i64 fl, .int .i64 wd, .int .i64 ht] 34) = W0 := ⟨_, rfl⟩
  rw [hW0] at HP
  have HB0 := hide (show Below w.heap.size w W0 by rw [← hW0]; exact below1 _ _)
  simp only [hW0]
  clear hW0
  obtain ⟨g0, g1, g2, g3, g4, g5, g6, g7, g8⟩ := HP.out
  have n1 : ¬ (9223372036854775807 < X.size + M.size) := by omega
  have n2 : ¬ (9223372036854775807 < X.size + M.size + Y.size) := by omega
  go_region_held3 (fun w' => w'.cell? ⟨w.heap.size, 4, none⟩ = some (.slice ax nx cx) ∧ w'.cell? ⟨w.heap.size, 5, none⟩ = some (.slice ay ny cy)) (first | assumption | go_keep)
    (first
      | (go_at_call 22; (with_reducible refine (CX _ (bd HB0.out)).mono ?_); rintro e w2 ⟨rfl, b2⟩; have B2 := hide (bt (bd (Below.refl W0.heap.size W0)) b2); have y2 := And.intro (cb B2.out (cell_ltL g0) g4) (cb B2.out (cell_ltL g0) g5))
      | (go_at_call 23; (with_reducible refine (CM _).mono ?_); rintro e w3 ⟨rfl, rfl⟩)
      | (go_at_call 22; (with_reducible refine (CY _ (bt HB0.out B2.out)).mono ?_); rintro e w4 ⟨rfl, b4⟩; have B4 := hide (bt B2.out b4); have y4 := And.intro (cb B4.out (cell_ltL g0) g4) (cb B4.out (cell_ltL g0) g5)))
  all_goals
    have c0 := cb B4.out (cell_ltL g0) g0
    have c1 := cb B4.out (cell_ltL g0) g1
    have BZ := hide (bt HB0.out B4.out)
    clear b2 b4 y2 y4 CX CY g0 g1 g2 g3 g4 g5 g6 g7 g8
    go_upto_region 15 with fail
    go_quiet (first
      | (go_at_call 18; (with_reducible exact calm CS _ _))
      | (go_at_call 20; (with_reducible exact calm CB _ _)))
    go_wp2
    exact bodyPost_ret (v := .tuple #[.string (S ++ (X ++ M ++ Y) ++ ⟨#[124]⟩ ++ B), .bool true]) (by simp [results, Tryd.results9, go_sem]) rfl ⟨by rw [HW.out], bdN BZ.out _⟩
set_option maxHeartbeats 4000000 in
set_option maxRecDepth 100000 in
theorem dword_three (o : Opr) (ax : Option Addr) (cx : Nat) (ay : Option Addr) (cy : Nat) (w : World) (h : mayW o = true) (hF : FitW o) (k3 : o.kd = 3) :
    Calls Tryd.prog 9 #[opV o ax cx ay cy] w fun e w' => e = .returned (.tuple #[.string (txt (wordB o)), .bool true]) ∧ Below w.heap.size w w' := by
  obtain ⟨k0, k1, b0, b1, hf⟩ := mayW_iff.1 h
  have CS := fun w => dsign13_any o.kd w
  have CB := fun w => dbord_any o.bd w
  have CF := fun w => dfilt_any o.fl w
  have CM := fun w => dmul_any w
  have CX := fun w => ddeci_any o.wd (hF.1 _ (by simp)) w
  have CY := fun w => ddeci_any o.ht (hF.1 _ (by simp)) w
  have e1 := isEmpty_no (byts_sgn o.kd) (sgn_ne ⟨k0, k1⟩)
  have e2 := isEmpty_no (byts_bord o.bd) (bord_ne ⟨b0, b1⟩)
  have e3 := isEmpty_no (byts_filt o.fl) (filt_ne (hf k3))
  have s1 : (txt (sgnB o.kd)).size ≤ 3 := by rw [txt_size (byts_sgn _)]; exact sgn_len _
  have s2 : (txt (bordB o.bd)).size ≤ 6 := by rw [txt_size (byts_bord _)]; exact bord_len _
  have s3 : (txt (intF o.wd)).size ≤ 20 := by rw [txt_size (byts_int _)]; exact intF_20 (hF.1 _ (by simp))
  have s4 : (txt (intF o.ht)).size ≤ 20 := by rw [txt_size (byts_int _)]; exact intF_20 (hF.1 _ (by simp))
  have s5 : (txt mulB).size ≤ 2 := by rw [txt_size byts_mul]; decide
  have s6 : (txt (filtB o.fl)).size ≤ 7 := by rw [txt_size (byts_filt _)]; exact filt_len _
  have HW := hide (show txt (sgnB o.kd) ++ (txt (intF o.wd) ++ txt mulB ++ txt (intF o.ht) ++ ⟨#[44]⟩ ++ txt (filtB o.fl)) ++ ⟨#[124]⟩ ++ txt (bordB o.bd) = txt (wordB o) by
    rw [← word_txt o, show (⟨#[44]⟩ : ByteArray) = txt [44] from rfl, txt_app (byts_int _) byts_mul, txt_app (byts_app (byts_int _) byts_mul) (byts_int _), txt_app (byts_app (byts_app (byts_int _) byts_mul) (byts_int _)) (byts_one (by decide) (by decide)), txt_app (byts_app (byts_app (byts_app (byts_int _) byts_mul) (byts_int _)) (byts_one (by decide) (by decide))) (byts_filt _),
      show bodyB o = intF o.wd ++ (mulB ++ (intF o.ht ++ 44 :: filtB o.fl)) from (if_neg (by omega)).trans ((if_neg (by omega)).trans (if_neg (by omega)))]
    simp)
  unfold opV
  generalize txt (wordB o) = T at *
  obtain ⟨kd, bo, sg, rd, xs, ys, fl, wd, ht⟩ := o
  simp only at *
  subst k3
  clear h hF k0 k1 b0 b1 hf
  generalize txt (sgnB 3) = S at *
  generalize txt (bordB bo) = B at *
  generalize txt (filtB fl) = F at *
  generalize txt (intF wd) = X at *
  generalize txt (intF ht) = Y at *
  generalize txt mulB = M at *
  generalize xs.length = nx at *
  generalize ys.length = ny at *
  have HP := hide (P9.new w 34 3 bo sg rd (.slice ax nx cx) (.slice ay ny cy) fl wd ht)
  go_enter Tryd.func9, Tryd.ntmps9
  go_upto_region 14 with (first
    | (go_at_call 18; (with_reducible refine (CS _).mono ?_); rintro e w1 ⟨rfl, rfl⟩)
    | (go_at_call 20; (with_reducible refine (CB _).mono ?_); rintro e w1 ⟨rfl, rfl⟩)
    | (go_at_call 24; (with_reducible refine (CF _).mono ?_); rintro e w1 ⟨rfl, rfl⟩))
  obtain ⟨W0, hW0⟩ : ∃ W0, w.alloc (.cells #[.int .i64 3, .int .i64 bo, .int .i64 sg, .int .i64 rd, .slice ax nx cx, .slice ay ny cy, .int .i64 fl, .int .i64 wd, .int .i64 ht] 34) = W0 := ⟨_, rfl⟩
  rw [hW0] at HP
  have HB0 := hide (show Below w.heap.size w W0 by rw [← hW0]; exact below1 _ _)
  simp only [hW0]
  clear hW0
  obtain ⟨g0, g1, g2, g3, g4, g5, g6, g7, g8⟩ := HP.out
  have n1 : ¬ (9223372036854775807 < X.size + M.size) := by omega
  have n2 : ¬ (9223372036854775807 < X.size + M.size + Y.size) := by omega
  have n3 : ¬ (9223372036854775807 < X.size + M.size + Y.size + 1) := by omega
  have n4 : ¬ (9223372036854775807 < X.size + M.size + Y.size + 1 + F.size) := by omega
  go_region_held3 (fun w' => w'.cell? ⟨w.heap.size, 6, none⟩ = some (.int .i64 fl) ∧ w'.cell? ⟨w.heap.size, 7, none⟩ = some (.int .i64 wd) ∧ w'.cell? ⟨w.heap.size, 8, none⟩ = some (.int .i64 ht)) (first | assumption | go_keep)
    (first
      | (go_at_call 21; (with_reducible refine (CX _).mono ?_); rintro e w2 ⟨rfl, b2⟩; have B2 := hide (bt (bd (Below.refl W0.heap.size W0)) b2); have y2 := And.intro (cb B2.out (cell_ltL g0) g6) (And.intro (cb B2.out (cell_ltL g0) g7) (cb B2.out (cell_ltL g0) g8)))
      | (go_at_call 23; (with_reducible refine (CM _).mono ?_); rintro e w3 ⟨rfl, rfl⟩)
      | (go_at_call 24; (with_reducible refine (CF _).mono ?_); rintro e w3 ⟨rfl, rfl⟩)
      | (go_at_call 21; (with_reducible refine (CY _).mono ?_); rintro e w4 ⟨rfl, b4⟩; have B4 := hide (bt B2.out b4); have y4 := And.intro (cb B4.out (cell_ltL g0) g6) (And.intro (cb B4.out (cell_ltL g0) g7) (cb B4.out (cell_ltL g0) g8))))
  all_goals
    have c0 := cb B4.out (cell_ltL g0) g0
    have c1 := cb B4.out (cell_ltL g0) g1
    have BZ := hide (bt HB0.out B4.out)
    clear b2 b4 y2 y4 CX CY g0 g1 g2 g3 g4 g5 g6 g7 g8
    go_upto_region 15 with fail
    go_quiet (first
      | (go_at_call 18; (with_reducible exact calm CS _ _))
      | (go_at_call 20; (with_reducible exact calm CB _ _)))
    go_wp2
    exact bodyPost_ret (v := .tuple #[.string (S ++ (X ++ M ++ Y ++ ⟨#[44]⟩ ++ F) ++ ⟨#[124]⟩ ++ B), .bool true]) (by simp [results, Tryd.results9, go_sem]) rfl ⟨by rw [HW.out], bdN BZ.out _⟩
/-- The document's Word, of whatever operation. -/
theorem dword_any (o : Opr) (ax : Option Addr) (cx : Nat) (ay : Option Addr) (cy : Nat) (w : World) (hF : FitW o) (hA : OpAt w o ax cx ay cy) (l1 : o.xs.length ≤ 1000) (l2 : o.ys.length ≤ 1000) :
    Calls Tryd.prog 9 #[opV o ax cx ay cy] w fun e w' => e = .returned (.tuple #[.string (wordT o), .bool (mayW o)]) ∧ Below w.heap.size w w' := by
  unfold wordT
  cases h : mayW o with
  | false => exact dword_bad o ax cx ay cy w h
  | true =>
    obtain ⟨k0, k1, _⟩ := mayW_iff.1 h
    rw [if_pos rfl]
    rcases (show o.kd = 0 ∨ o.kd = 1 ∨ o.kd = 2 ∨ o.kd = 3 by omega) with k | k | k | k
    · exact dword_one o ax cx ay cy w h hF (.inl k)
    · exact dword_one o ax cx ay cy w h hF (.inr k)
    · exact dword_two o ax cx ay cy w h hF hA l1 l2 k
    · exact dword_three o ax cx ay cy w h hF k
end Go.Proofs.YtlknopmpbkepjaaDoor

/- Operations as texts: the program's signs and names; cutting. -/
namespace Go.Proofs.YtlknopmpbkepjaaDoor
open Go.RowKit


def sgnS : ByteArray := ⟨#[207, 131, 226, 150, 161, 226, 138, 151, 226, 134, 148]⟩
theorem sgn_step0 : Utf8.decode sgnS 0 = (963, 2) := by decide +kernel
theorem sgn_step1 : Utf8.decode sgnS 2 = (9633, 3) := by decide +kernel
theorem sgn_step2 : Utf8.decode sgnS 5 = (8855, 3) := by decide +kernel
theorem sgn_step3 : Utf8.decode sgnS 8 = (8596, 3) := by decide +kernel
/-- Where the j-th sign stands. -/
def posT (j : Nat) : Nat := 3 * j - 1
theorem sgn_next (w : World) (j : Nat) (h : j < 4) (ty : TypeId) : (Instr.next (.pointer (some ⟨w.heap.size, 0, none⟩)) true ty).run Tryd.prog (w.iter sgnS (posT j)) = .ok (.tuple #[.bool true, .int .i64 (posT j), .int .i32 (runeB j)]) (w.iter sgnS (posT (j + 1))) := by
  have hz : sgnS.size = 11 := rfl
  rw [run_next_any w sgnS (posT j) ty (by rw [hz]; unfold posT; omega)]
  rcases (show j = 0 ∨ j = 1 ∨ j = 2 ∨ j = 3 by omega) with rfl | rfl | rfl | rfl
  · rw [show posT 0 = 0 from rfl, sgn_step0]; rfl
  · rw [show posT 1 = 2 from rfl, sgn_step1]; rfl
  · rw [show posT 2 = 5 from rfl, sgn_step2]; rfl
  · rw [show posT 3 = 8 from rfl, sgn_step3]; rfl
theorem sgn_last (w : World) (ty : TypeId) : (Instr.next (.pointer (some ⟨w.heap.size, 0, none⟩)) true ty).run Tryd.prog (w.iter sgnS (posT 4)) = .ok (.tuple #[.bool false]) (w.iter sgnS (posT 4)) := run_next_end w sgnS (posT 4) ty (by decide)
theorem iter_below (w : World) (s : ByteArray) (p : Nat) : Below w.heap.size w (w.iter s p) := below1 _ _
/-- The program's Sign. -/
theorem sign_any (k : Int) (w : World) :
    Calls Tryd.prog 19 #[.int .i64 k] w fun e w' => e = .returned (.int .i32 (runeB k)) ∧ Below w.heap.size w w' := by
  obtain ⟨R, hR⟩ : ∃ R, runeB k = R := ⟨_, rfl⟩
  rw [hR]
  have HR := hide hR
  clear hR
  have HS := hide (show sgnS = ⟨#[207, 131, 226, 150, 161, 226, 138, 151, 226, 134, 148]⟩ from rfl)
  have hn := sgn_next w
  have hl := sgn_last w
  rw [HS.out] at hn hl
  have IB := iter_below w ⟨#[207, 131, 226, 150, 161, 226, 138, 151, 226, 134, 148]⟩
  have HN := hide hn
  have HL := hide hl
  have HB := hide IB
  clear hn hl IB HS
  go_enter Tryd.func19, Tryd.ntmps19
  go_wp2
  go_loopw [3] (fun o wr => ∃ j : Nat, j ≤ 4 ∧ o = .int .i64 (j : Int) ∧ Hid (∀ i : Nat, i < j → k ≠ (i : Int)) ∧ wr = w.iter ⟨#[207, 131, 226, 150, 161, 226, 138, 151, 226, 134, 148]⟩ (posT j)) (fun o _ => 4 - (intOf o).toNat)
  case atStart => exact ⟨0, by omega, rfl, hide (fun i hi => absurd hi (Nat.not_lt_zero _)), rfl⟩
  case round =>
    obtain ⟨j, hj, rfl, hne, rfl⟩ := hrel
    by_cases hlt : j < 4
    · have hnx := HN.out j hlt
      by_cases hk : (j : Int) = k
      · subst hk
        have HE := hide (HB.out (posT (j + 1)))
        rw [HR.out] at hnx
        clear HN HL HB hne HR
        generalize posT (j + 1) = p1 at *
        generalize posT j = p0 at *
        go_wp2
        go_ret
        exact ⟨rfl, HE.out⟩
      · have hq : ((j : Int) == k) = false := beq_eq_false_iff_ne.2 hk
        have HX := hide (show ∀ i : Nat, i < j + 1 → k ≠ (i : Int) from fun i hi => by
          by_cases e : i = j
          · subst e; exact fun q => hk q.symm
          · exact hne.out i (by omega))
        clear HL HB hne
        obtain ⟨R1, h1⟩ : ∃ R1, runeB (j : Int) = R1 := ⟨_, rfl⟩
        rw [h1] at hnx
        clear h1
        go_wp2
        go_roundw
        case rel => exact ⟨j + 1, by omega, by go_num, HX, rfl⟩
        case measure => simp [intOf]; omega
    · obtain rfl : j = 4 := by omega
      have hnx := HL.out
      have hz : R = 0 := HR.out.symm.trans (rune_at.2 (by
        have h0 := hne.out 0 (by omega)
        have h1 := hne.out 1 (by omega)
        have h2 := hne.out 2 (by omega)
        have h3 := hne.out 3 (by omega)
        omega))
      have HE := hide (HB.out (posT 4))
      subst hz
      clear HN HL HB hne HR
      go_wp2
      go_ret
      exact ⟨rfl, HE.out⟩
/-- Names, as their bytes. -/
theorem name_txt (p : Int) : nameE p = .string (txt (bordB p)) := by
  unfold nameE bordB
  by_cases h0 : p = 0
  · rw [if_pos h0, if_pos h0]; rfl
  by_cases h1 : p = 1
  · rw [if_neg h0, if_pos h1, if_neg h0, if_pos h1]; rfl
  by_cases h2 : p = 2
  · rw [if_neg h0, if_neg h1, if_pos h2, if_neg h0, if_neg h1, if_pos h2]; rfl
  · rw [if_neg h0, if_neg h1, if_neg h2, if_neg h0, if_neg h1, if_neg h2]; rfl
theorem bname_any (p : Int) (w : World) (hk : NamesE w) :
    Calls Tryd.prog 25 #[.int .i64 p] w fun e w' => e = .returned (.string (txt (bordB p))) ∧ w = w' := by
  rw [← name_txt]
  exact nameE_any p w hk
theorem fname_any (f : Int) (w : World) (hk : Kinds w) :
    Calls Tryd.prog 26 #[.int .i64 f] w fun e w' => e = .returned (.string (txt (filtB f))) ∧ w = w' := by
  obtain ⟨k0, _, k1, _, k2, _⟩ := hk
  by_cases h0 : f = 0
  · subst h0
    have C := fun w => known_yes 0 (by omega) (by omega) w
    go_enter Tryd.func26, Tryd.ntmps26
    go_wp2_with (go_at_call 38; (with_reducible refine (C _).mono ?_); rintro e w1 ⟨rfl, rfl⟩)
    go_ret
    exact ⟨rfl, rfl⟩
  by_cases h1 : f = 1
  · subst h1
    have C := fun w => known_yes 1 (by omega) (by omega) w
    go_enter Tryd.func26, Tryd.ntmps26
    go_wp2_with (go_at_call 38; (with_reducible refine (C _).mono ?_); rintro e w1 ⟨rfl, rfl⟩)
    go_ret
    exact ⟨rfl, rfl⟩
  by_cases h2 : f = 2
  · subst h2
    have C := fun w => known_yes 2 (by omega) (by omega) w
    go_enter Tryd.func26, Tryd.ntmps26
    go_wp2_with (go_at_call 38; (with_reducible refine (C _).mono ?_); rintro e w1 ⟨rfl, rfl⟩)
    go_ret
    exact ⟨rfl, rfl⟩
  · have C := fun w => known_no f (by omega) w
    rw [filt_nil (by omega), txt_nil]
    clear h0 h1 h2 k0 k1 k2
    go_enter Tryd.func26, Tryd.ntmps26
    go_wp2_with (go_at_call 38; (with_reducible refine (C _).mono ?_); rintro e w1 ⟨rfl, rfl⟩)
    go_ret
    exact ⟨rfl, rfl⟩
end Go.Proofs.YtlknopmpbkepjaaDoor
