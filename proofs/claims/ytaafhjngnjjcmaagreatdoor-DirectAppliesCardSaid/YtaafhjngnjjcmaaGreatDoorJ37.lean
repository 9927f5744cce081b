/- Parts, joined. -/
import Derived.Test.YtaafhjngnjjcmaaGreatDoorJ26
import Derived.Test.YtaafhjngnjjcmaaGreatDoorJ32
import Derived.Test.YtaafhjngnjjcmaaGreatDoorJ35
import Derived.Test.YtaafhjngnjjcmaaGreatDoorJ29
import Derived.Test.YtaafhjngnjjcmaaGreatDoorJ33
import Derived.Test.YtaafhjngnjjcmaaGreatDoorJ36
import Derived.Deep.LoopGhost
import Derived.Deep.RegionHeld3
/- Plans: what the laws' own stage answers. Written by gen_XS14D.py. -/
namespace Go.Proofs.YtaafhjngnjjcmaaGreatDoor
open Go.RowKit


theorem S3.grown {w w' : World} {R : Nat} {v0 v1 v2 : Value} {row : Option Nat} (h : S3 w R v0 v1 v2) (g : w.grownBy w' row) (ne : some R ≠ row) : S3 w' R v0 v1 v2 := by
  obtain ⟨⟨a, a'⟩, ⟨b, b'⟩, ⟨c, c'⟩⟩ := h
  exact ⟨⟨cg g ne a, fg g ne a a'⟩, ⟨cg g ne b, fg g ne b b'⟩, ⟨cg g ne c, fg g ne c c'⟩⟩
end Go.Proofs.YtaafhjngnjjcmaaGreatDoor

/- What comes out: all samples (Apply). -/
namespace Go.Proofs.YtaafhjngnjjcmaaGreatDoor
open Go.RowKit

/-- What Apply answers. -/
def ApplyAns (B : Nat) (e : Ending) (w' : World) (k : Int) (J : Im) : Prop := (k = 0 ∧ ∃ v, e = .returned (.tuple #[v, .int .i64 0]) ∧ ImgNew B w' v J) ∨ (k ≠ 0 ∧ e = .returned (.tuple #[.pointer none, .int .i64 k]))
set_option maxHeartbeats 4000000 in
set_option maxRecDepth 100000 in
theorem apply_bad {w : World} {g h : Nat} {I : Im} {x y : Value} {S : Stg} (hk : OpK w) (H : ImgAt w g h I) (tx : Tab w x S.fx S.lx) (ty : Tab w y S.fy S.ly) (hz : suitsF I S = false) :
    Calls Tryz.prog 16 #[.pointer (some ⟨g, 0, none⟩), .agg #[x, y, .int .i64 S.sb]] w fun e w' => ApplyAns w.heap.size e w' (stepC I S) (applyF I S) ∧ Below w.heap.size w w' := by
  have CS := fun w' (b : Below w.heap.size w w') => dir_suits (opk_below _ _ hk b) (H.below b) (tx.below b) (ty.below b)
  have e6 : stepC I S = 6 := by unfold stepC; rw [hz]; rfl
  rw [hz] at CS
  have HA := hide (fun (w' : World) => show ApplyAns w.heap.size (.returned (.tuple #[.pointer none, .int .i64 6])) w' (stepC I S) (applyF I S) from .inr (by rw [e6]; exact ⟨by decide, rfl⟩))
  clear e6 hz hk H
  obtain ⟨ax, rfl⟩ := tx.ptr
  obtain ⟨ay, rfl⟩ := ty.ptr
  clear tx ty
  go_enter Tryz.func16, Tryz.ntmps16
  go_wp2_with (go_at_call 23; (with_reducible refine (CS _ (below1 _ _)).mono ?_); rintro e w1 ⟨rfl, b1⟩)
  exact bodyPost_ret (v := .tuple #[.pointer none, .int .i64 6]) (by simp [results, Tryz.results16, go_sem]) rfl ⟨HA.out _, bt (below1 _ _) b1⟩
set_option maxHeartbeats 4000000 in
set_option maxRecDepth 100000 in
theorem apply_far {w : World} {g h : Nat} {I : Im} {x y : Value} {S : Stg} (hk : OpK w) (H : ImgAt w g h I) (tx : Tab w x S.fx S.lx) (ty : Tab w y S.fy S.ly) (hz : suitsF I S = true) (hf : fitsF (S.lx.length : Int) (S.ly.length : Int) I.ic = false) :
    Calls Tryz.prog 16 #[.pointer (some ⟨g, 0, none⟩), .agg #[x, y, .int .i64 S.sb]] w fun e w' => ApplyAns w.heap.size e w' (stepC I S) (applyF I S) ∧ Below w.heap.size w w' := by
  have CS := fun w' (b : Below w.heap.size w w') => dir_suits (opk_below _ _ hk b) (H.below b) (tx.below b) (ty.below b)
  have e5 : stepC I S = 5 := by unfold stepC; rw [hz, hf]; rfl
  rw [hz] at CS
  have HA := hide (fun (w' : World) => show ApplyAns w.heap.size (.returned (.tuple #[.pointer none, .int .i64 5])) w' (stepC I S) (applyF I S) from .inr (by rw [e5]; exact ⟨by decide, rfl⟩))
  have hc : codeF (S.lx.length : Int) (S.ly.length : Int) I.ic I.it = 5 := by
    obtain ⟨_, _, _, _, c0, t0, t1, _, _, _⟩ := H.ok
    unfold codeF
    rw [if_neg (by omega), hf]
    rfl
  have CN := fun w' => new_no (S.lx.length : Int) (S.ly.length : Int) I.ic I.it (by rw [hc]; decide) w'
  rw [hc] at CN
  have CX := fun w' (b : Below w.heap.size w w') => tab_to (tx.below b)
  have CY := fun w' (b : Below w.heap.size w w') => tab_to (ty.below b)
  have CC := fun w' (b : Below w.heap.size w w') => img_channels (H.below b)
  have CM := fun w' (b : Below w.heap.size w w') => img_most (H.below b)
  clear e5 hz hk H hc hf
  obtain ⟨ax, rfl⟩ := tx.ptr
  obtain ⟨ay, rfl⟩ := ty.ptr
  have T0 := hide (S3.new w 44 (.pointer (some ax)) (.pointer (some ay)) (.int .i64 S.sb))
  clear tx ty
  generalize S.lx.length = N at *
  generalize S.ly.length = M at *
  generalize S.sb = sb at *
  generalize I.ic = ic at *
  generalize I.it = it at *
  go_enter Tryz.func16, Tryz.ntmps16
  go_wp2_with (go_at_call 23; (with_reducible refine (CS _ (below1 _ _)).mono ?_); rintro e w1 ⟨rfl, b1⟩; have T1 := hide (T0.out.below b1); have B1 := hide (bt (below1 _ _) b1); clear b1)
  obtain ⟨⟨t0, _⟩, ⟨t1, _⟩, ⟨t2, _⟩⟩ := T1.out
  go_cut [4, 6, 7] (fun a o e wx => a = .pointer none ∧ o = .pointer none ∧ e = .int .i64 5 ∧ Below w.heap.size w wx)
  case first =>
    go_region_held3 (fun w' => w'.cell? ⟨w.heap.size, 0, none⟩ = some (.pointer (some ax)) ∧ w'.cell? ⟨w.heap.size, 1, none⟩ = some (.pointer (some ay))) (first | with_reducible assumption | (with_reducible exact ⟨t0, t1⟩) | (with_reducible exact ⟨x0, x1⟩) | (with_reducible exact ⟨y0, y1⟩) | go_keep)
      (first
        | (go_at_call 18; (with_reducible refine (CX _ (bt B1.out (by repeat (first | exact Below.refl _ _ | (with_reducible refine bdN ?_ _) | with_reducible refine bd ?_)))).mono ?_); rintro e w3 ⟨rfl, b3⟩; have K3 := hide (bt (show Below w1.heap.size w1 _ by repeat (first | exact Below.refl _ _ | (with_reducible refine bdN ?_ _) | with_reducible refine bd ?_)) b3); obtain ⟨⟨x0, _⟩, ⟨x1, _⟩, _⟩ := T1.out.below K3.out; clear b3)
        | (go_at_call 18; (with_reducible refine (CY _ (bt B1.out (bt K3.out (by repeat (first | exact Below.refl _ _ | (with_reducible refine bdN ?_ _) | with_reducible refine bd ?_))))).mono ?_); rintro e w4 ⟨rfl, b4⟩; have K4 := hide (bt (bt K3.out (show Below w3.heap.size w3 _ by repeat (first | exact Below.refl _ _ | (with_reducible refine bdN ?_ _) | with_reducible refine bd ?_))) b4); obtain ⟨⟨y0, _⟩, ⟨y1, _⟩, _⟩ := T1.out.below K4.out; clear b4)
        | (go_at_call 29; (with_reducible refine (CC _ (bt B1.out (bt K4.out (by repeat (first | exact Below.refl _ _ | (with_reducible refine bdN ?_ _) | with_reducible refine bd ?_))))).mono ?_); rintro e w5 ⟨rfl, rfl⟩)
        | (go_at_call 13; (with_reducible refine (CM _ (bt B1.out (bt K4.out (by repeat (first | exact Below.refl _ _ | (with_reducible refine bdN ?_ _) | with_reducible refine bd ?_))))).mono ?_); rintro e w6 ⟨rfl, rfl⟩)
        | (go_at_call 46; (with_reducible refine (CN _).mono ?_); rintro e w7 ⟨rfl, rfl⟩))
    all_goals
      go_wp2_with fail
      go_meet
      exact ⟨rfl, rfl, rfl, bt B1.out (bt K4.out (by repeat (first | exact Below.refl _ _ | (with_reducible refine bdN ?_ _) | with_reducible refine bd ?_)))⟩
  case rest =>
    obtain ⟨rfl, rfl, rfl, hb⟩ := hcut
    have HB := hide hb
    clear hb
    go_wp2
    exact bodyPost_ret (v := .tuple #[.pointer none, .int .i64 5]) (by simp [results, Tryz.results16, go_sem]) rfl ⟨HA.out _, HB.out⟩
end Go.Proofs.YtaafhjngnjjcmaaGreatDoor

/- What comes out: all samples (Apply): the image. -/
namespace Go.Proofs.YtaafhjngnjjcmaaGreatDoor
open Go.RowKit

set_option maxHeartbeats 16000000 in
set_option maxRecDepth 100000 in
theorem apply_main {w : World} {g h : Nat} {I : Im} {x y : Value} {S : Stg} (hk : OpK w) (H : ImgAt w g h I) (tx : Tab w x S.fx S.lx) (ty : Tab w y S.fy S.ly) (hs : SmallS S) (hz : suitsF I S = true) (hf : fitsF (S.lx.length : Int) (S.ly.length : Int) I.ic = true) :
    Calls Tryz.prog 16 #[.pointer (some ⟨g, 0, none⟩), .agg #[x, y, .int .i64 S.sb]] w fun e w' => ApplyAns w.heap.size e w' (stepC I S) (applyF I S) ∧ Below w.heap.size w w' := by
  have CS := fun w' (b : Below w.heap.size w w') => dir_suits (opk_below _ _ hk b) (H.below b) (tx.below b) (ty.below b)
  have e0 : stepC I S = 0 := by unfold stepC; rw [hz, hf]; rfl
  rw [hz] at CS
  have hI := H.ok
  obtain ⟨_, _, _, _, c0, t0', t1', _, _, _⟩ := id hI
  obtain ⟨C, hC⟩ : ∃ C : Nat, I.ic = (C : Int) := ⟨I.ic.toNat, by omega⟩
  have hCt : I.ic.toNat = C := by omega
  have hc : codeF (S.lx.length : Int) (S.ly.length : Int) I.ic I.it = 0 := by
    unfold codeF
    rw [if_neg (by omega), hf]
    rfl
  have hs' := hz
  unfold suitsF at hs'
  simp only [Bool.and_eq_true, decide_eq_true_eq] at hs'
  obtain ⟨⟨⟨efx, efy⟩, s0⟩, s1⟩ := hs'
  have okx := tx.ok.1
  have lyn := ty.ok.2.2.1
  have lxn := tx.ok.2.2.1
  have HA := hide (fun (w' : World) (g2 h2 : Nat) (hg : w.heap.size ≤ g2) (hh : w.heap.size ≤ h2) (q : ImgAt w' g2 h2 (partI I S (S.ly.length * S.lx.length * I.ic.toNat))) => show ApplyAns w.heap.size (.returned (.tuple #[.pointer (some ⟨g2, 0, none⟩), .int .i64 0])) w' (stepC I S) (applyF I S) from .inl ⟨e0, _, rfl, g2, h2, rfl, hg, hh, by rw [← part_all]; exact q⟩)
  have CN := fun w' => new_yes (S.lx.length : Int) (S.ly.length : Int) I.ic I.it hc w'
  rw [part_zero (S := S) (by omega)] at CN
  have CX := fun w' (b : Below w.heap.size w w') => tab_to (tx.below b)
  have CY := fun w' (b : Below w.heap.size w w') => tab_to (ty.below b)
  have CC := fun w' (b : Below w.heap.size w w') => img_channels (H.below b)
  have CM := fun w' (b : Below w.heap.size w w') => img_most (H.below b)
  obtain ⟨N, hN⟩ : ∃ N, S.lx.length = N := ⟨_, rfl⟩
  obtain ⟨M, hM⟩ : ∃ M, S.ly.length = M := ⟨_, rfl⟩
  have CCO := hide (fun w' (b : Below w.heap.size w w') => dir_columns (yv := y) (tx.below b) hs.2.2 N hN)
  have CRW := hide (fun w' (q : Tab w' y S.fy S.ly) (i : Int) (i0 : -9223372036854775808 ≤ i) (i1 : i ≤ 9223372036854775807) => row_any (xv := x) q hs.2.1 s0 s1 i i0 i1)
  -- the image that is made
  have OH := hide (fun w' g2 h2 k (q : ImgAt w' g2 h2 (partI I S k)) => show Calls Tryz.prog 19 #[.pointer (some ⟨g2, 0, none⟩)] w' fun e w'' => e = .returned (.int .i64 (M : Int)) ∧ w' = w'' from by
    have := img_height q
    rw [show (partI I S k).ih = (M : Int) by rw [← hM]; rfl] at this
    exact this)
  have OC := hide (fun w' g2 h2 k (q : ImgAt w' g2 h2 (partI I S k)) => show Calls Tryz.prog 29 #[.pointer (some ⟨g2, 0, none⟩)] w' fun e w'' => e = .returned (.int .i64 (C : Int)) ∧ w' = w'' from by
    have := img_channels q
    rw [show (partI I S k).ic = (C : Int) from hC] at this
    exact this)
  have OM := hide (fun w' g2 h2 k (q : ImgAt w' g2 h2 (partI I S k)) => show Calls Tryz.prog 13 #[.pointer (some ⟨g2, 0, none⟩)] w' fun e w'' => e = .returned (.int .i64 I.it) ∧ w' = w'' from by have := img_most q; exact this)
  have OS := hide (fun w' g2 h2 (xx yy c : Nat) (hx : xx < N) (hy : yy < M) (hcc : c < C) (q : ImgAt w' g2 h2 (partI I S ((yy * N + xx) * C + c))) => show Calls Tryz.prog 30 #[.pointer (some ⟨g2, 0, none⟩), .int .i64 (xx : Int), .int .i64 (yy : Int), .int .i64 (c : Int), .int .u16 (roundF (sumF I S xx yy (c : Int)) I.it)] w' fun e w'' => e = .returned (.bool true) ∧ ImgAt w'' g2 h2 (partI I S ((yy * N + xx) * C + c + 1)) ∧ w'.grownBy w'' (some h2) from by
    have p := part_set hI (S := S) (x := xx) (y := yy) (c := c) (by omega) (by omega) (by omega)
    have o := outF_at (I := I) (S := S) (x := xx) (y := yy) (c := c) (by omega) (by omega)
    rw [sumW_small hI hs] at o
    rw [hN, hCt] at p o
    rw [o] at p
    have := img_set_yes q (xx : Int) (yy : Int) (c : Int) (roundF (sumF I S xx yy (c : Int)) I.it) p.2.2.1 p.2.2.2 p.1
    rw [p.2.1] at this
    exact this)
  have OB := hide (fun (xx yy c : Nat) => show -9223372036854775808 ≤ sumF I S xx yy (c : Int) ∧ sumF I S xx yy (c : Int) ≤ 9223372036854775807 from by
    have := sumI_in hI hs (xx : Int) (yy : Int) (c : Int)
    rw [sumI_at] at this
    omega)
  have HX16 := hide (fun w' g2 h2 k (q : ImgAt w' g2 h2 (partI I S k)) (b : Nat) (z : Int) (e : some h2 = some b) => show w'.cell? ⟨b, 0, none⟩ ≠ some (.int .i64 z) from by
    obtain rfl := Option.some.inj e
    obtain ⟨_, _, _, _, _, _, r, _, _, _, ok⟩ := q
    have c := r.at (imOk_len ok).1
    rw [Nat.zero_add] at c
    rw [c]
    intro q2
    cases q2)
  have HH := hide H
  have HTY := hide ty
  have HII := hide hI
  have HOX := hide okx
  have HSM := hide hs
  have HZ := hide hz
  have HL := H.lt
  have HCE := hide hC
  have HEY := hide efy
  have HEX := hide efx
  obtain ⟨ax, rfl⟩ := tx.ptr
  obtain ⟨ay, rfl⟩ := ty.ptr
  have T0 := hide (S3.new w 44 (.pointer (some ax)) (.pointer (some ay)) (.int .i64 S.sb))
  simp only [hN] at CX CN
  simp only [hM] at CY CN
  rw [hC] at CC CN
  rw [hN] at HA lxn
  rw [hM, hCt] at HA
  rw [hM] at lyn
  have c3 : C = 1 ∨ C = 3 := by omega
  have HNN := hide hN
  have HMM := hide hM
  clear tx ty hk H hI hf hs hz e0 hc hCt efx efy s0 s1 okx hN hM hC c0
  obtain ⟨sb, hsb⟩ : ∃ sb, S.sb = sb := ⟨_, rfl⟩
  rw [hsb] at CS T0 CCO CRW ⊢
  have HSB := hide hsb
  clear hsb
  obtain ⟨it, hit⟩ : ∃ it, I.it = it := ⟨_, rfl⟩
  rw [hit] at CM CN OM OS t0' t1'
  clear hit
  go_enter Tryz.func16, Tryz.ntmps16
  go_wp2_with (go_at_call 23; (with_reducible refine (CS _ (below1 _ _)).mono ?_); rintro e w1 ⟨rfl, b1⟩; have T1 := hide (T0.out.below b1); have B1 := hide (bt (below1 _ _) b1); clear b1)
  obtain ⟨⟨t0, _⟩, ⟨t1, _⟩, ⟨t2, _⟩⟩ := T1.out
  go_cut [6, 7] (fun o e wx => (∃ g2 h2, o = .pointer (some ⟨g2, 0, none⟩) ∧ w1.heap.size ≤ g2 ∧ w1.heap.size ≤ h2 ∧ ImgAt wx g2 h2 (partI I S 0)) ∧ e = .int .i64 0 ∧ Below w1.heap.size w1 wx)
  case first =>
    go_region_held3 (fun w' => w'.cell? ⟨w.heap.size, 0, none⟩ = some (.pointer (some ax)) ∧ w'.cell? ⟨w.heap.size, 1, none⟩ = some (.pointer (some ay))) (first | with_reducible assumption | (with_reducible exact ⟨t0, t1⟩) | (with_reducible exact ⟨x0, x1⟩) | (with_reducible exact ⟨y0, y1⟩) | (with_reducible exact ⟨v0, v1⟩) | go_keep)
      (first
        | (go_at_call 18; (with_reducible refine (CX _ (bt B1.out (by repeat (first | exact Below.refl _ _ | (with_reducible refine bdN ?_ _) | with_reducible refine bd ?_)))).mono ?_); rintro e w3 ⟨rfl, b3⟩; have K3 := hide (bt (show Below w1.heap.size w1 _ by repeat (first | exact Below.refl _ _ | (with_reducible refine bdN ?_ _) | with_reducible refine bd ?_)) b3); obtain ⟨⟨x0, _⟩, ⟨x1, _⟩, _⟩ := T1.out.below K3.out; clear b3)
        | (go_at_call 18; (with_reducible refine (CY _ (bt B1.out (bt K3.out (by repeat (first | exact Below.refl _ _ | (with_reducible refine bdN ?_ _) | with_reducible refine bd ?_))))).mono ?_); rintro e w4 ⟨rfl, b4⟩; have K4 := hide (bt (bt K3.out (show Below w3.heap.size w3 _ by repeat (first | exact Below.refl _ _ | (with_reducible refine bdN ?_ _) | with_reducible refine bd ?_))) b4); obtain ⟨⟨y0, _⟩, ⟨y1, _⟩, _⟩ := T1.out.below K4.out; clear b4)
        | (go_at_call 29; (with_reducible refine (CC _ (bt B1.out (bt K4.out (by repeat (first | exact Below.refl _ _ | (with_reducible refine bdN ?_ _) | with_reducible refine bd ?_))))).mono ?_); rintro e w5 ⟨rfl, rfl⟩)
        | (go_at_call 13; (with_reducible refine (CM _ (bt B1.out (bt K4.out (by repeat (first | exact Below.refl _ _ | (with_reducible refine bdN ?_ _) | with_reducible refine bd ?_))))).mono ?_); rintro e w6 ⟨rfl, rfl⟩)
        | (go_at_call 46; (with_reducible refine (CN _).mono ?_); rintro e w7 ⟨vo, rfl, ⟨g2, h2, rfl, hg2, hh2, hq⟩, b7⟩; have K7 := hide (bt (bt K4.out (show Below w4.heap.size w4 _ by repeat (first | exact Below.refl _ _ | (with_reducible refine bdN ?_ _) | with_reducible refine bd ?_))) b7); have KN := hide (And.intro hg2 (And.intro hh2 hq)); obtain ⟨⟨v0, _⟩, ⟨v1, _⟩, _⟩ := T1.out.below K7.out; have KS := hide (show w1.heap.size ≤ _ from (bt K4.out (show Below w4.heap.size w4 _ by repeat (first | exact Below.refl _ _ | (with_reducible refine bdN ?_ _) | with_reducible refine bd ?_))).size); clear hg2 hh2 hq b7))
    all_goals
      go_wp2_with fail
      go_meet
      obtain ⟨k0, k1, k2⟩ := KN.out
      exact ⟨⟨g2, h2, rfl, Nat.le_trans KS.out k0, Nat.le_trans KS.out k1, by repeat (first | exact k2 | (with_reducible refine ImgAt.below ?_ (bd (Below.refl _ _))))⟩, rfl, by repeat (first | exact K7.out | (with_reducible refine bdN ?_ _) | with_reducible refine bd ?_)⟩
  case rest =>
    obtain ⟨⟨g2, h2, rfl, hg2, hh2, hq⟩, rfl, hb⟩ := hcut
    have HQ0 := hide hq
    have HB0 := hide hb
    have T2 := hide (T1.out.below hb)
    obtain ⟨⟨t0, _⟩, ⟨t1, _⟩, ⟨t2, _⟩⟩ := T2.out
    have hl2 := (HQ0.out.lt).2
    have hw1 : w.heap.size < w1.heap.size := cell_ltL T1.out.1.1
    have HN9 := hide (show (some w.heap.size : Option Nat) ≠ some h2 from fun e => by have := Option.some.inj e; omega)
    have HN7 := hide (show (some g : Option Nat) ≠ some h2 from fun e => by have := Option.some.inj e; omega)
    have HN8 := hide (show (some h : Option Nat) ≠ some h2 from fun e => by have := Option.some.inj e; omega)
    clear hb hq T1 T0
    go_wp2_with (first
      | (go_at_call 47; (with_reducible refine (CCO.out _ (bt B1.out HB0.out)).mono ?_); rintro e w3 ⟨⟨hc, rfl, hhc, hcol⟩, b3⟩; have KCO := hide hcol; have HHC := hide hhc; have HQ3 := hide (HQ0.out.below b3); have K3 := hide (bt HB0.out b3); have T3 := hide (T2.out.below b3); clear hcol hhc b3)
      | (go_at_call 19; (with_reducible refine (OH.out _ _ _ 0 HQ3.out).mono ?_); rintro e w4 ⟨rfl, rfl⟩))
    clear t0 t1 t2 CS CX CY CN CC CM T2
    go_loopg [39] M (fun r i wr => ∃ yy : Nat, yy + r = M ∧ i = .int .i64 (yy : Int) ∧ ImgAt wr g2 h2 (partI I S (yy * N * C)) ∧ w3.grownBy wr (some h2))
    case atStart => exact ⟨0, by omega, rfl, by rw [Nat.zero_mul, Nat.zero_mul]; exact HQ3.out, grown_refl _ _⟩
    case round =>
      obtain ⟨yy, hyy, rfl, hq, hg⟩ := hrel
      have HQ := hide hq
      have HG := hide hg
      have HYY := hide hyy
      clear hq hg hyy
      obtain ⟨G, hG⟩ : ∃ G, G = gk := ⟨_, rfl⟩
      subst hG
      by_cases hlt : yy < M
      · have T4 := hide (T3.out.grown HG.out HN9.out)
        obtain ⟨⟨t0, _⟩, ⟨t1, _⟩, ⟨t2, _⟩⟩ := T4.out
        have CR1 := CRW.out wr ((HTY.out.below (bt B1.out K3.out)).kept HG.out (fun b z e => HX16.out _ _ _ _ HQ3.out b z e)) (yy : Int) (by omega) (by omega)
        have HI4 := hide ((HH.out.below (bt B1.out K3.out)).grown HG.out HN7.out HN8.out)
        obtain ⟨n, hn⟩ : ∃ n : Nat, I.iw * I.ic = (n : Int) := ⟨(I.iw * I.ic).toNat, by have := row_in HII.out (y := 0) (by omega) (by have := HII.out.2.2.1; omega); omega⟩
        have n1 : 1 ≤ n ∧ n ≤ 196608 := by have := row_in HII.out (y := 0) (by omega) (by have := HII.out.2.2.1; omega); omega
        have HNI := hide hn
        clear hn
        go_wp2_with (first
          | (go_at_call 49; (with_reducible refine CR1.mono ?_); rintro e w4 ⟨⟨P, W, NN, u, v, cu, cv, rfl, hP, hW, ru, rv, fu, fv, hga⟩, b4⟩; have HP := hide hP; have HW := hide hW; have HGA := hide hga; have HRU := hide ru; have HRV := hide rv; have K4 := hide b4; clear hP hW ru rv fu fv hga b4)
          | (go_at_call 48; (with_reducible refine (dir_down (HI4.out.below K4.out) P W NN HP.out HW.out u v cu cv HRU.out HRV.out (fun k hk => by rw [← HEY.out]; exact HGA.out.pin k (by rw [HP.out]; exact hk)) HGA.out.small (by rw [← HW.out]; exact HGA.out.most) n HNI.out).mono ?_); rintro e w5 ⟨s, rfl, own, b5⟩; obtain ⟨tb, tc, rfl, htb, _, hrow, _, _⟩ := own_row own (dnL_len I P W n NN 0) n1.1; have HRT := hide hrow; have HTB := hide htb; have K5 := hide (bt K4.out b5); have K45 := hide K4.out.size; clear own hrow htb b5))
        have HTV := hide (fun (j : Nat) (hj : j < n) => show -549747425280 ≤ (dnL I P W n NN 0).getD j 0 ∧ (dnL I P W n NN 0).getD j 0 ≤ 549747425280 from by
          rw [dnL_at I P W NN 0 hj, if_neg (Nat.not_lt_zero _)]
          exact small_row HGA.out.small (by rw [HW.out]; exact Nat.le_refl _) (fun q _ => imRow_in HII.out _ _))
        have HSUM := hide (fun (xx c : Nat) (hxx : xx < N) (hcc : c < C) => show tapS (lnAt S.lx xx).2 (fun k => (dnL I P W n NN 0).getD ((spanTo S.sb (lnAt S.lx xx).1 S.fx (lnAt S.lx xx).2.length).getD k 0 * (C : Int) + (c : Int)).toNat 0) (lnAt S.lx xx).2.length = sumF I S xx yy (c : Int) from by
          have ga := HGA.out
          rw [lnI_at, ← HSB.out, HEY.out] at ga
          have lk := HOX.out xx (by rw [HNN.out]; exact hxx)
          have := sum_down HII.out HZ.out (x := xx) (y := yy) (c := c) (by rw [HCE.out]; omega) HP.out HW.out HNI.out ga ⟨lk.1, lk.2.1, lk.2.2.2.1⟩
          rw [HCE.out] at this
          exact this)
        have HTL := hide (dnL_len I P W n NN 0)
        generalize dnL I P W n NN 0 = TL at *
        clear t0 t1 t2 CR1 HGA HRU HRV HP HW
        have HQ5 := hide (HQ.out.below K5.out)
        have HH5 := hide (show h2 < tb from by have := HTB.out; have := HQ.out.lt.2; have := K45.out; omega)
        clear HTB
        go_loopg [49] N (fun r i w6 => ∃ xx : Nat, xx + r = N ∧ i = .int .i64 (xx : Int) ∧ ImgAt w6 g2 h2 (partI I S ((yy * N + xx) * C)) ∧ w5.grownBy w6 (some h2))
        case atStart => exact ⟨0, by omega, rfl, HQ5.out, grown_refl _ _⟩
        case round =>
          obtain ⟨xx, hxx, rfl, hq, hg⟩ := hrel
          have HQX := hide hq
          have HGX := hide hg
          have HXX := hide hxx
          clear hq hg hxx
          obtain ⟨G2, hG2⟩ : ∃ G2, G2 = gk := ⟨_, rfl⟩
          subst hG2
          by_cases hlt2 : xx < N
          · have GA := hide ((HG.out.trans (grown_below K5.out _)).trans HGX.out)
            obtain ⟨pb, po, pc, wb, wo, wc', k0, k1, rp, rw', b0, b1, _, _⟩ := (KCO.out xx hlt2).grown GA.out (by omega) HHC.out
            have HRT6 := hide (HRT.out.grown HGX.out (fun e => by have := Option.some.inj e; have := HH5.out; omega))
            have HRP6 := hide rp
            have HRW6 := hide rw'
            have hp2 : pb ≠ h2 := by omega
            have hw2 : wb ≠ h2 := by omega
            have lk := HOX.out xx (by rw [HNN.out]; exact hlt2)
            obtain ⟨lk0, lk1, lk2, lk3, _⟩ := lk
            have sm := HSM.out.1 xx (by rw [HNN.out]; exact hlt2)
            have hpin : ∀ k, k < (lnAt S.lx xx).2.length → 0 ≤ (spanTo S.sb (lnAt S.lx xx).1 S.fx (lnAt S.lx xx).2.length).getD k 0 ∧ (spanTo S.sb (lnAt S.lx xx).1 S.fx (lnAt S.lx xx).2.length).getD k 0 < I.iw := by
              intro k hk
              have hz := HZ.out
              unfold suitsF at hz
              simp only [Bool.and_eq_true, decide_eq_true_eq] at hz
              obtain ⟨⟨⟨efx, _⟩, s0⟩, s1⟩ := hz
              have hi := HII.out
              have := span_in (n := S.fx) s0 s1 (by rw [efx]; exact hi.1) (by rw [efx]; exact hi.2.1) lk0 lk1 lk3 k hk
              rw [efx] at this ⊢
              exact this
            have HSU := hide (fun (c : Nat) (hcc : c < C) => HSUM.out xx c hlt2 hcc)
            have HSL := hide (spanTo_len S.sb (lnAt S.lx xx).1 S.fx (lnAt S.lx xx).2.length)
            have HLP := hide (fun (c : Nat) (hcc : c < C) (k : Nat) (hk : k < (lnAt S.lx xx).2.length) => show 0 ≤ (spanTo S.sb (lnAt S.lx xx).1 S.fx (lnAt S.lx xx).2.length).getD k 0 ∧ (spanTo S.sb (lnAt S.lx xx).1 S.fx (lnAt S.lx xx).2.length).getD k 0 * (C : Int) + (c : Int) < (n : Int) ∧ (spanTo S.sb (lnAt S.lx xx).1 S.fx (lnAt S.lx xx).2.length).getD k 0 ≤ 65536 from by
              obtain ⟨q0, q1⟩ := hpin k hk
              have e := HNI.out
              rw [HCE.out] at e
              have := HII.out.2.1
              exact ⟨q0, place_lt q0 q1 hcc e, by omega⟩)
            generalize spanTo S.sb (lnAt S.lx xx).1 S.fx (lnAt S.lx xx).2.length = PX at *
            obtain ⟨WX, hWX⟩ : ∃ WX, (lnAt S.lx xx).2 = WX := ⟨_, rfl⟩
            rw [hWX] at k0 k1 lk3 sm HSU HSL HLP HRW6
            obtain ⟨m, hm⟩ : ∃ m, WX.length = m := ⟨_, rfl⟩
            rw [hm] at k0 k1 lk3 HSU HSL HLP
            have HM := hide hm
            have HSMX := hide sm
            have CAL := hide (fun w' (c : Nat) (hcc : c < C) (r1 : RowAt .i64 w' (some ⟨pb, po, none⟩) PX) (r2 : RowAt .i64 w' (some ⟨wb, wo, none⟩) WX) (r3 : RowAt .i64 w' (some ⟨tb, 0, none⟩) TL) => show Calls Tryz.prog 50 #[.agg #[.slice (some ⟨pb, po, none⟩) m pc, .slice (some ⟨wb, wo, none⟩) m wc'], .slice (some ⟨tb, 0, none⟩) n tc, .int .i64 (C : Int), .int .i64 (c : Int)] w' fun e w'' => e = .returned (.int .i64 (sumF I S xx yy (c : Int))) ∧ Below w'.heap.size w' w'' from by
              have := line_along PX WX TL m n HSL.out HM.out HTL.out _ _ _ pc wc' tc (C : Int) (c : Int) w' r1 r2 r3 lk3 (by omega) (by omega) (by omega) (by omega) (HLP.out c hcc) HSMX.out HTV.out
              rw [HSU.out c hcc] at this
              exact this)
            have hlt2' := hlt2
            obtain ⟨W6, hW6⟩ : ∃ W6, wr.alloc (.cells #[.slice (some ⟨pb, po, none⟩) m pc, .slice (some ⟨wb, wo, none⟩) m wc'] 92) = W6 := ⟨_, rfl⟩
            have B6 := hide (show Below wr.heap.size wr W6 by rw [← hW6]; exact below1 _ _)
            have L6 := hide (show W6.cell? ⟨wr.heap.size, 0, none⟩ = some (.slice (some ⟨pb, po, none⟩) m pc) ∧ W6.cell? ⟨wr.heap.size, 1, none⟩ = some (.slice (some ⟨wb, wo, none⟩) m wc') by rw [← hW6]; constructor <;> simp)
            have HQ6 := hide (HQX.out.below B6.out)
            obtain ⟨R6, hR6⟩ : ∃ R6, wr.heap.size = R6 := ⟨_, rfl⟩
            rw [hR6] at L6
            have HN6 := hide (show (some R6 : Option Nat) ≠ some h2 from fun e => by have := Option.some.inj e; have := HQX.out.lt.2; omega)
            have HRP7 := hide (HRP6.out.below B6.out)
            have HRW7 := hide (HRW6.out.below B6.out)
            have HRT7 := hide (HRT6.out.below B6.out)
            have NP := hide (show (some pb : Option Nat) ≠ some h2 from fun e => hp2 (Option.some.inj e))
            have NW := hide (show (some wb : Option Nat) ≠ some h2 from fun e => hw2 (Option.some.inj e))
            have NT := hide (show (some tb : Option Nat) ≠ some h2 from fun e => by have := Option.some.inj e; have := HH5.out; omega)
            clear hp2 hw2 lk0 lk1 lk2 sm hpin hWX hm rp rw' b0 b1 HRP6 HRW6 HRT6 HSL HLP HSU
            go_upto_region 14 with fail
            clear hW6 k0 k1
            go_wp2_with (go_at_call 29; (with_reducible refine (OC.out _ _ _ _ HQ6.out).mono ?_); rintro e w7 ⟨rfl, rfl⟩)
            go_loopg [56] C (fun r i w8 => ∃ c : Nat, c + r = C ∧ i = .int .i64 (c : Int) ∧ ImgAt w8 g2 h2 (partI I S ((yy * N + xx) * C + c)) ∧ W6.grownBy w8 (some h2))
            case atStart => exact ⟨0, by omega, rfl, HQ6.out, grown_refl _ _⟩
            case round =>
              obtain ⟨c, hcc, rfl, hq, hg⟩ := hrel
              have HQC := hide hq
              have HGC := hide hg
              have HCC := hide hcc
              clear hq hg hcc
              by_cases hlt3 : c < C
              · have l0 := cg HGC.out HN6.out L6.out.1
                have l1 := cg HGC.out HN6.out L6.out.2
                have RP := hide (HRP7.out.grown HGC.out NP.out)
                have RW := hide (HRW7.out.grown HGC.out NW.out)
                have RT := hide (HRT7.out.grown HGC.out NT.out)
                have ob := OB.out xx yy c
                have CA := CAL.out
                have CAC := fun w' r1 r2 r3 => CAL.out w' c hlt3 r1 r2 r3
                have CSET := fun w' (q : ImgAt w' g2 h2 (partI I S ((yy * N + xx) * C + c))) => OS.out w' g2 h2 xx yy c hlt2' hlt hlt3 q
                have COM := fun w' (q : ImgAt w' g2 h2 (partI I S ((yy * N + xx) * C + c))) => OM.out w' g2 h2 _ q
                have COC := fun w' (q : ImgAt w' g2 h2 (partI I S ((yy * N + xx) * C + c))) => OC.out w' g2 h2 _ q
                obtain ⟨V, hV⟩ : ∃ V, sumF I S xx yy (c : Int) = V := ⟨_, rfl⟩
                rw [hV] at ob
                simp only [hV] at CAC CSET
                obtain ⟨ob0, ob1⟩ := ob
                have CRD := fun w' => dir_round V it ob0 ob1 w'
                obtain ⟨R, hR⟩ : ∃ R, roundF V it = R := ⟨_, rfl⟩
                simp only [hR] at CSET CRD
                clear hV hR CA ob0 ob1
                go_wp2_with fail
                go_region_held3 (fun w' => w'.cell? ⟨R6, 0, none⟩ = some (.slice (some ⟨pb, po, none⟩) m pc) ∧ w'.cell? ⟨R6, 1, none⟩ = some (.slice (some ⟨wb, wo, none⟩) m wc')) (first | with_reducible assumption | (with_reducible exact ⟨l0, l1⟩) | (with_reducible exact ⟨s0, s1⟩) | (with_reducible exact ⟨u0, u1⟩) | (with_reducible exact ⟨v0, v1⟩) | go_keep)
                  (first
                    | (go_at_call 29; (with_reducible refine (COC _ (HQC.out.below (by repeat (first | exact Below.refl _ _ | (with_reducible refine bdN ?_ _) | with_reducible refine bd ?_)))).mono ?_); rintro e w9 ⟨rfl, rfl⟩)
                    | (go_at_call 50; (with_reducible refine (CAC _ (RP.out.below (by repeat (first | exact Below.refl _ _ | (with_reducible refine bdN ?_ _) | with_reducible refine bd ?_))) (RW.out.below (by repeat (first | exact Below.refl _ _ | (with_reducible refine bdN ?_ _) | with_reducible refine bd ?_))) (RT.out.below (by repeat (first | exact Below.refl _ _ | (with_reducible refine bdN ?_ _) | with_reducible refine bd ?_)))).mono ?_); rintro e wa ⟨rfl, ba'⟩; have KA := hide (bt (show Below wr.heap.size wr _ by repeat (first | exact Below.refl _ _ | (with_reducible refine bdN ?_ _) | with_reducible refine bd ?_)) ba'); have s0 := cb KA.out (cell_ltL l0) l0; have s1 := cb KA.out (cell_ltL l1) l1; clear ba')
                    | (go_at_call 13; (with_reducible refine (COM _ (HQC.out.below (bt KA.out (by repeat (first | exact Below.refl _ _ | (with_reducible refine bdN ?_ _) | with_reducible refine bd ?_))))).mono ?_); rintro e wb' ⟨rfl, rfl⟩)
                    | (go_at_call 26; (with_reducible refine (CRD _).mono ?_); rintro e wd ⟨rfl, bd'⟩; have KD := hide (bt (bt KA.out (show Below wa.heap.size wa _ by repeat (first | exact Below.refl _ _ | (with_reducible refine bdN ?_ _) | with_reducible refine bd ?_))) bd'); have u0 := cb KD.out (cell_ltL l0) l0; have u1 := cb KD.out (cell_ltL l1) l1; clear bd')
                    | (go_at_call 30; (with_reducible refine (CSET _ (HQC.out.below (bt KD.out (by repeat (first | exact Below.refl _ _ | (with_reducible refine bdN ?_ _) | with_reducible refine bd ?_))))).mono ?_); rintro e we ⟨rfl, qe, ge⟩; have KE := hide ((grown_below (bt KD.out (show Below wd.heap.size wd _ by repeat (first | exact Below.refl _ _ | (with_reducible refine bdN ?_ _) | with_reducible refine bd ?_))) _).trans ge); have QE := hide qe; have v0 := cg KE.out HN6.out l0; have v1 := cg KE.out HN6.out l1; clear qe ge))
                go_wp2
                go_roundg (gk - 1)
                case measure => have := HCC.out; omega
                case rel => exact ⟨c + 1, by have := HCC.out; omega, by go_num, QE.out, HGC.out.trans KE.out⟩
              · obtain rfl : C = c := by have := HCC.out; omega
                have e1 := Nat.succ_mul (yy * N + xx) C
                have QF := HQC.out
                rw [← e1] at QF
                have QF2 := hide QF
                clear QF e1 hlt3
                go_wp2
                go_roundg (G2 - 1)
                case measure => have := HXX.out; omega
                case rel => exact ⟨xx + 1, by have := HXX.out; omega, by go_num, QF2.out, (HGX.out.trans (grown_below B6.out _)).trans HGC.out⟩
          · obtain rfl : N = xx := by have := HXX.out; omega
            have e1 := Nat.succ_mul yy N
            have QF := HQX.out
            rw [← e1] at QF
            have QF2 := hide QF
            clear QF e1 hlt2
            go_wp2
            go_roundg (G - 1)
            case measure => have := HYY.out; omega
            case rel => exact ⟨yy + 1, by have := HYY.out; omega, by go_num, QF2.out, (HG.out.trans (grown_below K5.out _)).trans HGX.out⟩
      · obtain rfl : M = yy := by have := HYY.out; omega
        clear hlt
        go_wp2
        exact bodyPost_ret (v := .tuple #[.pointer (some ⟨g2, 0, none⟩), .int .i64 0]) (by simp [results, Tryz.results16, go_sem]) rfl ⟨HA.out _ g2 h2 (by omega) (by omega) HQ.out, (bt B1.out K3.out).grown HG.out ((bt B1.out K3.out).size) (fun j hj => by have := Option.some.inj hj; omega)⟩
theorem dir_apply {w : World} {g h : Nat} {I : Im} {x y : Value} {S : Stg} (hk : OpK w) (H : ImgAt w g h I) (tx : Tab w x S.fx S.lx) (ty : Tab w y S.fy S.ly) (hs : SmallS S) :
    Calls Tryz.prog 16 #[.pointer (some ⟨g, 0, none⟩), .agg #[x, y, .int .i64 S.sb]] w fun e w' => ApplyAns w.heap.size e w' (stepC I S) (applyF I S) ∧ Below w.heap.size w w' := by
  cases hz : suitsF I S with
  | false => exact apply_bad hk H tx ty hz
  | true =>
    cases hf : fitsF (S.lx.length : Int) (S.ly.length : Int) I.ic with
    | false => exact apply_far hk H tx ty hz hf
    | true => exact apply_main hk H tx ty hs hz hf
end Go.Proofs.YtaafhjngnjjcmaaGreatDoor
