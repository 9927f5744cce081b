/- Parts, joined. -/
import Derived.Test.YtclgghhpiljgfaaGreatDoorJ30
import Derived.Test.YtclgghhpiljgfaaGreatDoorJ36
import Derived.Test.YtclgghhpiljgfaaGreatDoorJ31
import Derived.Deep.RegionHeld3
/- Operations: little ones. -/
namespace Go.Proofs.YtclgghhpiljgfaaGreatDoor
open Go.RowKit


set_option maxHeartbeats 4000000 in
set_option maxRecDepth 100000 in
theorem little_any (L : List Opr) (n : Nat) (hn : L.length = n) (h1 : n ≤ maxLen) (s : Int) (ad : Option Addr) (cap : Nat) (w : World) (hr : OpsAt w ad L) :
    Calls Tryz.prog 12 #[.slice ad n cap, .int .i64 s] w fun e w' => e = .returned (.bool (!bigB s L n)) ∧ Below w.heap.size w w' := by
  have hm : n ≤ 9223372036854775807 := h1
  have HR := hide hr
  have HN := hide hn
  clear hr hn h1
  go_enter Tryz.func12, Tryz.ntmps12
  go_wp2
  go_loopw [9] (fun i wr => ∃ k : Nat, k ≤ n ∧ i = .int .i64 (k : Int) ∧ Hid (bigB s L k = false) ∧ Below w.heap.size w wr) (fun i _ => n - (intOf i).toNat)
  case atStart => exact ⟨0, by omega, rfl, hide rfl, Below.refl _ _⟩
  case round =>
    obtain ⟨k, hk, rfl, hs, hb⟩ := hrel
    have HB := hide hb
    have hb0 := (HR.out.below hb)
    clear hb
    by_cases hlt : k < n
    · obtain ⟨b, off, rfl, h0, h1, h2, h3, h6, h7, h8, ax, cx, ay, cy, h4, h5, _⟩ := hb0.get (show k < L.length by rw [HN.out]; exact hlt)
      clear hb0
      have hF : BigO s (opAt L k) → (!bigB s L n) = false := fun q => by rw [bigB_stays ((bigB_step s L k).2 (.inr q)) hlt]; rfl
      have hP : ¬ BigO s (opAt L k) → bigB s L (k + 1) = false := fun q => by
        cases e : bigB s L (k + 1) with
        | false => rfl
        | true =>
          rcases (bigB_step s L k).1 e with r | r
          · rw [hs.out] at r; cases r
          · exact absurd r q
      unfold BigO at hF hP
      obtain ⟨o, ho⟩ : ∃ o, opAt L k = o := ⟨_, rfl⟩
      rw [ho] at h0 h1 h2 h3 h6 h7 h8 h4 h5 hF hP
      clear ho
      obtain ⟨kd, bd, sg, rd, xs, ys, fl, wd, ht⟩ := o
      simp only at h0 h1 h2 h3 h6 h7 h8 h4 h5 hF hP
      generalize xs.length = nx at *
      generalize ys.length = ny at *
      have HF := hide hF
      have HP := hide hP
      have HB9 := hide (fun o => ba HB.out o)
      clear hF hP hs
      go_upto_region 4 with fail
      rcases (show (40 : Int) < (nx : Int) ∨ (nx : Int) ≤ 40 by omega) with cF | c1
      · have v := HF.out (.inl (by omega))
        go_wp2
        go_ret
        exact ⟨by first | rfl | (rw [v]; rfl), HB9.out _⟩
      rcases (show (40 : Int) < (ny : Int) ∨ (ny : Int) ≤ 40 by omega) with cF | c2
      · have v := HF.out (.inr (.inl (by omega)))
        go_wp2
        go_ret
        exact ⟨by first | rfl | (rw [v]; rfl), HB9.out _⟩
      rcases (show sg ≤ 262144 ∨ (262144 < sg ∧ 4194304 < sg) ∨ (262144 < sg ∧ sg ≤ 4194304) by omega) with c3 | ⟨c3, c3'⟩ | ⟨c3, cF⟩
      case inr.inr =>
        have v := HF.out (.inr (.inr (.inl ⟨c3, cF⟩)))
        go_wp2
        go_ret
        exact ⟨by first | rfl | (rw [v]; rfl), HB9.out _⟩
      all_goals rcases (show rd ≤ 20 ∨ (20 < rd ∧ 512 ≤ rd) ∨ (20 < rd ∧ rd < 512) by omega) with c4 | ⟨c4, c4'⟩ | ⟨c4, cF⟩
      all_goals try
        have v := HF.out (.inr (.inr (.inr (.inl ⟨c4, cF⟩))))
        go_wp2
        go_ret
        exact ⟨by first | rfl | (rw [v]; rfl), HB9.out _⟩
      all_goals rcases (show wd ≤ s ∨ (s < wd ∧ 65536 < wd) ∨ (s < wd ∧ wd ≤ 65536) by omega) with c5 | ⟨c5, c5'⟩ | ⟨c5, cF⟩
      all_goals try
        have v := HF.out (.inr (.inr (.inr (.inr (.inl ⟨c5, cF⟩)))))
        go_wp2
        go_ret
        exact ⟨by first | rfl | (rw [v]; rfl), HB9.out _⟩
      all_goals rcases (show ht ≤ s ∨ (s < ht ∧ 65536 < ht) ∨ (s < ht ∧ ht ≤ 65536) by omega) with c6 | ⟨c6, c6'⟩ | ⟨c6, cF⟩
      all_goals try
        have v := HF.out (.inr (.inr (.inr (.inr (.inr ⟨c6, cF⟩)))))
        go_wp2
        go_ret
        exact ⟨by first | rfl | (rw [v]; rfl), HB9.out _⟩
      all_goals
        have v := hide (HP.out (by omega))
        go_wp2
        go_roundw
        case rel => exact ⟨k + 1, by omega, by go_num, v.out, HB9.out _⟩
        case measure => simp [intOf]; omega
    · obtain rfl : k = n := by omega
      have hv := hs.out
      clear hb0 hs
      go_wp2
      go_ret
      exact ⟨by rw [hv]; rfl, HB.out⟩
end Go.Proofs.YtclgghhpiljgfaaGreatDoor

/- Operations: the law on operations one behind the other, out of what the program's calls answer. -/
namespace Go.Proofs.YtclgghhpiljgfaaGreatDoor
open Go.RowKit


/-- The program's stages in memory. -/
def StgsAt (w : World) (ad : Option Addr) (n : Nat) (F : Nat → Stg) : Prop :=
  n = 0 ∨ ∃ b off, ad = some ⟨b, off, none⟩ ∧ ∀ j, j < n → ∃ x y, w.cell? ⟨b, off + j * 3, none⟩ = some x ∧ w.cell? ⟨b, off + j * 3 + 1, none⟩ = some y ∧ w.cell? ⟨b, off + j * 3 + 2, none⟩ = some (.int .i64 (F j).sb) ∧ Tab w x (F j).fx (F j).lx ∧ Tab w y (F j).fy (F j).ly
theorem StgsAt.below {w w' : World} {ad : Option Addr} {n : Nat} {F : Nat → Stg} (h : StgsAt w ad n F) (hb : Below w.heap.size w w') : StgsAt w' ad n F := by
  rcases h with h | ⟨b, off, e, h⟩
  · exact .inl h
  · refine .inr ⟨b, off, e, fun j hj => ?_⟩
    obtain ⟨x, y, c0, c1, c2, tx, ty⟩ := h j hj
    exact ⟨x, y, cb hb (cell_ltL c0) c0, cb hb (cell_ltL c0) c1, cb hb (cell_ltL c0) c2, tx.below hb, ty.below hb⟩
theorem StgsAt.get {w : World} {ad : Option Addr} {n : Nat} {F : Nat → Stg} (h : StgsAt w ad n F) {j : Nat} (hj : j < n) : ∃ b off, ad = some ⟨b, off, none⟩ ∧ ∃ x y, w.cell? ⟨b, off + j * 3, none⟩ = some x ∧ w.cell? ⟨b, off + j * 3 + 1, none⟩ = some y ∧ w.cell? ⟨b, off + j * 3 + 2, none⟩ = some (.int .i64 (F j).sb) ∧ Tab w x (F j).fx (F j).lx ∧ Tab w y (F j).fy (F j).ly := by
  rcases h with h | ⟨b, off, e, h⟩
  · omega
  · exact ⟨b, off, e, h j hj⟩
theorem StgsRef.below {w w' : World} {ad : Option Addr} {n : Nat} {F : Nat → Stg} (h : StgsRef w ad n F) (hb : Below w.heap.size w w') : StgsRef w' ad n F := by
  rcases h with h | ⟨b, e, h⟩
  · exact .inl h
  · refine .inr ⟨b, e, fun j hj => ?_⟩
    obtain ⟨gx, px, gy, py, c0, c1, c2, c3, c4, lx, ly⟩ := h j hj
    have hl := cell_ltL c0
    exact ⟨gx, px, gy, py, cb hb hl c0, cb hb hl c1, cb hb hl c2, cb hb hl c3, cb hb hl c4, lx.below hb, ly.below hb⟩
theorem StgsRef.get {w : World} {ad : Option Addr} {n : Nat} {F : Nat → Stg} (h : StgsRef w ad n F) {j : Nat} (hj : j < n) : ∃ b, ad = some ⟨b, 0, none⟩ ∧ ∃ gx px gy py, w.cell? ⟨b, j * 5, none⟩ = some (.slice (some ⟨gx, 0, none⟩) (F j).lx.length px) ∧ w.cell? ⟨b, j * 5 + 1, none⟩ = some (.slice (some ⟨gy, 0, none⟩) (F j).ly.length py) ∧ w.cell? ⟨b, j * 5 + 2, none⟩ = some (.int .i64 (F j).fx) ∧ w.cell? ⟨b, j * 5 + 3, none⟩ = some (.int .i64 (F j).fy) ∧ w.cell? ⟨b, j * 5 + 4, none⟩ = some (.int .i64 (F j).sb) ∧ LinesAt w gx (F j).lx ∧ LinesAt w gy (F j).ly := by
  rcases h with h | ⟨b, e, h⟩
  · omega
  · exact ⟨b, e, h j hj⟩
/-- What All answers. -/
def AllAns (e : Ending) (w' : World) (k : Int) (n : Nat) (F : Nat → Stg) : Prop :=
  (k ≠ 0 ∧ ∃ ad cap, e = .returned (.tuple #[.slice ad 0 cap, .int .i64 k])) ∨ (k = 0 ∧ ∃ ad cap, e = .returned (.tuple #[.slice ad n cap, .int .i64 0]) ∧ StgsAt w' ad n F)
def OAllC (K : World → Prop) : Prop := ∀ (L : List Opr) (ad : Option Addr) (cap : Nat) (a b c : Int) (w : World), K w → OpsAt w ad L → OpsFit L → L.length ≤ maxLen → (ad = none → cap = 0) → In64 a → In64 b → In64 c →
  Calls Tryz.prog 18 #[.slice ad L.length cap, .int .i64 a, .int .i64 b, .int .i64 c] w fun e w' => AllAns e w' (allCode L a b c) L.length (stgAt L a b) ∧ Below w.heap.size w w'
set_option maxHeartbeats 2000000 in
set_option maxRecDepth 100000 in
theorem all_far {K : World → Prop} (hKB : ∀ w w', K w → Below w.heap.size w w' → K w') (CL : ∀ w, K w → Calls Tryz.prog 8 #[] w fun e w' => e = .returned (.bool true) ∧ Below w.heap.size w w') (L : List Opr) (n : Nat) (hn : L.length = n) (h1 : n ≤ maxLen) (ad : Option Addr) (cap : Nat) (a b c : Int) (w : World) (hk : K w) (hr : OpsAt w ad L)
    (h : 18 < n ∨ bigB 20 L n = true ∨ (20 < a ∧ a ≤ 65536) ∨ (20 < b ∧ b ≤ 65536)) :
    Calls Tryz.prog 5 #[.slice ad n cap, .int .i64 a, .int .i64 b, .int .i64 c] w fun e w' => e = .returned (.bool true) ∧ Below w.heap.size w w' := by
  have hm : n ≤ 9223372036854775807 := h1
  have CLT := fun w' (b : Below w.heap.size w w') => little_any L n hn h1 20 ad cap w' (hr.below b)
  have CK : ∀ w', Below w.heap.size w w' → K w' := fun w' b => hKB w w' hk b
  have hab : ((18 : Int) < (n : Int)) ∨ ((n : Int) ≤ 18 ∧ bigB 20 L n = true) ∨ ((n : Int) ≤ 18 ∧ bigB 20 L n = false ∧ ((20 < a ∧ a ≤ 65536) ∨ (a ≤ 20 ∧ 20 < b ∧ b ≤ 65536) ∨ ((20 < a ∧ 65536 < a) ∧ 20 < b ∧ b ≤ 65536))) := by
    by_cases g : 18 < n
    · exact .inl (by omega)
    · cases e : bigB 20 L n with
      | true => exact .inr (.inl ⟨by omega, rfl⟩)
      | false =>
        rw [e] at h
        refine .inr (.inr ⟨by omega, rfl, ?_⟩)
        rcases h with h | h | h | h
        · omega
        · cases h
        · exact .inl h
        · omega
  generalize bigB 20 L n = bb at *
  clear h hk hr hn h1
  rcases hab with c0 | ⟨c0, rfl⟩ | ⟨c0, rfl, ⟨c1, c2⟩ | ⟨c1, c2, c3⟩ | ⟨⟨c1, c2⟩, c3, c4⟩⟩
  · go_enter Tryz.func5, Tryz.ntmps5
    go_wp2_with (first
      | (go_at_call 8; (with_reducible refine (CL w (CK _ (Below.refl _ _))).mono ?_); rintro e w1 ⟨rfl, b1⟩)
      | (go_at_call 8; (with_reducible refine (CL w1 (CK _ b1)).mono ?_); rintro e w2 ⟨rfl, b2⟩))
    go_ret
    exact ⟨rfl, bt b1 b2⟩
  all_goals
    go_enter Tryz.func5, Tryz.ntmps5
    go_wp2_with (first
      | (go_at_call 8; (with_reducible refine (CL w (CK _ (Below.refl _ _))).mono ?_); rintro e w1 ⟨rfl, b1⟩)
      | (go_at_call 12; (with_reducible refine (CLT _ b1).mono ?_); rintro e w2 ⟨rfl, b2⟩)
      | (go_at_call 8; (with_reducible refine (CL w2 (CK _ (bt b1 b2))).mono ?_); rintro e w3 ⟨rfl, b3⟩))
    go_ret
    exact ⟨rfl, bt (bt b1 b2) b3⟩
set_option maxHeartbeats 4000000 in
set_option maxRecDepth 100000 in
theorem of_OpAll {K : World → Prop} (hKB : ∀ w w', K w → Below w.heap.size w w' → K w') (hKK : ∀ w, K w → Kinds w) (CM : OMakeC K) (CA : OAllC K) (L : List Opr) (n : Nat) (hn : L.length = n) (h1 : n ≤ maxLen) (ad : Option Addr) (cap : Nat) (a b c : Int) (w : World) (hk : K w) (hr : OpsAt w ad L) (hF : OpsFit L) (hz : ad = none → cap = 0) (ha : In64 a) (hb : In64 b) (hc : In64 c) :
    Calls Tryz.prog 5 #[.slice ad n cap, .int .i64 a, .int .i64 b, .int .i64 c] w fun e w' => e = .returned (.bool true) ∧ Below w.heap.size w w' := by
  have CL : ∀ w, K w → Calls Tryz.prog 8 #[] w fun e w' => e = .returned (.bool true) ∧ Below w.heap.size w w' := fun w hk => olives hKB hKK CM w hk
  by_cases hfar : 18 < n ∨ bigB 20 L n = true ∨ (20 < a ∧ a ≤ 65536) ∨ (20 < b ∧ b ≤ 65536)
  · exact all_far hKB CL L n hn h1 ad cap a b c w hk hr hfar
  have hn18 : n ≤ 18 := by
    by_cases g : n ≤ 18
    · exact g
    · exact absurd (.inl (by omega)) hfar
  have hbb : bigB 20 L n = false := by
    cases e : bigB 20 L n with
    | false => rfl
    | true => exact absurd (.inr (.inl e)) hfar
  have hab : (a ≤ 20 ∨ (20 < a ∧ 65536 < a)) ∧ (b ≤ 20 ∨ (20 < b ∧ 65536 < b)) := by
    constructor
    · by_cases g : a ≤ 20
      · exact .inl g
      · exact .inr ⟨by omega, by
          by_cases g2 : a ≤ 65536
          · exact absurd (.inr (.inr (.inl ⟨by omega, g2⟩))) hfar
          · omega⟩
    · by_cases g : b ≤ 20
      · exact .inl g
      · exact .inr ⟨by omega, by
          by_cases g2 : b ≤ 65536
          · exact absurd (.inr (.inr (.inr ⟨by omega, g2⟩))) hfar
          · omega⟩
  have n18 : (n : Int) ≤ 18 := by omega
  have CK : ∀ w', Below w.heap.size w w' → K w' := fun w' b => hKB w w' hk b
  have CLT := fun w' (b' : Below w.heap.size w w') => little_any L n hn h1 20 ad cap w' (hr.below b')
  rw [hbb] at CLT
  have CA1 := fun w' (b' : Below w.heap.size w w') => CA L ad cap a b c w' (CK w' b') (hr.below b') hF (by rw [hn]; exact h1) hz ha hb hc
  have CR := fun w' (b' : Below w.heap.size w w') => refs12_any L n hn (by omega) ad cap w' (hr.below b')
  have CD := fun w' ad' cap' hr' => dall_any L n hn h1 ad' cap' a b c w' hr' hF
  rw [hn] at CA1
  obtain ⟨ca, cb'⟩ := hab
  by_cases hcz : allCode L a b c = 0
  · have HNE := hide (fun (j : Nat) (hj : j < n) => show (stgAt L a b j).lx ≠ [] ∧ (stgAt L a b j).ly ≠ [] by
      refine stg_ne ?_
      have e0 : firstA L a b c L.length = 0 := by
        unfold allCode at hcz
        by_cases g : 16 < L.length
        · rw [if_pos g] at hcz; cases hcz
        · rw [if_neg g] at hcz
          by_cases g2 : fitsF a b c = false
          · rw [if_pos g2] at hcz; cases hcz
          · rw [if_neg g2] at hcz; exact hcz
      have := (firstA_back e0 (show j < L.length by rw [hn]; exact hj)).2
      by_cases g : opCode (opAt L j) (whAt L a b j).1 (whAt L a b j).2 = 0
      · exact g
      · rw [step_op g] at this; exact this)
    have CA2 : ∀ w', Below w.heap.size w w' → Calls Tryz.prog 18 #[.slice ad n cap, .int .i64 a, .int .i64 b, .int .i64 c] w' fun e w'' => (∃ ad3 cap3, e = .returned (.tuple #[.slice ad3 n cap3, .int .i64 0]) ∧ StgsAt w'' ad3 n (stgAt L a b)) ∧ Below w'.heap.size w' w'' := fun w' b' =>
      (CA1 w' b').mono fun e w'' ⟨hA, hB⟩ => by
        rcases hA with ⟨h0, _⟩ | ⟨_, x, y, he, hs⟩
        · exact absurd hcz h0
        · exact ⟨⟨x, y, he, hs⟩, hB⟩
    have CD2 : ∀ w' ad' cap', OpsAt w' ad' L → Calls Tryz.prog 19 #[.slice ad' n cap', .int .i64 a, .int .i64 b, .int .i64 c] w' fun e w'' => (∃ ad5 cap5, e = .returned (.tuple #[.slice ad5 n cap5, .int .i64 0]) ∧ StgsRef w'' ad5 n (stgAt L a b)) ∧ Below w'.heap.size w' w'' := fun w' ad' cap' hr' =>
      (CD w' ad' cap' hr').mono fun e w'' ⟨hA, hB⟩ => by
        rcases hA with ⟨h0, _⟩ | ⟨_, v, he, hs⟩
        · exact absurd hcz h0
        · obtain ⟨ad5, cap5, rfl, hs5⟩ := hs.read HNE.out
          exact ⟨⟨ad5, cap5, he, hs5⟩, hB⟩
    clear CA CA1 CD CM hr hF hz ha hb hc hk hfar hbb hcz HNE hn h1
    generalize bigB 20 L n = bb at *
    generalize stgAt L a b = F at *
    rcases ca with ca | ⟨ca, ca'⟩ <;> rcases cb' with cb' | ⟨cb', cb''⟩
    all_goals
      go_enter Tryz.func5, Tryz.ntmps5
      go_wp2_with (first
        | (go_at_call 8; (with_reducible refine (CL w (CK _ (Below.refl _ _))).mono ?_); rintro e w1 ⟨rfl, b1⟩)
        | (go_at_call 12; (with_reducible refine (CLT _ b1).mono ?_); rintro e w2 ⟨rfl, b2⟩)
        | (go_at_call 18; (with_reducible refine (CA2 _ (bt b1 b2)).mono ?_); rintro e w3 ⟨⟨ad3, cap3, rfl, hs3⟩, b3⟩; have HS3 := hide hs3; clear hs3)
        | (go_at_call 20; (with_reducible refine (CR _ (bt (bt b1 b2) b3)).mono ?_); rintro e w4 ⟨ad4, cap4, rfl, ho4, _, b4⟩; have HO4 := hide ho4; clear ho4)
        | (go_at_call 19; (with_reducible refine (CD2 _ _ _ HO4.out).mono ?_); rintro e w5 ⟨⟨ad5, cap5, rfl, hs5⟩, b5⟩; have HS5 := hide hs5; clear hs5))
      have HB := hide (bt (bt (bt (bt b1 b2) b3) b4) b5)
      have HS := hide (HS3.out.below (bt b4 b5))
      clear b1 b2 b3 b4 b5 HS3 HO4 CLT CA2 CR CD2
      go_loopw [72] (fun i wr => ∃ k : Nat, k ≤ n ∧ i = .int .i64 (k : Int) ∧ Below w5.heap.size w5 wr) (fun i _ => n - (intOf i).toNat)
      case atStart => exact ⟨0, by omega, rfl, Below.refl _ _⟩
      case round =>
        obtain ⟨k, hk, rfl, hb⟩ := hrel
        have HBR := hide hb
        by_cases hlt : k < n
        · obtain ⟨b3, o3, rfl, x, y, c0, c1, c2, tx, ty⟩ := (HS.out.below hb).get hlt
          obtain ⟨b5, rfl, gx, px, gy, py, d0, d1, d2, d3, d4, rx, ry⟩ := (HS5.out.below hb).get hlt
          obtain ⟨p, rfl⟩ := tx.ptr
          obtain ⟨q, rfl⟩ := ty.ptr
          obtain ⟨S, hS⟩ : ∃ S, F k = S := ⟨_, rfl⟩
          rw [hS] at tx ty rx ry c2 d0 d1 d2 d3 d4
          have CSM := fun (W : World) (b : Below wr.heap.size wr W) => same12_any S _ _ _ _ rfl rfl gx px gy py W (tx.below b) (ty.below b) (rx.below b) (ry.below b)
          clear tx ty rx ry hS hb
          generalize S.lx.length = n1 at *
          generalize S.ly.length = n2 at *
          generalize S.fx = fx at *
          generalize S.fy = fy at *
          generalize S.sb = sb at *
          go_wp2
          go_region_held3 (fun w' => w'.cell? ⟨b3, o3 + k * 3, none⟩ = some (.pointer (some p)) ∧ w'.cell? ⟨b3, o3 + k * 3 + 1, none⟩ = some (.pointer (some q)) ∧ w'.cell? ⟨b3, o3 + k * 3 + 2, none⟩ = some (.int .i64 sb) ∧ w'.cell? ⟨b5, k * 5, none⟩ = some (.slice (some ⟨gx, 0, none⟩) n1 px) ∧ w'.cell? ⟨b5, k * 5 + 1, none⟩ = some (.slice (some ⟨gy, 0, none⟩) n2 py) ∧ w'.cell? ⟨b5, k * 5 + 2, none⟩ = some (.int .i64 fx) ∧ w'.cell? ⟨b5, k * 5 + 3, none⟩ = some (.int .i64 fy) ∧ w'.cell? ⟨b5, k * 5 + 4, none⟩ = some (.int .i64 sb)) (first | assumption | go_keep)
            (first | (go_at_call 17; (with_reducible refine (CSM _ (bd (Below.refl _ _))).mono ?_); rintro e w6 ⟨rfl, b6⟩; have z6 := And.intro (cb (bt (bd (Below.refl _ _)) b6) (cell_ltL c0) c0) (And.intro (cb (bt (bd (Below.refl _ _)) b6) (cell_ltL c0) c1) (And.intro (cb (bt (bd (Below.refl _ _)) b6) (cell_ltL c0) c2) (And.intro (cb (bt (bd (Below.refl _ _)) b6) (cell_ltL d0) d0) (And.intro (cb (bt (bd (Below.refl _ _)) b6) (cell_ltL d0) d1) (And.intro (cb (bt (bd (Below.refl _ _)) b6) (cell_ltL d0) d2) (And.intro (cb (bt (bd (Below.refl _ _)) b6) (cell_ltL d0) d3) (cb (bt (bd (Below.refl _ _)) b6) (cell_ltL d0) d4)))))))))
          go_wp2
          go_roundw
          case rel => exact ⟨k + 1, by omega, by go_num, bt (bd HBR.out) b6⟩
          case measure => simp [intOf]; omega
        · obtain rfl : k = n := by omega
          clear hb
          go_wp2
          go_ret
          exact ⟨rfl, bt HB.out HBR.out⟩
  · have CA2 : ∀ w', Below w.heap.size w w' → Calls Tryz.prog 18 #[.slice ad n cap, .int .i64 a, .int .i64 b, .int .i64 c] w' fun e w'' => (∃ ad3 cap3, e = .returned (.tuple #[.slice ad3 0 cap3, .int .i64 (allCode L a b c)])) ∧ Below w'.heap.size w' w'' := fun w' b' =>
      (CA1 w' b').mono fun e w'' ⟨hA, hB⟩ => by
        rcases hA with ⟨_, x, y, he⟩ | ⟨h0, _⟩
        · exact ⟨⟨x, y, he⟩, hB⟩
        · exact absurd h0 hcz
    have CD2 : ∀ w' ad' cap', OpsAt w' ad' L → Calls Tryz.prog 19 #[.slice ad' n cap', .int .i64 a, .int .i64 b, .int .i64 c] w' fun e w'' => e = .returned (.tuple #[.slice none 0 0, .int .i64 (allCode L a b c)]) ∧ Below w'.heap.size w' w'' := fun w' ad' cap' hr' =>
      (CD w' ad' cap' hr').mono fun e w'' ⟨hA, hB⟩ => by
        rcases hA with ⟨_, he⟩ | ⟨h0, _⟩
        · exact ⟨he, hB⟩
        · exact absurd h0 hcz
    have qk : (allCode L a b c != allCode L a b c) = false := by simp
    clear CA CA1 CD CM hr hF hz ha hb hc hk hfar hbb hcz hn h1
    generalize bigB 20 L n = bb at *
    generalize allCode L a b c = kc at *
    rcases ca with ca | ⟨ca, ca'⟩ <;> rcases cb' with cb' | ⟨cb', cb''⟩
    all_goals
      go_enter Tryz.func5, Tryz.ntmps5
      go_wp2_with (first
        | (go_at_call 8; (with_reducible refine (CL w (CK _ (Below.refl _ _))).mono ?_); rintro e w1 ⟨rfl, b1⟩)
        | (go_at_call 12; (with_reducible refine (CLT _ b1).mono ?_); rintro e w2 ⟨rfl, b2⟩)
        | (go_at_call 18; (with_reducible refine (CA2 _ (bt b1 b2)).mono ?_); rintro e w3 ⟨⟨ad3, cap3, rfl⟩, b3⟩)
        | (go_at_call 20; (with_reducible refine (CR _ (bt (bt b1 b2) b3)).mono ?_); rintro e w4 ⟨ad4, cap4, rfl, ho4, _, b4⟩; have HO4 := hide ho4; clear ho4)
        | (go_at_call 19; (with_reducible refine (CD2 _ _ _ HO4.out).mono ?_); rintro e w5 ⟨rfl, b5⟩))
      have HB := hide (bt (bt (bt (bt b1 b2) b3) b4) b5)
      clear b1 b2 b3 b4 b5 HO4 CLT CA2 CR CD2
      go_loopw [72] (fun i wr => i = .int .i64 0 ∧ wr = w5) (fun i _ => 0)
      case atStart => exact ⟨rfl, rfl⟩
      case round =>
        obtain ⟨rfl, rfl⟩ := hrel
        go_wp2
        go_ret
        exact ⟨rfl, HB.out⟩
end Go.Proofs.YtclgghhpiljgfaaGreatDoor
