/- Parts, joined. -/
import Derived.Test.YtlknopmpbkepjaaGreatDoorJ19
import Derived.Test.YtlknopmpbkepjaaGreatDoorJ22
import Derived.Test.YtlknopmpbkepjaaGreatDoorJ24
import Derived.Test.YtlknopmpbkepjaaGreatDoorJ12
/- Operations: little ones. -/
namespace Go.Proofs.YtlknopmpbkepjaaGreatDoor
open Go.RowKit


set_option maxHeartbeats 4000000 in
set_option maxRecDepth 100000 in
theorem little_any (L : List Opr) (n : Nat) (hn : L.length = n) (h1 : n ≤ maxLen) (s : Int) (ad : Option Addr) (cap : Nat) (w : World) (hr : OpsAt w ad L) :
    Calls Tryz.prog 5 #[.slice ad n cap, .int .i64 s] w fun e w' => e = .returned (.bool (!bigB s L n)) ∧ Below w.heap.size w w' := by
  have hm : n ≤ 9223372036854775807 := h1
  have HR := hide hr
  have HN := hide hn
  clear hr hn h1
  go_enter Tryz.func5, Tryz.ntmps5
  go_wp2
  go_loopw [9] (fun i wr => ∃ k : Nat, k ≤ n ∧ i = .int .i64 (k : Int) ∧ Hid (bigB s L k = false) ∧ Below w.heap.size w wr) (fun i _ => n - (intOf i).toNat)
  case atStart => exact ⟨0, by omega, rfl, hide rfl, Below.refl _ _⟩
  case round =>
    obtain ⟨k, hk, rfl, hs, hb⟩ := hrel
    have HB := hide hb
    have hb0 := (HR.out.below hb)
    clear hb
    by_cases hlt : k < n
    · obtain ⟨b, off, rfl, h0, h1, h2, h3, h6, h7, h8, ax, cx, ay, cy, h4, h5, _⟩ := hb0.get (show k < L.length by rw [HN.out]; exact hlt)
      clear hb0
      have hF : BigO s (opAt L k) → (!bigB s L n) = false := fun q => by rw [bigB_stays ((bigB_step s L k).2 (.inr q)) hlt]; rfl
      have hP : ¬ BigO s (opAt L k) → bigB s L (k + 1) = false := fun q => by
        cases e : bigB s L (k + 1) with
        | false => rfl
        | true =>
          rcases (bigB_step s L k).1 e with r | r
          · rw [hs.out] at r; cases r
          · exact absurd r q
      unfold BigO at hF hP
      obtain ⟨o, ho⟩ : ∃ o, opAt L k = o := ⟨_, rfl⟩
      rw [ho] at h0 h1 h2 h3 h6 h7 h8 h4 h5 hF hP
      clear ho
      obtain ⟨kd, bd, sg, rd, xs, ys, fl, wd, ht⟩ := o
      simp only at h0 h1 h2 h3 h6 h7 h8 h4 h5 hF hP
      generalize xs.length = nx at *
      generalize ys.length = ny at *
      have HF := hide hF
      have HP := hide hP
      have HB9 := hide (fun o => ba HB.out o)
      clear hF hP hs
      go_upto_region 4 with fail
      rcases (show (40 : Int) < (nx : Int) ∨ (nx : Int) ≤ 40 by omega) with cF | c1
      · have v := HF.out (.inl (by omega))
        go_wp2
        go_ret
        exact ⟨by first | rfl | (rw [v]; rfl), HB9.out _⟩
      rcases (show (40 : Int) < (ny : Int) ∨ (ny : Int) ≤ 40 by omega) with cF | c2
      · have v := HF.out (.inr (.inl (by omega)))
        go_wp2
        go_ret
        exact ⟨by first | rfl | (rw [v]; rfl), HB9.out _⟩
      rcases (show sg ≤ 262144 ∨ (262144 < sg ∧ 4194304 < sg) ∨ (262144 < sg ∧ sg ≤ 4194304) by omega) with c3 | ⟨c3, c3'⟩ | ⟨c3, cF⟩
      case inr.inr =>
        have v := HF.out (.inr (.inr (.inl ⟨c3, cF⟩)))
        go_wp2
        go_ret
        exact ⟨by first | rfl | (rw [v]; rfl), HB9.out _⟩
      all_goals rcases (show rd ≤ 20 ∨ (20 < rd ∧ 512 ≤ rd) ∨ (20 < rd ∧ rd < 512) by omega) with c4 | ⟨c4, c4'⟩ | ⟨c4, cF⟩
      all_goals try
        have v := HF.out (.inr (.inr (.inr (.inl ⟨c4, cF⟩))))
        go_wp2
        go_ret
        exact ⟨by first | rfl | (rw [v]; rfl), HB9.out _⟩
      all_goals rcases (show wd ≤ s ∨ (s < wd ∧ 65536 < wd) ∨ (s < wd ∧ wd ≤ 65536) by omega) with c5 | ⟨c5, c5'⟩ | ⟨c5, cF⟩
      all_goals try
        have v := HF.out (.inr (.inr (.inr (.inr (.inl ⟨c5, cF⟩)))))
        go_wp2
        go_ret
        exact ⟨by first | rfl | (rw [v]; rfl), HB9.out _⟩
      all_goals rcases (show ht ≤ s ∨ (s < ht ∧ 65536 < ht) ∨ (s < ht ∧ ht ≤ 65536) by omega) with c6 | ⟨c6, c6'⟩ | ⟨c6, cF⟩
      all_goals try
        have v := HF.out (.inr (.inr (.inr (.inr (.inr ⟨c6, cF⟩)))))
        go_wp2
        go_ret
        exact ⟨by first | rfl | (rw [v]; rfl), HB9.out _⟩
      all_goals
        have v := hide (HP.out (by omega))
        go_wp2
        go_roundw
        case rel => exact ⟨k + 1, by omega, by go_num, v.out, HB9.out _⟩
        case measure => simp [intOf]; omega
    · obtain rfl : k = n := by omega
      have hv := hs.out
      clear hb0 hs
      go_wp2
      go_ret
      exact ⟨by rw [hv]; rfl, HB.out⟩
end Go.Proofs.YtlknopmpbkepjaaGreatDoor

/- Operations as texts: the law on operations that are clean. -/
namespace Go.Proofs.YtlknopmpbkepjaaGreatDoor
open Go.RowKit


theorem tab_to_d {w : World} {v : Value} {n : Int} {L : List (Int × List Int)} (h : Tab w v n L) : Calls Tryz.prog 10 #[v] w fun e w' => e = .returned (.int .i64 (L.length : Int)) ∧ Drew w w' := by
  obtain ⟨g, h, cap, rfl, c0, c1, c2, c3, hl, hok, hm, l0, l1, n0, n1⟩ := h
  clear hl hok hm c0 c2 c3
  generalize L.length = m at *
  go_enter Tryz.func10, Tryz.ntmps10
  go_wp2
  go_ret
  exact ⟨rfl, Drew.refl _⟩
theorem tab_most_d {w : World} {v : Value} {n : Int} {L : List (Int × List Int)} (h : Tab w v n L) : Calls Tryz.prog 11 #[v] w fun e w' => e = .returned (.int .i64 (mostF L)) ∧ Drew w w' := by
  obtain ⟨g, h, cap, rfl, c0, c1, c2, c3, hl, hok, hm, l0, l1, n0, n1⟩ := h
  clear hl hok hm c0 c1 c3
  generalize mostF L = m at *
  go_enter Tryz.func11, Tryz.ntmps11
  go_wp2
  go_ret
  exact ⟨rfl, Drew.refl _⟩
theorem tab_size_d {w : World} {v : Value} {n : Int} {L : List (Int × List Int)} (h : Tab w v n L) : Calls Tryz.prog 12 #[v] w fun e w' => e = .returned (.int .i64 (sizeF L)) ∧ Drew w w' := by
  obtain ⟨g, h, cap, rfl, c0, c1, c2, c3, hl, hok, hm, l0, l1, n0, n1⟩ := h
  clear hl hok hm c0 c1 c2
  generalize sizeF L = m at *
  go_enter Tryz.func12, Tryz.ntmps12
  go_wp2
  go_ret
  exact ⟨rfl, Drew.refl _⟩
theorem fits_cln {o : Opr} (h : OpFits o) : OpFits (clnO o) := by
  have z : In64 0 := by unfold In64; omega
  refine ⟨h.kd, h.bd, ?_, ?_, ?_, ?_, ?_, ?_, ?_, ?_, ?_⟩ <;> unfold clnO <;> simp only <;> split
  all_goals first | exact z | exact h.sg | exact h.rd | exact h.fl | exact h.wd | exact h.ht | exact h.xs | exact h.ys | exact h.lx | exact h.ly | exact Nat.zero_le _ | exact fun n hn => by cases hn
theorem len_cln {o : Opr} {n : Nat} (h1 : o.xs.length ≤ n) (h2 : o.ys.length ≤ n) : (clnO o).xs.length ≤ n ∧ (clnO o).ys.length ≤ n := by
  unfold clnO
  simp only
  split
  · exact ⟨h1, h2⟩
  · exact ⟨Nat.zero_le _, Nat.zero_le _⟩
set_option maxHeartbeats 2000000 in
set_option maxRecDepth 100000 in
theorem cleans_far (o : Opr) (ax : Option Addr) (cx : Nat) (ay : Option Addr) (cy : Nat) (a b : Int) (w : World) (hk : KW w) (hA : OpAt w o ax cx ay cy) (h : bigB 20 [o] 1 = true) :
    Calls Tryz.prog 3 #[opV o ax cx ay cy, .int .u8 a, .int .u8 b] w fun e w' => e = .returned (.bool true) ∧ Below w.heap.size w w' := by
  have CL := fun w' (b : Below w.heap.size w w') => lives13_any w' (kw_below hk b)
  have CLT : ∀ w', Below w.heap.size w w' → Calls Tryz.prog 5 #[.slice (some ⟨w'.heap.size, 0, none⟩) 1 1, .int .i64 20] (w'.alloc (.cells #[.int .i64 o.kd, .int .i64 o.bd, .int .i64 o.sg, .int .i64 o.rd, .slice ax o.xs.length cx, .slice ay o.ys.length cy, .int .i64 o.fl, .int .i64 o.wd, .int .i64 o.ht] 27)) fun e w'' => e = .returned (.bool (!bigB 20 [o] 1)) ∧ Below (w'.alloc (.cells #[.int .i64 o.kd, .int .i64 o.bd, .int .i64 o.sg, .int .i64 o.rd, .slice ax o.xs.length cx, .slice ay o.ys.length cy, .int .i64 o.fl, .int .i64 o.wd, .int .i64 o.ht] 27)).heap.size (w'.alloc (.cells #[.int .i64 o.kd, .int .i64 o.bd, .int .i64 o.sg, .int .i64 o.rd, .slice ax o.xs.length cx, .slice ay o.ys.length cy, .int .i64 o.fl, .int .i64 o.wd, .int .i64 o.ht] 27)) w'' :=
    fun w' b => little_any [o] 1 rfl (by unfold maxLen; omega) 20 (some ⟨w'.heap.size, 0, none⟩) 1 _ (ops_one w' 27 o ax cx ay cy (hA.below b))
  have P0 := hide (P9.new w 27 o.kd o.bd o.sg o.rd (.slice ax o.xs.length cx) (.slice ay o.ys.length cy) o.fl o.wd o.ht)
  rw [h] at CLT
  unfold opV
  obtain ⟨kd, bo, sg, rd, xs, ys, fl, wd, ht⟩ := o
  simp only at CLT P0 ⊢
  clear hA h hk
  generalize xs.length = nx at *
  generalize ys.length = ny at *
  go_enter Tryz.func3, Tryz.ntmps3
  go_wp2_with (first
    | (go_at_call 5; (with_reducible refine (CLT _ B1.out).mono ?_); rintro e w2 ⟨rfl, b2⟩; have B2 := hide (bt (ba B1.out _) b2))
    | (go_at_call 4; (with_reducible refine (CL _ B2.out).mono ?_); rintro e wz ⟨rfl, bz⟩)
    | (go_at_call 4; (with_reducible refine (CL _ (below1 _ _)).mono ?_); rintro e w1 ⟨rfl, b1⟩; have P1 := hide ((P0.out).below b1); have B1 := hide (bt (below1 _ _) b1); have p1 := P1.out; obtain ⟨a0, a1, a2, a3, a4, a5, a6, a7, a8⟩ := p1))
  go_ret
  exact ⟨rfl, bt B2.out bz⟩
end Go.Proofs.YtlknopmpbkepjaaGreatDoor

/- Operations as texts: the law on operations that are clean, of little ones. Written by gen_XS13Z.py. -/
namespace Go.Proofs.YtlknopmpbkepjaaGreatDoor
open Go.RowKit

set_option maxHeartbeats 8000000 in
set_option maxRecDepth 100000 in
theorem cleans_near (o : Opr) (ax : Option Addr) (cx : Nat) (ay : Option Addr) (cy : Nat) (a b : Int) (w : World) (hk : KW w) (hA : OpAt w o ax cx ay cy) (hF : OpFits o) (ha : 0 ≤ a ∧ a ≤ 255) (hb : 0 ≤ b ∧ b ≤ 255) (h : bigB 20 [o] 1 = false) :
    Calls Tryz.prog 3 #[opV o ax cx ay cy, .int .u8 a, .int .u8 b] w fun e w' => e = .returned (.bool true) ∧ Below w.heap.size w w' := by
  have hl : o.xs.length ≤ 1000000 ∧ o.ys.length ≤ 1000000 := by
    have q := bigB_no h (k := 0) (by omega)
    unfold BigO at q
    have e : opAt [o] 0 = o := rfl
    rw [e] at q
    omega
  obtain ⟨p, hp⟩ : ∃ p : Int, 1 + a % 20 = p := ⟨_, rfl⟩
  obtain ⟨q, hq⟩ : ∃ q : Int, 1 + b % 20 = q := ⟨_, rfl⟩
  have hpi : In64 p := by unfold In64; omega
  have hqi : In64 q := by unfold In64; omega
  have ra : 0 ≤ a % 20 ∧ a % 20 < 20 := by omega
  have rb : 0 ≤ b % 20 ∧ b % 20 < 20 := by omega
  have CL := fun w' (b : Below w.heap.size w w') => lives13_any w' (kw_below hk b)
  have CLT : ∀ w', Below w.heap.size w w' → Calls Tryz.prog 5 #[.slice (some ⟨w'.heap.size, 0, none⟩) 1 1, .int .i64 20] (w'.alloc (.cells #[.int .i64 o.kd, .int .i64 o.bd, .int .i64 o.sg, .int .i64 o.rd, .slice ax o.xs.length cx, .slice ay o.ys.length cy, .int .i64 o.fl, .int .i64 o.wd, .int .i64 o.ht] 27)) fun e w'' => e = .returned (.bool true) ∧ Below (w'.alloc (.cells #[.int .i64 o.kd, .int .i64 o.bd, .int .i64 o.sg, .int .i64 o.rd, .slice ax o.xs.length cx, .slice ay o.ys.length cy, .int .i64 o.fl, .int .i64 o.wd, .int .i64 o.ht] 27)).heap.size (w'.alloc (.cells #[.int .i64 o.kd, .int .i64 o.bd, .int .i64 o.sg, .int .i64 o.rd, .slice ax o.xs.length cx, .slice ay o.ys.length cy, .int .i64 o.fl, .int .i64 o.wd, .int .i64 o.ht] 27)) w'' :=
    fun w' b => (little_any [o] 1 rfl (by unfold maxLen; omega) 20 (some ⟨w'.heap.size, 0, none⟩) 1 _ (ops_one w' 27 o ax cx ay cy (hA.below b))).mono fun e w'' ⟨he, hB⟩ => ⟨by rw [he, h]; rfl, hB⟩
  have P0 := hide (P9.new w 27 o.kd o.bd o.sg o.rd (.slice ax o.xs.length cx) (.slice ay o.ys.length cy) o.fl o.wd o.ht)
  have CC := fun w' (b : Below w.heap.size w w') => clean_any o ax cx ay cy w' (hA.below b) hl.1 hl.2
  have hl2 := len_cln hl.1 hl.2
  have hF2 := fits_cln hF
  have CM1 := fun w' (b' : Below w.heap.size w w') => omake_any o ax cx ay cy p q w' (kw_below hk b').2 (hA.below b') hF hpi hqi
  have CM2 := fun bx dx by_ dy w' (b' : Below w.heap.size w w') hB => omake_any (clnO o) bx dx by_ dy p q w' (kw_below hk b').2 hB hF2 hpi hqi
  rw [op_cln] at CM2
  have CC2 := fun bx dx by_ dy w' hB => clean_any (clnO o) bx dx by_ dy w' hB hl2.1 hl2.2
  rw [cln_cln] at CC2
  have CR := fun bx dx by_ dy w' => ref12_any (clnO o) bx dx by_ dy w'
  have CS := fun bx dx by_ dy ex gx ey gy w' hB hE => same13_any (clnO o) bx dx by_ dy ex gx ey gy w' hB hE hl2.1 hl2.2
  have hst := fun (e : opCode o p q = 0) => stg_cln e
  generalize clnO o = c at *
  clear hF hF2 hl hl2 hk h hpi hqi
  obtain ⟨ha0, ha1⟩ := ha
  obtain ⟨hb0, hb1⟩ := hb
  obtain ⟨kc, hkc⟩ : ∃ kc, opCode o p q = kc := ⟨_, rfl⟩
  rw [hkc] at CM1 CM2 hst
  have qk : (kc != kc) = false := by simp
  by_cases hz : kc = 0
  · subst hz
    rw [hst rfl] at CM2
    have CM1' : ∀ w', Below w.heap.size w w' → Calls Tryz.prog 7 #[opV o ax cx ay cy, .int .i64 p, .int .i64 q] w' fun e w'' => (∃ x y, e = .returned (.tuple #[.agg #[.pointer (some x), .pointer (some y), .int .i64 (stgOf o p q).sb], .int .i64 0]) ∧ Tab w'' (.pointer (some x)) (stgOf o p q).fx (stgOf o p q).lx) ∧ Below w'.heap.size w' w'' := fun w' b' =>
      (CM1 w' b').mono fun e w'' ⟨hA, hB⟩ => by
        rcases hA with ⟨h0, _⟩ | ⟨_, x, y, he, tx, ty⟩
        · exact absurd rfl h0
        · obtain ⟨ax', rfl⟩ := tx.ptr
          obtain ⟨ay', rfl⟩ := ty.ptr
          exact ⟨⟨ax', ay', he, tx⟩, hB⟩
    have CM2' : ∀ bx dx by_ dy w', Below w.heap.size w w' → OpAt w' c bx dx by_ dy → Calls Tryz.prog 7 #[opV c bx dx by_ dy, .int .i64 p, .int .i64 q] w' fun e w'' => (∃ x y, e = .returned (.tuple #[.agg #[.pointer (some x), .pointer (some y), .int .i64 (stgOf o p q).sb], .int .i64 0]) ∧ Tab w'' (.pointer (some x)) (stgOf o p q).fx (stgOf o p q).lx) ∧ Below w'.heap.size w' w'' := fun bx dx by_ dy w' b' hB =>
      (CM2 bx dx by_ dy w' b' hB).mono fun e w'' ⟨hA, hB⟩ => by
        rcases hA with ⟨h0, _⟩ | ⟨_, x, y, he, tx, ty⟩
        · exact absurd rfl h0
        · obtain ⟨ax', rfl⟩ := tx.ptr
          obtain ⟨ay', rfl⟩ := ty.ptr
          exact ⟨⟨ax', ay', he, tx⟩, hB⟩
    clear CM1 CM2 hst hkc
    obtain ⟨sb, hsb⟩ : ∃ z, (stgOf o p q).sb = z := ⟨_, rfl⟩
    obtain ⟨fx, hfx⟩ : ∃ z, (stgOf o p q).fx = z := ⟨_, rfl⟩
    obtain ⟨lx, hlx⟩ : ∃ z, (stgOf o p q).lx = z := ⟨_, rfl⟩
    rw [hsb, hfx, hlx] at CM1' CM2'
    clear hsb hfx hlx
    unfold opV at CC CM1' CM2' CC2 CR CS ⊢
    obtain ⟨kd, bo, sg, rd, xs, ys, fl, wd, ht⟩ := o
    simp only at CLT P0 CC CM1' ⊢
    clear hA
    generalize xs.length = nx at *
    generalize ys.length = ny at *
    generalize c.kd = kd2 at *
    generalize c.bd = bo2 at *
    generalize c.sg = sg2 at *
    generalize c.rd = rd2 at *
    generalize c.xs.length = nx2 at *
    generalize c.ys.length = ny2 at *
    generalize c.fl = fl2 at *
    generalize c.wd = wd2 at *
    generalize c.ht = ht2 at *
    go_enter Tryz.func3, Tryz.ntmps3
    go_upto_region 6 with (first
      | (go_at_call 4; (with_reducible refine (CL _ (below1 _ _)).mono ?_); rintro e w1 ⟨rfl, b1⟩; have P1 := hide ((P0.out).below b1); have B1 := hide (bt (below1 _ _) b1); have p1 := P1.out; obtain ⟨a0, a1, a2, a3, a4, a5, a6, a7, a8⟩ := p1)
      | (go_at_call 5; (with_reducible refine (CLT _ B1.out).mono ?_); rintro e w2 ⟨rfl, b2⟩; have P2 := hide (((P1.out).below (below1 _ _)).below b2); have B2 := hide (bt (ba B1.out _) b2); have p2 := P2.out; obtain ⟨b0, b1, b2, b3, b4, b5, b6, b7, b8⟩ := p2; clear a0 a1 a2 a3 a4 a5 a6 a7 a8)
      | (go_at_call 6; (with_reducible refine (CC _ B2.out).mono ?_); rintro e w3 ⟨⟨bx, dx, by_, dy, rfl, hA3⟩, d3⟩; have P3 := hide ((P2.out).below d3); have B3 := hide (bt B2.out d3); have HA3 := hide hA3; have p3 := P3.out.below (below1 w3 (.cells #[.int .i64 kd2, .int .i64 bo2, .int .i64 sg2, .int .i64 rd2, .slice bx nx2 dx, .slice by_ ny2 dy, .int .i64 fl2, .int .i64 wd2, .int .i64 ht2] 27)); have Q3 := hide (P9.new w3 27 kd2 bo2 sg2 rd2 (.slice bx nx2 dx) (.slice by_ ny2 dy) fl2 wd2 ht2); obtain ⟨c0, c1, c2, c3, c4, c5, c6, c7, c8⟩ := p3; clear hA3 d3 b0 b1 b2 b3 b4 b5 b6 b7 b8)
      | (go_at_call 7; (with_reducible refine (CM1' _ (ba B3.out _)).mono ?_); rintro e w4 ⟨⟨x, y, rfl, tx⟩, b4⟩; have HX := hide tx; have B4 := hide (bt (ba B3.out _) b4); have Q4 := hide (Q3.out.below b4); have HA4 := hide ((HA3.out.below (below1 _ _)).below b4); have q4 := Q4.out.below (below1 w4 (.cells #[.pointer (some x), .pointer (some y), .int .i64 sb] 34)); obtain ⟨e0, e1, e2, e3, e4, e5, e6, e7, e8⟩ := q4; clear CM1' tx b4)
      | (go_at_call 7; (with_reducible refine (CM2' _ _ _ _ _ (ba B4.out _) (HA4.out.below (below1 _ _))).mono ?_); rintro e w5 ⟨⟨x5, y5, rfl, tx⟩, b5⟩; have HX5 := hide tx; have HX4 := hide ((HX.out.below (below1 _ _)).below b5); have B5 := hide (bt (ba B4.out _) b5); have Q5 := hide ((Q4.out.below (below1 _ _)).below b5); have HA5 := hide ((HA4.out.below (below1 _ _)).below b5); have SS5 := hide (t3_below (S3new w4 34 (.pointer (some x)) (.pointer (some y)) (.int .i64 sb)) b5); clear CM2' tx b5 e0 e1 e2 e3 e4 e5 e6 e7 e8))
    have S6 := hide (S3new w5 34 (.pointer (some x5)) (.pointer (some y5)) (.int .i64 sb))
    have S56 := hide (t3_below SS5.out (below1 w5 (.cells #[.pointer (some x5), .pointer (some y5), .int .i64 sb] 34)))
    have HX56 := hide (HX5.out.below (below1 w5 (.cells #[.pointer (some x5), .pointer (some y5), .int .i64 sb] 34)))
    have HX46 := hide (HX4.out.below (below1 w5 (.cells #[.pointer (some x5), .pointer (some y5), .int .i64 sb] 34)))
    have Q6 := hide (Q5.out.below (below1 w5 (.cells #[.pointer (some x5), .pointer (some y5), .int .i64 sb] 34)))
    have HA6 := hide (HA5.out.below (below1 w5 (.cells #[.pointer (some x5), .pointer (some y5), .int .i64 sb] 34)))
    have B6 := hide (ba B5.out (.cells #[.pointer (some x5), .pointer (some y5), .int .i64 sb] 34))
    generalize w5.alloc (.cells #[.pointer (some x5), .pointer (some y5), .int .i64 sb] 34) = W6 at *
    clear HX5 HX4 Q5 HA5 SS5 B5 HX Q4 Q3 HA4 HA3 B4 B3 B2 B1
    have c6 := Q6.out
    obtain ⟨g0, g1, g2, g3, g4, g5, g6, g7, g8⟩ := c6
    have gl := cell_ltL g0

    go_region_held3 (fun w' => w'.cell? ⟨w3.heap.size, 0, none⟩ = some (.int .i64 kd2) ∧ w'.cell? ⟨w3.heap.size, 1, none⟩ = some (.int .i64 bo2) ∧ w'.cell? ⟨w3.heap.size, 2, none⟩ = some (.int .i64 sg2) ∧ w'.cell? ⟨w3.heap.size, 3, none⟩ = some (.int .i64 rd2) ∧ w'.cell? ⟨w3.heap.size, 4, none⟩ = some (.slice bx nx2 dx) ∧ w'.cell? ⟨w3.heap.size, 5, none⟩ = some (.slice by_ ny2 dy) ∧ w'.cell? ⟨w3.heap.size, 6, none⟩ = some (.int .i64 fl2) ∧ w'.cell? ⟨w3.heap.size, 7, none⟩ = some (.int .i64 wd2) ∧ w'.cell? ⟨w3.heap.size, 8, none⟩ = some (.int .i64 ht2)) (first | assumption | go_keep)
      (first
        | (go_at_call 6; (with_reducible refine (CC2 _ _ _ _ _ (HA6.out.below (bd (Below.refl _ _)))).mono ?_); rintro e w7 ⟨⟨ex, gx, ey, gy, rfl, hE7⟩, b7⟩; have B7 := hide (bt (bd (Below.refl W6.heap.size W6)) b7); have HE7 := hide hE7; have y7 := Q6.out.below B7.out; unfold P9 at y7)
        | (go_at_call 9; (with_reducible refine (CR _ _ _ _ _).mono ?_); rintro e w8 ⟨rfl, b8⟩; have B8 := hide (bt B7.out b8); have HE8 := hide (HE7.out.below b8); have y8 := Q6.out.below B8.out; unfold P9 at y8)
        | (go_at_call 8; (with_reducible refine (CS _ _ _ _ _ _ _ _ _ HE8.out (HA6.out.below B8.out)).mono ?_); rintro e w9 ⟨rfl, b9⟩; have B9 := hide (bt B8.out b9); have y9 := Q6.out.below B9.out; unfold P9 at y9))
    all_goals
      have s8 := t3_below S56.out B9.out
      have t8 := t3_below S6.out B9.out
      obtain ⟨s80, s81, s82⟩ := s8
      obtain ⟨t80, t81, t82⟩ := t8
      have X8 := hide (HX46.out.below B9.out)
      have X9 := hide (HX56.out.below B9.out)
      have BZ := hide (bt B6.out B9.out)
      have hle : ((lx.length : Int) == (lx.length : Int)) = true := by simp
      have hme : (mostF lx == mostF lx) = true := by simp
      have hse : (sizeF lx == sizeF lx) = true := by simp
      clear S56 S6 HX46 HX56 B6 CC2 CR CS c6 B9
      go_upto_region 8 with fail
      go_quiet (first
        | (go_at_call 10; (with_reducible exact calmD (tab_to_d (X8.out.below (bdN (Below.refl _ _) _)))))
        | (go_at_call 10; (with_reducible exact calmD (tab_to_d (X9.out.below (bdN (Below.refl _ _) _)))))
        | (go_at_call 11; (with_reducible exact calmD (tab_most_d (X8.out.below (bdN (Below.refl _ _) _)))))
        | (go_at_call 11; (with_reducible exact calmD (tab_most_d (X9.out.below (bdN (Below.refl _ _) _)))))
        | (go_at_call 12; (with_reducible exact calmD (tab_size_d (X8.out.below (bdN (Below.refl _ _) _)))))
        | (go_at_call 12; (with_reducible exact calmD (tab_size_d (X9.out.below (bdN (Below.refl _ _) _))))))
      go_wp2
      go_ret
      exact ⟨rfl, bdN BZ.out _⟩
  · have hqz : (kc != 0) = true := bne_iff_ne.2 hz
    have CM1' : ∀ w', Below w.heap.size w w' → Calls Tryz.prog 7 #[opV o ax cx ay cy, .int .i64 p, .int .i64 q] w' fun e w'' => e = .returned (.tuple #[.agg #[.pointer none, .pointer none, .int .i64 0], .int .i64 kc]) ∧ Below w'.heap.size w' w'' := fun w' b' =>
      (CM1 w' b').mono fun e w'' ⟨hA, hB⟩ => by
        rcases hA with ⟨_, he⟩ | ⟨h0, _⟩
        · exact ⟨he, hB⟩
        · exact absurd h0 hz
    have CM2' : ∀ bx dx by_ dy w', Below w.heap.size w w' → OpAt w' c bx dx by_ dy → Calls Tryz.prog 7 #[opV c bx dx by_ dy, .int .i64 p, .int .i64 q] w' fun e w'' => e = .returned (.tuple #[.agg #[.pointer none, .pointer none, .int .i64 0], .int .i64 kc]) ∧ Below w'.heap.size w' w'' := fun bx dx by_ dy w' b' hB =>
      (CM2 bx dx by_ dy w' b' hB).mono fun e w'' ⟨hA, hB⟩ => by
        rcases hA with ⟨_, he⟩ | ⟨h0, _⟩
        · exact ⟨he, hB⟩
        · exact absurd h0 hz
    clear CM1 CM2 hst hkc hz
    unfold opV at CC CM1' CM2' CC2 CR CS ⊢
    obtain ⟨kd, bo, sg, rd, xs, ys, fl, wd, ht⟩ := o
    simp only at CLT P0 CC CM1' ⊢
    clear hA
    generalize xs.length = nx at *
    generalize ys.length = ny at *
    generalize c.kd = kd2 at *
    generalize c.bd = bo2 at *
    generalize c.sg = sg2 at *
    generalize c.rd = rd2 at *
    generalize c.xs.length = nx2 at *
    generalize c.ys.length = ny2 at *
    generalize c.fl = fl2 at *
    generalize c.wd = wd2 at *
    generalize c.ht = ht2 at *
    go_enter Tryz.func3, Tryz.ntmps3
    go_upto_region 6 with (first
      | (go_at_call 4; (with_reducible refine (CL _ (below1 _ _)).mono ?_); rintro e w1 ⟨rfl, b1⟩; have P1 := hide ((P0.out).below b1); have B1 := hide (bt (below1 _ _) b1); have p1 := P1.out; obtain ⟨a0, a1, a2, a3, a4, a5, a6, a7, a8⟩ := p1)
      | (go_at_call 5; (with_reducible refine (CLT _ B1.out).mono ?_); rintro e w2 ⟨rfl, b2⟩; have P2 := hide (((P1.out).below (below1 _ _)).below b2); have B2 := hide (bt (ba B1.out _) b2); have p2 := P2.out; obtain ⟨b0, b1, b2, b3, b4, b5, b6, b7, b8⟩ := p2; clear a0 a1 a2 a3 a4 a5 a6 a7 a8)
      | (go_at_call 6; (with_reducible refine (CC _ B2.out).mono ?_); rintro e w3 ⟨⟨bx, dx, by_, dy, rfl, hA3⟩, d3⟩; have P3 := hide ((P2.out).below d3); have B3 := hide (bt B2.out d3); have HA3 := hide hA3; have p3 := P3.out.below (below1 w3 (.cells #[.int .i64 kd2, .int .i64 bo2, .int .i64 sg2, .int .i64 rd2, .slice bx nx2 dx, .slice by_ ny2 dy, .int .i64 fl2, .int .i64 wd2, .int .i64 ht2] 27)); have Q3 := hide (P9.new w3 27 kd2 bo2 sg2 rd2 (.slice bx nx2 dx) (.slice by_ ny2 dy) fl2 wd2 ht2); obtain ⟨c0, c1, c2, c3, c4, c5, c6, c7, c8⟩ := p3; clear hA3 d3 b0 b1 b2 b3 b4 b5 b6 b7 b8)
      | (go_at_call 7; (with_reducible refine (CM1' _ (ba B3.out _)).mono ?_); rintro e w4 ⟨rfl, b4⟩; have B4 := hide (bt (ba B3.out _) b4); have Q4 := hide (Q3.out.below b4); have HA4 := hide ((HA3.out.below (below1 _ _)).below b4); have q4 := Q4.out.below (below1 w4 (.cells #[.pointer none, .pointer none, .int .i64 0] 34)); obtain ⟨e0, e1, e2, e3, e4, e5, e6, e7, e8⟩ := q4; clear CM1' b4)
      | (go_at_call 7; (with_reducible refine (CM2' _ _ _ _ _ (ba B4.out _) (HA4.out.below (below1 _ _))).mono ?_); rintro e w5 ⟨rfl, b5⟩; have B5 := hide (bt (ba B4.out _) b5); have Q5 := hide ((Q4.out.below (below1 _ _)).below b5); have HA5 := hide ((HA4.out.below (below1 _ _)).below b5); clear CM2' b5 e0 e1 e2 e3 e4 e5 e6 e7 e8))
    have Q6 := hide (Q5.out.below (below1 w5 (.cells #[.pointer none, .pointer none, .int .i64 0] 34)))
    have HA6 := hide (HA5.out.below (below1 w5 (.cells #[.pointer none, .pointer none, .int .i64 0] 34)))
    have B6 := hide (ba B5.out (.cells #[.pointer none, .pointer none, .int .i64 0] 34))
    generalize w5.alloc (.cells #[.pointer none, .pointer none, .int .i64 0] 34) = W6 at *
    clear Q5 HA5 B5 Q4 Q3 HA4 HA3 B4 B3 B2 B1
    have c6 := Q6.out
    obtain ⟨g0, g1, g2, g3, g4, g5, g6, g7, g8⟩ := c6
    have gl := cell_ltL g0

    go_region_held3 (fun w' => w'.cell? ⟨w3.heap.size, 0, none⟩ = some (.int .i64 kd2) ∧ w'.cell? ⟨w3.heap.size, 1, none⟩ = some (.int .i64 bo2) ∧ w'.cell? ⟨w3.heap.size, 2, none⟩ = some (.int .i64 sg2) ∧ w'.cell? ⟨w3.heap.size, 3, none⟩ = some (.int .i64 rd2) ∧ w'.cell? ⟨w3.heap.size, 4, none⟩ = some (.slice bx nx2 dx) ∧ w'.cell? ⟨w3.heap.size, 5, none⟩ = some (.slice by_ ny2 dy) ∧ w'.cell? ⟨w3.heap.size, 6, none⟩ = some (.int .i64 fl2) ∧ w'.cell? ⟨w3.heap.size, 7, none⟩ = some (.int .i64 wd2) ∧ w'.cell? ⟨w3.heap.size, 8, none⟩ = some (.int .i64 ht2)) (first | assumption | go_keep)
      (first
        | (go_at_call 6; (with_reducible refine (CC2 _ _ _ _ _ (HA6.out.below (bd (Below.refl _ _)))).mono ?_); rintro e w7 ⟨⟨ex, gx, ey, gy, rfl, hE7⟩, b7⟩; have B7 := hide (bt (bd (Below.refl W6.heap.size W6)) b7); have HE7 := hide hE7; have y7 := Q6.out.below B7.out; unfold P9 at y7)
        | (go_at_call 9; (with_reducible refine (CR _ _ _ _ _).mono ?_); rintro e w8 ⟨rfl, b8⟩; have B8 := hide (bt B7.out b8); have HE8 := hide (HE7.out.below b8); have y8 := Q6.out.below B8.out; unfold P9 at y8)
        | (go_at_call 8; (with_reducible refine (CS _ _ _ _ _ _ _ _ _ HE8.out (HA6.out.below B8.out)).mono ?_); rintro e w9 ⟨rfl, b9⟩; have B9 := hide (bt B8.out b9); have y9 := Q6.out.below B9.out; unfold P9 at y9))
    all_goals
      have BZ := hide (bt B6.out B9.out)
      clear B6 CC2 CR CS c6 B9
      go_upto_region 8 with fail
      go_quiet (fail)
      go_wp2
      go_ret
      exact ⟨rfl, bdN BZ.out _⟩
theorem law_RecipeCleans (o : Opr) (ax : Option Addr) (cx : Nat) (ay : Option Addr) (cy : Nat) (a b : Int) (w : World) (hk : KW w) (hr : OpAt w o ax cx ay cy ∧ OpFits o) (ha : 0 ≤ a ∧ a ≤ 255) (hb : 0 ≤ b ∧ b ≤ 255) :
    Calls Tryz.prog 3 #[opV o ax cx ay cy, .int .u8 a, .int .u8 b] w fun e w' => e = .returned (.bool true) ∧ Below w.heap.size w w' := by
  cases h : bigB 20 [o] 1 with
  | true => exact cleans_far o ax cx ay cy a b w hk hr.1 h
  | false => exact cleans_near o ax cx ay cy a b w hk hr.1 hr.2 ha hb h
end Go.Proofs.YtlknopmpbkepjaaGreatDoor
