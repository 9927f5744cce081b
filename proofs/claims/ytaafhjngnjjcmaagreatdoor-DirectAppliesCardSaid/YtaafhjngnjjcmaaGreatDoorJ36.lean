/- Parts, joined. -/
import Derived.Test.YtaafhjngnjjcmaaGreatDoorJ35
import Derived.Test.YtaafhjngnjjcmaaGreatDoorJ33
import Derived.Test.YtaafhjngnjjcmaaGreatDoorJ34
import Derived.Test.YtaafhjngnjjcmaaGreatDoorJ29
import Derived.Test.YtaafhjngnjjcmaaGreatDoorJ03
import Derived.Test.YtaafhjngnjjcmaaGreatDoorJ18
/- Operations: the program's Make. Written by gen_XS12T.py. -/
namespace Go.Proofs.YtaafhjngnjjcmaaGreatDoor
open Go.RowKit


def zStage : Value := .agg #[.pointer none, .pointer none, .int .i64 0]
/-- What the kinds of memory are that the calls of op read. -/
def OpK (w : World) : Prop := Kinds w ∧ NamesE w
theorem opk_below (w w' : World) (h : OpK w) (b : Below w.heap.size w w') : OpK w' := ⟨kinds_below h.1 b, namesE_below h.2 b⟩
set_option maxHeartbeats 2000000 in
set_option maxRecDepth 100000 in
theorem oresize_bad (o : Opr) (ax : Option Addr) (cx : Nat) (ay : Option Addr) (cy : Nat) (a b : Int) (w : World) (hk : Kinds w) (hF : OpFits o) (h : ¬ ((1 ≤ o.wd ∧ o.wd ≤ 65536) ∧ (1 ≤ o.ht ∧ o.ht ≤ 65536) ∧ 0 ≤ o.fl ∧ o.fl ≤ 2)) :
    Calls Tryz.prog 70 #[opV o ax cx ay cy, .int .i64 a, .int .i64 b] w fun e w' => e = .returned (.tuple #[zStage, .int .i64 6]) ∧ Below w.heap.size w w' := by
  have HK := hide (fun (w' : World) (b' : Below w.heap.size w w') => kinds_below hk b')
  have CN := fun (w' : World) (hk : Kinds w') => name_any o.fl hF.fl w' hk
  unfold zStage
  clear hF hk
  unfold opV
  obtain ⟨kd, bd, sg, rd, xs, ys, fl, wd, ht⟩ := o
  simp only at *
  generalize xs.length = nx at *
  generalize ys.length = ny at *
  have HP := hide (show P9 ((w.alloc (.cells #[.int .i64 kd, .int .i64 bd, .int .i64 sg, .int .i64 rd, .slice ax nx cx, .slice ay ny cy, .int .i64 fl, .int .i64 wd, .int .i64 ht] 50)).alloc (.cells #[.pointer none, .pointer none, .int .i64 0] 44)) w.heap.size kd bd sg rd (.slice ax nx cx) (.slice ay ny cy) fl wd ht from (P9.new w 50 kd bd sg rd (.slice ax nx cx) (.slice ay ny cy) fl wd ht).below (below1 _ _))
  have HR := hide (show S3 ((w.alloc (.cells #[.int .i64 kd, .int .i64 bd, .int .i64 sg, .int .i64 rd, .slice ax nx cx, .slice ay ny cy, .int .i64 fl, .int .i64 wd, .int .i64 ht] 50)).alloc (.cells #[.pointer none, .pointer none, .int .i64 0] 44)) (w.heap.size + 1) (.pointer none) (.pointer none) (.int .i64 0) from by simpa using S3.new (w.alloc (.cells #[.int .i64 kd, .int .i64 bd, .int .i64 sg, .int .i64 rd, .slice ax nx cx, .slice ay ny cy, .int .i64 fl, .int .i64 wd, .int .i64 ht] 50)) 44 (.pointer none) (.pointer none) (.int .i64 0))
  have HB := hide (show Below w.heap.size w ((w.alloc (.cells #[.int .i64 kd, .int .i64 bd, .int .i64 sg, .int .i64 rd, .slice ax nx cx, .slice ay ny cy, .int .i64 fl, .int .i64 wd, .int .i64 ht] 50)).alloc (.cells #[.pointer none, .pointer none, .int .i64 0] 44)) from ba (below1 _ _) _)
  by_cases hf : 0 ≤ fl ∧ fl ≤ 2
  case neg =>
    rw [show nameF fl = .string ⟨#[]⟩ by unfold nameF; rw [if_neg (by omega), if_neg (by omega), if_neg (by omega)]] at CN
    clear h hf
    go_enter Tryz.func70, Tryz.ntmps70
    go_wp2_with (first
      | (go_at_call 97; (with_reducible refine (CN _ (HK.out _ HB.out)).mono ?_); rintro e wv ⟨rfl, bv⟩; have PV := hide (HP.out.below bv); have RV := hide (HR.out.below bv); have BV := hide (bt HB.out bv); have pv := PV.out; obtain ⟨a0, a1, a2, a3, a4, a5, a6, a7, a8⟩ := pv; have rv := RV.out; obtain ⟨⟨fr0, fy0⟩, ⟨fr1, fy1⟩, ⟨fr2, fy2⟩⟩ := rv))
    have EN := hide (And.intro (S3.fill RV.out (.pointer none) (.pointer none) (.int .i64 0)) (And.intro (below_fill3 BV.out (Nat.le_add_right _ 1) (.pointer none) (.pointer none) (.int .i64 0)) trivial))
    generalize (((wv).setCell ⟨w.heap.size + 1, 0, none⟩ (.pointer none)).setCell ⟨w.heap.size + 1, 1, none⟩ (.pointer none)).setCell ⟨w.heap.size + 1, 2, none⟩ (.int .i64 0) = WE at EN ⊢
    obtain ⟨⟨er0, ey0⟩, ⟨er1, ey1⟩, ⟨er2, ey2⟩⟩ := EN.out.1
    exact bodyPost_ret (v := .tuple #[.agg #[.pointer none, .pointer none, .int .i64 0], .int .i64 6]) (by simp [results, Tryz.results70, go_sem, er0, er1, er2]) rfl ⟨rfl, EN.out.2.1⟩

  obtain ⟨s, hs, s0⟩ := name_some fl hf.1 hf.2
  rw [hs] at CN
  by_cases hw : 1 ≤ wd ∧ wd ≤ 65536
  case neg =>
    have S1 := oside_no wd (by omega)
    clear h hf hw hs
    go_enter Tryz.func70, Tryz.ntmps70
    go_wp2_with (first
      | (go_at_call 97; (with_reducible refine (CN _ (HK.out _ HB.out)).mono ?_); rintro e wv ⟨rfl, bv⟩; have PV := hide (HP.out.below bv); have RV := hide (HR.out.below bv); have BV := hide (bt HB.out bv); have pv := PV.out; obtain ⟨a0, a1, a2, a3, a4, a5, a6, a7, a8⟩ := pv; have rv := RV.out; obtain ⟨⟨fr0, fy0⟩, ⟨fr1, fy1⟩, ⟨fr2, fy2⟩⟩ := rv)
      | (go_at_call 69; (with_reducible refine (S1 _).mono ?_); rintro e wz ⟨rfl, rfl⟩))
    have EN := hide (And.intro (S3.fill RV.out (.pointer none) (.pointer none) (.int .i64 0)) (And.intro (below_fill3 BV.out (Nat.le_add_right _ 1) (.pointer none) (.pointer none) (.int .i64 0)) trivial))
    generalize (((wv).setCell ⟨w.heap.size + 1, 0, none⟩ (.pointer none)).setCell ⟨w.heap.size + 1, 1, none⟩ (.pointer none)).setCell ⟨w.heap.size + 1, 2, none⟩ (.int .i64 0) = WE at EN ⊢
    obtain ⟨⟨er0, ey0⟩, ⟨er1, ey1⟩, ⟨er2, ey2⟩⟩ := EN.out.1
    exact bodyPost_ret (v := .tuple #[.agg #[.pointer none, .pointer none, .int .i64 0], .int .i64 6]) (by simp [results, Tryz.results70, go_sem, er0, er1, er2]) rfl ⟨rfl, EN.out.2.1⟩

  have S1 := oside_yes wd hw.1 hw.2
  have S2 := oside_no ht (by
    by_cases q : ht < 1
    · exact .inl q
    · by_cases q2 : 65536 < ht
      · exact .inr q2
      · exact absurd ⟨hw, ⟨by omega, by omega⟩, hf.1, hf.2⟩ h)
  clear h hf hw hs
  go_enter Tryz.func70, Tryz.ntmps70
  go_wp2_with (first
    | (go_at_call 97; (with_reducible refine (CN _ (HK.out _ HB.out)).mono ?_); rintro e wv ⟨rfl, bv⟩; have PV := hide (HP.out.below bv); have RV := hide (HR.out.below bv); have BV := hide (bt HB.out bv); have pv := PV.out; obtain ⟨a0, a1, a2, a3, a4, a5, a6, a7, a8⟩ := pv; have rv := RV.out; obtain ⟨⟨fr0, fy0⟩, ⟨fr1, fy1⟩, ⟨fr2, fy2⟩⟩ := rv)
    | (go_at_call 69; (with_reducible refine (S1 _).mono ?_); rintro e wz ⟨rfl, rfl⟩)
    | (go_at_call 69; (with_reducible refine (S2 _).mono ?_); rintro e wz ⟨rfl, rfl⟩))
  have EN := hide (And.intro (S3.fill RV.out (.pointer none) (.pointer none) (.int .i64 0)) (And.intro (below_fill3 BV.out (Nat.le_add_right _ 1) (.pointer none) (.pointer none) (.int .i64 0)) trivial))
  generalize (((wv).setCell ⟨w.heap.size + 1, 0, none⟩ (.pointer none)).setCell ⟨w.heap.size + 1, 1, none⟩ (.pointer none)).setCell ⟨w.heap.size + 1, 2, none⟩ (.int .i64 0) = WE at EN ⊢
  obtain ⟨⟨er0, ey0⟩, ⟨er1, ey1⟩, ⟨er2, ey2⟩⟩ := EN.out.1
  exact bodyPost_ret (v := .tuple #[.agg #[.pointer none, .pointer none, .int .i64 0], .int .i64 6]) (by simp [results, Tryz.results70, go_sem, er0, er1, er2]) rfl ⟨rfl, EN.out.2.1⟩
set_option maxHeartbeats 2000000 in
set_option maxRecDepth 100000 in
theorem omake_bad (o : Opr) (ax : Option Addr) (cx : Nat) (ay : Option Addr) (cy : Nat) (a b : Int) (w : World) (hk : OpK w) (h : ¬ ((0 ≤ o.kd ∧ o.kd ≤ 3) ∧ (0 ≤ o.bd ∧ o.bd ≤ 2) ∧ (1 ≤ a ∧ a ≤ 65536) ∧ (1 ≤ b ∧ b ≤ 65536))) :
    Calls Tryz.prog 34 #[opV o ax cx ay cy, .int .i64 a, .int .i64 b] w fun e w' => e = .returned (.tuple #[zStage, .int .i64 6]) ∧ Below w.heap.size w w' := by
  have HK := hide (fun (w' : World) (b' : Below w.heap.size w w') => namesE_below hk.2 b')
  have CB := fun (w' : World) (hk : NamesE w') => nameE_any o.bd w' hk
  unfold zStage
  clear hk
  unfold opV
  obtain ⟨kd, bd, sg, rd, xs, ys, fl, wd, ht⟩ := o
  simp only at *
  generalize xs.length = nx at *
  generalize ys.length = ny at *
  have HP := hide (show P9 ((w.alloc (.cells #[.int .i64 kd, .int .i64 bd, .int .i64 sg, .int .i64 rd, .slice ax nx cx, .slice ay ny cy, .int .i64 fl, .int .i64 wd, .int .i64 ht] 50)).alloc (.cells #[.pointer none, .pointer none, .int .i64 0] 44)) w.heap.size kd bd sg rd (.slice ax nx cx) (.slice ay ny cy) fl wd ht from (P9.new w 50 kd bd sg rd (.slice ax nx cx) (.slice ay ny cy) fl wd ht).below (below1 _ _))
  have HR := hide (show S3 ((w.alloc (.cells #[.int .i64 kd, .int .i64 bd, .int .i64 sg, .int .i64 rd, .slice ax nx cx, .slice ay ny cy, .int .i64 fl, .int .i64 wd, .int .i64 ht] 50)).alloc (.cells #[.pointer none, .pointer none, .int .i64 0] 44)) (w.heap.size + 1) (.pointer none) (.pointer none) (.int .i64 0) from by simpa using S3.new (w.alloc (.cells #[.int .i64 kd, .int .i64 bd, .int .i64 sg, .int .i64 rd, .slice ax nx cx, .slice ay ny cy, .int .i64 fl, .int .i64 wd, .int .i64 ht] 50)) 44 (.pointer none) (.pointer none) (.int .i64 0))
  have HB := hide (show Below w.heap.size w ((w.alloc (.cells #[.int .i64 kd, .int .i64 bd, .int .i64 sg, .int .i64 rd, .slice ax nx cx, .slice ay ny cy, .int .i64 fl, .int .i64 wd, .int .i64 ht] 50)).alloc (.cells #[.pointer none, .pointer none, .int .i64 0] 44)) from ba (below1 _ _) _)
  by_cases hkd : 0 ≤ kd ∧ kd ≤ 3
  case neg =>
    have C1 := oknown_no kd (by omega)
    clear h hkd
    go_enter Tryz.func34, Tryz.ntmps34
    go_wp2_with (first
      | (go_at_call 68; (with_reducible refine (C1 _).mono ?_); rintro e wz ⟨rfl, rfl⟩))
    exact bodyPost_ret (v := .tuple #[.agg #[.pointer none, .pointer none, .int .i64 0], .int .i64 6]) (by simp [results, Tryz.results34, go_sem]) rfl ⟨rfl, HB.out⟩

  have C1 := oknown_yes kd hkd.1 hkd.2
  by_cases hbd : 0 ≤ bd ∧ bd ≤ 2
  case neg =>
    rw [nameE_none bd (by omega)] at CB
    clear h hkd hbd
    go_enter Tryz.func34, Tryz.ntmps34
    go_wp2_with (first
      | (go_at_call 68; (with_reducible refine (C1 _).mono ?_); rintro e wz ⟨rfl, rfl⟩)
      | (go_at_call 52; (with_reducible refine (CB _ (HK.out _ HB.out)).mono ?_); rintro e wz ⟨rfl, rfl⟩))
    exact bodyPost_ret (v := .tuple #[.agg #[.pointer none, .pointer none, .int .i64 0], .int .i64 6]) (by simp [results, Tryz.results34, go_sem]) rfl ⟨rfl, HB.out⟩

  obtain ⟨s, hs, s0⟩ := nameE_some bd hbd.1 hbd.2
  rw [hs] at CB
  by_cases ha : 1 ≤ a ∧ a ≤ 65536
  case neg =>
    have S1 := oside_no a (by omega)
    clear h hkd hbd ha hs
    go_enter Tryz.func34, Tryz.ntmps34
    go_wp2_with (first
      | (go_at_call 68; (with_reducible refine (C1 _).mono ?_); rintro e wz ⟨rfl, rfl⟩)
      | (go_at_call 52; (with_reducible refine (CB _ (HK.out _ HB.out)).mono ?_); rintro e wz ⟨rfl, rfl⟩)
      | (go_at_call 69; (with_reducible refine (S1 _).mono ?_); rintro e wz ⟨rfl, rfl⟩))
    exact bodyPost_ret (v := .tuple #[.agg #[.pointer none, .pointer none, .int .i64 0], .int .i64 6]) (by simp [results, Tryz.results34, go_sem]) rfl ⟨rfl, HB.out⟩

  have S1 := oside_yes a ha.1 ha.2
  have S2 := oside_no b (by
    by_cases q : b < 1
    · exact .inl q
    · by_cases q2 : 65536 < b
      · exact .inr q2
      · exact absurd ⟨hkd, hbd, ha, by omega, by omega⟩ h)
  clear h hkd hbd ha hs
  go_enter Tryz.func34, Tryz.ntmps34
  go_wp2_with (first
    | (go_at_call 68; (with_reducible refine (C1 _).mono ?_); rintro e wz ⟨rfl, rfl⟩)
    | (go_at_call 52; (with_reducible refine (CB _ (HK.out _ HB.out)).mono ?_); rintro e wz ⟨rfl, rfl⟩)
    | (go_at_call 69; (with_reducible refine (S1 _).mono ?_); rintro e wz ⟨rfl, rfl⟩)
    | (go_at_call 69; (with_reducible refine (S2 _).mono ?_); rintro e wz ⟨rfl, rfl⟩))
  exact bodyPost_ret (v := .tuple #[.agg #[.pointer none, .pointer none, .int .i64 0], .int .i64 6]) (by simp [results, Tryz.results34, go_sem]) rfl ⟨rfl, HB.out⟩
set_option maxHeartbeats 2000000 in
set_option maxRecDepth 100000 in
theorem omake_res (o : Opr) (ax : Option Addr) (cx : Nat) (ay : Option Addr) (cy : Nat) (a b : Int) (w : World) (hk : OpK w) (k0 : 0 ≤ o.kd) (k1 : o.kd ≤ 3) (b0 : 0 ≤ o.bd) (b1 : o.bd ≤ 2) (a0 : 1 ≤ a) (a1 : a ≤ 65536) (h0 : 1 ≤ b) (h1 : b ≤ 65536) (k3 : o.kd = 3) (k : Int) (S : Stg)
    (CC : ∀ w', Below w.heap.size w w' → Calls Tryz.prog 70 #[opV o ax cx ay cy, .int .i64 a, .int .i64 b] w' fun e w'' => MakeAns e w'' k S ∧ Below w'.heap.size w' w'') :
    Calls Tryz.prog 34 #[opV o ax cx ay cy, .int .i64 a, .int .i64 b] w fun e w' => MakeAns e w' k S ∧ Below w.heap.size w w' := by
  have HK := hide (fun (w' : World) (b' : Below w.heap.size w w') => namesE_below hk.2 b')
  have CB := fun (w' : World) (hk : NamesE w') => nameE_any o.bd w' hk
  obtain ⟨s, hs, s0⟩ := nameE_some o.bd b0 b1
  rw [hs] at CB
  have C1 := oknown_yes o.kd k0 k1
  have S1 := oside_yes a a0 a1
  have S2 := oside_yes b h0 h1
  unfold opV at CC ⊢
  clear hk hs b0 b1 a0 a1 h0 h1 k0 k1
  obtain ⟨kd, bd, sg, rd, xs, ys, fl, wd, ht⟩ := o
  simp only at *
  subst k3
  generalize xs.length = nx at *
  generalize ys.length = ny at *
  have HP := hide (show P9 ((w.alloc (.cells #[.int .i64 3, .int .i64 bd, .int .i64 sg, .int .i64 rd, .slice ax nx cx, .slice ay ny cy, .int .i64 fl, .int .i64 wd, .int .i64 ht] 50)).alloc (.cells #[.pointer none, .pointer none, .int .i64 0] 44)) w.heap.size 3 bd sg rd (.slice ax nx cx) (.slice ay ny cy) fl wd ht from (P9.new w 50 3 bd sg rd (.slice ax nx cx) (.slice ay ny cy) fl wd ht).below (below1 _ _))
  have HR := hide (show S3 ((w.alloc (.cells #[.int .i64 3, .int .i64 bd, .int .i64 sg, .int .i64 rd, .slice ax nx cx, .slice ay ny cy, .int .i64 fl, .int .i64 wd, .int .i64 ht] 50)).alloc (.cells #[.pointer none, .pointer none, .int .i64 0] 44)) (w.heap.size + 1) (.pointer none) (.pointer none) (.int .i64 0) from by simpa using S3.new (w.alloc (.cells #[.int .i64 3, .int .i64 bd, .int .i64 sg, .int .i64 rd, .slice ax nx cx, .slice ay ny cy, .int .i64 fl, .int .i64 wd, .int .i64 ht] 50)) 44 (.pointer none) (.pointer none) (.int .i64 0))
  have HB := hide (show Below w.heap.size w ((w.alloc (.cells #[.int .i64 3, .int .i64 bd, .int .i64 sg, .int .i64 rd, .slice ax nx cx, .slice ay ny cy, .int .i64 fl, .int .i64 wd, .int .i64 ht] 50)).alloc (.cells #[.pointer none, .pointer none, .int .i64 0] 44)) from ba (below1 _ _) _)
  obtain ⟨lx, ly, fx, fy, sb⟩ := S
  unfold MakeAns at CC ⊢
  simp only at *
  by_cases hz : k = 0
  case neg =>
    replace CC : ∀ w', Below w.heap.size w w' → Calls Tryz.prog 70 #[.agg #[.int .i64 3, .int .i64 bd, .int .i64 sg, .int .i64 rd, .slice ax nx cx, .slice ay ny cy, .int .i64 fl, .int .i64 wd, .int .i64 ht], .int .i64 a, .int .i64 b] w' fun e w'' => e = .returned (.tuple #[.agg #[.pointer none, .pointer none, .int .i64 0], .int .i64 k]) ∧ Below w'.heap.size w' w'' := fun w' b' => (CC w' b').mono fun e w'' ⟨hA, hB⟩ => by
      rcases hA with ⟨_, he⟩ | ⟨q, _⟩
      · exact ⟨he, hB⟩
      · exact absurd q hz
    have HNZ := hide hz
    clear hz
    go_enter Tryz.func34, Tryz.ntmps34
    go_wp2_with (first
      | (go_at_call 68; (with_reducible refine (C1 _).mono ?_); rintro e wz ⟨rfl, rfl⟩)
      | (go_at_call 52; (with_reducible refine (CB _ (HK.out _ HB.out)).mono ?_); rintro e wz ⟨rfl, rfl⟩)
      | (go_at_call 69; (with_reducible refine (S1 _).mono ?_); rintro e wz ⟨rfl, rfl⟩)
      | (go_at_call 69; (with_reducible refine (S2 _).mono ?_); rintro e wz ⟨rfl, rfl⟩)
      | (go_at_call 70; (with_reducible refine (CC _ HB.out).mono ?_); rintro e wx ⟨rfl, bx⟩; have RX := hide (HR.out.below bx); have BX := hide (bt HB.out bx); have rx := RX.out; obtain ⟨⟨gr0, gy0⟩, ⟨gr1, gy1⟩, ⟨gr2, gy2⟩⟩ := rx))
    have EN := hide (And.intro (S3.fill RX.out (.pointer none) (.pointer none) (.int .i64 0)) (And.intro (below_fill3 BX.out (Nat.le_add_right _ 1) (.pointer none) (.pointer none) (.int .i64 0)) trivial))
    generalize (((wx).setCell ⟨w.heap.size + 1, 0, none⟩ (.pointer none)).setCell ⟨w.heap.size + 1, 1, none⟩ (.pointer none)).setCell ⟨w.heap.size + 1, 2, none⟩ (.int .i64 0) = WE at EN ⊢
    obtain ⟨⟨er0, ey0⟩, ⟨er1, ey1⟩, ⟨er2, ey2⟩⟩ := EN.out.1
    exact bodyPost_ret (v := .tuple #[.agg #[.pointer none, .pointer none, .int .i64 0], .int .i64 k]) (by simp [results, Tryz.results34, go_sem, er0, er1, er2]) rfl ⟨.inl ⟨HNZ.out, rfl⟩, EN.out.2.1⟩

  subst hz
  replace CC : ∀ w', Below w.heap.size w w' → Calls Tryz.prog 70 #[.agg #[.int .i64 3, .int .i64 bd, .int .i64 sg, .int .i64 rd, .slice ax nx cx, .slice ay ny cy, .int .i64 fl, .int .i64 wd, .int .i64 ht], .int .i64 a, .int .i64 b] w' fun e w'' => (∃ gx gy, e = .returned (.tuple #[.agg #[.pointer (some gx), .pointer (some gy), .int .i64 sb], .int .i64 0]) ∧ Tab w'' (.pointer (some gx)) fx lx ∧ Tab w'' (.pointer (some gy)) fy ly) ∧ Below w'.heap.size w' w'' := fun w' b' => (CC w' b').mono fun e w'' ⟨hA, hB⟩ => by
    rcases hA with ⟨q, _⟩ | ⟨_, x, y, he, tx, ty⟩
    · exact absurd rfl q
    · obtain ⟨gx, rfl⟩ := tx.ptr
      obtain ⟨gy, rfl⟩ := ty.ptr
      exact ⟨⟨gx, gy, he, tx, ty⟩, hB⟩
  go_enter Tryz.func34, Tryz.ntmps34
  go_wp2_with (first
    | (go_at_call 68; (with_reducible refine (C1 _).mono ?_); rintro e wz ⟨rfl, rfl⟩)
    | (go_at_call 52; (with_reducible refine (CB _ (HK.out _ HB.out)).mono ?_); rintro e wz ⟨rfl, rfl⟩)
    | (go_at_call 69; (with_reducible refine (S1 _).mono ?_); rintro e wz ⟨rfl, rfl⟩)
    | (go_at_call 69; (with_reducible refine (S2 _).mono ?_); rintro e wz ⟨rfl, rfl⟩)
    | (go_at_call 70; (with_reducible refine (CC _ HB.out).mono ?_); rintro e wx ⟨⟨gx, gy, rfl, tx, ty⟩, bx⟩; have RX := hide (HR.out.below bx); have BX := hide (bt HB.out bx); have rx := RX.out; obtain ⟨⟨gr0, gy0⟩, ⟨gr1, gy1⟩, ⟨gr2, gy2⟩⟩ := rx; have TX := hide tx; have TY := hide ty; clear tx ty))
  have EN := hide (And.intro (S3.fill RX.out (.pointer (some gx)) (.pointer (some gy)) (.int .i64 sb)) (And.intro (below_fill3 BX.out (Nat.le_add_right _ 1) (.pointer (some gx)) (.pointer (some gy)) (.int .i64 sb)) (And.intro (Tab.fill3 TX.out RX.out (fun _ q => by cases q) (.pointer (some gx)) (.pointer (some gy)) (.int .i64 sb)) (Tab.fill3 TY.out RX.out (fun _ q => by cases q) (.pointer (some gx)) (.pointer (some gy)) (.int .i64 sb)))))
  generalize (((wx).setCell ⟨w.heap.size + 1, 0, none⟩ (.pointer (some gx))).setCell ⟨w.heap.size + 1, 1, none⟩ (.pointer (some gy))).setCell ⟨w.heap.size + 1, 2, none⟩ (.int .i64 sb) = WE at EN ⊢
  obtain ⟨⟨er0, ey0⟩, ⟨er1, ey1⟩, ⟨er2, ey2⟩⟩ := EN.out.1
  exact bodyPost_ret (v := .tuple #[.agg #[.pointer (some gx), .pointer (some gy), .int .i64 sb], .int .i64 0]) (by simp [results, Tryz.results34, go_sem, er0, er1, er2]) rfl ⟨.inr ⟨by trivial, _, _, rfl, EN.out.2.2.1, EN.out.2.2.2⟩, EN.out.2.1⟩
set_option maxHeartbeats 2000000 in
set_option maxRecDepth 100000 in
theorem omake_fil (o : Opr) (ax : Option Addr) (cx : Nat) (ay : Option Addr) (cy : Nat) (a b : Int) (w : World) (hk : OpK w) (k0 : 0 ≤ o.kd) (k1 : o.kd ≤ 3) (b0 : 0 ≤ o.bd) (b1 : o.bd ≤ 2) (a0 : 1 ≤ a) (a1 : a ≤ 65536) (h0 : 1 ≤ b) (h1 : b ≤ 65536) (k3 : o.kd ≠ 3) (k : Int) (S : Stg)
    (CC : ∀ w', Below w.heap.size w w' → Calls Tryz.prog 71 #[opV o ax cx ay cy, .int .i64 a, .int .i64 b] w' fun e w'' => MakeAns e w'' k S ∧ Below w'.heap.size w' w'') :
    Calls Tryz.prog 34 #[opV o ax cx ay cy, .int .i64 a, .int .i64 b] w fun e w' => MakeAns e w' k S ∧ Below w.heap.size w w' := by
  have HK := hide (fun (w' : World) (b' : Below w.heap.size w w') => namesE_below hk.2 b')
  have CB := fun (w' : World) (hk : NamesE w') => nameE_any o.bd w' hk
  obtain ⟨s, hs, s0⟩ := nameE_some o.bd b0 b1
  rw [hs] at CB
  have C1 := oknown_yes o.kd k0 k1
  have S1 := oside_yes a a0 a1
  have S2 := oside_yes b h0 h1
  unfold opV at CC ⊢
  clear hk hs b0 b1 a0 a1 h0 h1 k0 k1
  obtain ⟨kd, bd, sg, rd, xs, ys, fl, wd, ht⟩ := o
  simp only at *
  have q3 : (kd == 3) = false := by simpa using k3
  generalize xs.length = nx at *
  generalize ys.length = ny at *
  have HP := hide (show P9 ((w.alloc (.cells #[.int .i64 kd, .int .i64 bd, .int .i64 sg, .int .i64 rd, .slice ax nx cx, .slice ay ny cy, .int .i64 fl, .int .i64 wd, .int .i64 ht] 50)).alloc (.cells #[.pointer none, .pointer none, .int .i64 0] 44)) w.heap.size kd bd sg rd (.slice ax nx cx) (.slice ay ny cy) fl wd ht from (P9.new w 50 kd bd sg rd (.slice ax nx cx) (.slice ay ny cy) fl wd ht).below (below1 _ _))
  have HR := hide (show S3 ((w.alloc (.cells #[.int .i64 kd, .int .i64 bd, .int .i64 sg, .int .i64 rd, .slice ax nx cx, .slice ay ny cy, .int .i64 fl, .int .i64 wd, .int .i64 ht] 50)).alloc (.cells #[.pointer none, .pointer none, .int .i64 0] 44)) (w.heap.size + 1) (.pointer none) (.pointer none) (.int .i64 0) from by simpa using S3.new (w.alloc (.cells #[.int .i64 kd, .int .i64 bd, .int .i64 sg, .int .i64 rd, .slice ax nx cx, .slice ay ny cy, .int .i64 fl, .int .i64 wd, .int .i64 ht] 50)) 44 (.pointer none) (.pointer none) (.int .i64 0))
  have HB := hide (show Below w.heap.size w ((w.alloc (.cells #[.int .i64 kd, .int .i64 bd, .int .i64 sg, .int .i64 rd, .slice ax nx cx, .slice ay ny cy, .int .i64 fl, .int .i64 wd, .int .i64 ht] 50)).alloc (.cells #[.pointer none, .pointer none, .int .i64 0] 44)) from ba (below1 _ _) _)
  obtain ⟨lx, ly, fx, fy, sb⟩ := S
  unfold MakeAns at CC ⊢
  simp only at *
  by_cases hz : k = 0
  case neg =>
    replace CC : ∀ w', Below w.heap.size w w' → Calls Tryz.prog 71 #[.agg #[.int .i64 kd, .int .i64 bd, .int .i64 sg, .int .i64 rd, .slice ax nx cx, .slice ay ny cy, .int .i64 fl, .int .i64 wd, .int .i64 ht], .int .i64 a, .int .i64 b] w' fun e w'' => e = .returned (.tuple #[.agg #[.pointer none, .pointer none, .int .i64 0], .int .i64 k]) ∧ Below w'.heap.size w' w'' := fun w' b' => (CC w' b').mono fun e w'' ⟨hA, hB⟩ => by
      rcases hA with ⟨_, he⟩ | ⟨q, _⟩
      · exact ⟨he, hB⟩
      · exact absurd q hz
    have HNZ := hide hz
    clear hz
    go_enter Tryz.func34, Tryz.ntmps34
    go_wp2_with (first
      | (go_at_call 68; (with_reducible refine (C1 _).mono ?_); rintro e wz ⟨rfl, rfl⟩)
      | (go_at_call 52; (with_reducible refine (CB _ (HK.out _ HB.out)).mono ?_); rintro e wz ⟨rfl, rfl⟩)
      | (go_at_call 69; (with_reducible refine (S1 _).mono ?_); rintro e wz ⟨rfl, rfl⟩)
      | (go_at_call 69; (with_reducible refine (S2 _).mono ?_); rintro e wz ⟨rfl, rfl⟩)
      | (go_at_call 71; (with_reducible refine (CC _ HB.out).mono ?_); rintro e wx ⟨rfl, bx⟩; have RX := hide (HR.out.below bx); have BX := hide (bt HB.out bx); have rx := RX.out; obtain ⟨⟨gr0, gy0⟩, ⟨gr1, gy1⟩, ⟨gr2, gy2⟩⟩ := rx))
    have EN := hide (And.intro (S3.fill RX.out (.pointer none) (.pointer none) (.int .i64 0)) (And.intro (below_fill3 BX.out (Nat.le_add_right _ 1) (.pointer none) (.pointer none) (.int .i64 0)) trivial))
    generalize (((wx).setCell ⟨w.heap.size + 1, 0, none⟩ (.pointer none)).setCell ⟨w.heap.size + 1, 1, none⟩ (.pointer none)).setCell ⟨w.heap.size + 1, 2, none⟩ (.int .i64 0) = WE at EN ⊢
    obtain ⟨⟨er0, ey0⟩, ⟨er1, ey1⟩, ⟨er2, ey2⟩⟩ := EN.out.1
    exact bodyPost_ret (v := .tuple #[.agg #[.pointer none, .pointer none, .int .i64 0], .int .i64 k]) (by simp [results, Tryz.results34, go_sem, er0, er1, er2]) rfl ⟨.inl ⟨HNZ.out, rfl⟩, EN.out.2.1⟩

  subst hz
  replace CC : ∀ w', Below w.heap.size w w' → Calls Tryz.prog 71 #[.agg #[.int .i64 kd, .int .i64 bd, .int .i64 sg, .int .i64 rd, .slice ax nx cx, .slice ay ny cy, .int .i64 fl, .int .i64 wd, .int .i64 ht], .int .i64 a, .int .i64 b] w' fun e w'' => (∃ gx gy, e = .returned (.tuple #[.agg #[.pointer (some gx), .pointer (some gy), .int .i64 sb], .int .i64 0]) ∧ Tab w'' (.pointer (some gx)) fx lx ∧ Tab w'' (.pointer (some gy)) fy ly) ∧ Below w'.heap.size w' w'' := fun w' b' => (CC w' b').mono fun e w'' ⟨hA, hB⟩ => by
    rcases hA with ⟨q, _⟩ | ⟨_, x, y, he, tx, ty⟩
    · exact absurd rfl q
    · obtain ⟨gx, rfl⟩ := tx.ptr
      obtain ⟨gy, rfl⟩ := ty.ptr
      exact ⟨⟨gx, gy, he, tx, ty⟩, hB⟩
  go_enter Tryz.func34, Tryz.ntmps34
  go_wp2_with (first
    | (go_at_call 68; (with_reducible refine (C1 _).mono ?_); rintro e wz ⟨rfl, rfl⟩)
    | (go_at_call 52; (with_reducible refine (CB _ (HK.out _ HB.out)).mono ?_); rintro e wz ⟨rfl, rfl⟩)
    | (go_at_call 69; (with_reducible refine (S1 _).mono ?_); rintro e wz ⟨rfl, rfl⟩)
    | (go_at_call 69; (with_reducible refine (S2 _).mono ?_); rintro e wz ⟨rfl, rfl⟩)
    | (go_at_call 71; (with_reducible refine (CC _ HB.out).mono ?_); rintro e wx ⟨⟨gx, gy, rfl, tx, ty⟩, bx⟩; have RX := hide (HR.out.below bx); have BX := hide (bt HB.out bx); have rx := RX.out; obtain ⟨⟨gr0, gy0⟩, ⟨gr1, gy1⟩, ⟨gr2, gy2⟩⟩ := rx; have TX := hide tx; have TY := hide ty; clear tx ty))
  have EN := hide (And.intro (S3.fill RX.out (.pointer (some gx)) (.pointer (some gy)) (.int .i64 sb)) (And.intro (below_fill3 BX.out (Nat.le_add_right _ 1) (.pointer (some gx)) (.pointer (some gy)) (.int .i64 sb)) (And.intro (Tab.fill3 TX.out RX.out (fun _ q => by cases q) (.pointer (some gx)) (.pointer (some gy)) (.int .i64 sb)) (Tab.fill3 TY.out RX.out (fun _ q => by cases q) (.pointer (some gx)) (.pointer (some gy)) (.int .i64 sb)))))
  generalize (((wx).setCell ⟨w.heap.size + 1, 0, none⟩ (.pointer (some gx))).setCell ⟨w.heap.size + 1, 1, none⟩ (.pointer (some gy))).setCell ⟨w.heap.size + 1, 2, none⟩ (.int .i64 sb) = WE at EN ⊢
  obtain ⟨⟨er0, ey0⟩, ⟨er1, ey1⟩, ⟨er2, ey2⟩⟩ := EN.out.1
  exact bodyPost_ret (v := .tuple #[.agg #[.pointer (some gx), .pointer (some gy), .int .i64 sb], .int .i64 0]) (by simp [results, Tryz.results34, go_sem, er0, er1, er2]) rfl ⟨.inr ⟨by trivial, _, _, rfl, EN.out.2.2.1, EN.out.2.2.2⟩, EN.out.2.1⟩
/-- The program's Make, of whatever operation. -/
theorem omake_any : OMakeC OpK := by
  intro o ax cx ay cy a b w hk hA hF ha hb
  by_cases hf : (0 ≤ o.kd ∧ o.kd ≤ 3) ∧ (0 ≤ o.bd ∧ o.bd ≤ 2) ∧ (1 ≤ a ∧ a ≤ 65536) ∧ (1 ≤ b ∧ b ≤ 65536)
  case neg =>
    have ho : okO o a b = false := by
      cases e : okO o a b with
      | false => rfl
      | true => exact absurd (let g := (okO_iff o a b).1 e; ⟨g.1, g.2.1, g.2.2.1, g.2.2.2.1⟩) hf
    have hc : opCode o a b = 6 := if_pos ho
    rw [hc]
    refine (omake_bad o ax cx ay cy a b w hk hf).mono ?_
    rintro e w1 ⟨rfl, bb⟩
    exact ⟨.inl ⟨by decide, rfl⟩, bb⟩
  obtain ⟨⟨k0, k1⟩, ⟨b0, b1⟩, ⟨a0, a1⟩, h0, h1⟩ := hf
  by_cases k3 : o.kd = 3
  · by_cases hr : (1 ≤ o.wd ∧ o.wd ≤ 65536) ∧ (1 ≤ o.ht ∧ o.ht ≤ 65536) ∧ 0 ≤ o.fl ∧ o.fl ≤ 2
    · have ho : okO o a b = true := (okO_iff o a b).2 ⟨⟨k0, k1⟩, ⟨b0, b1⟩, ⟨a0, a1⟩, ⟨h0, h1⟩, fun _ => hr⟩
      have hc : opCode o a b = if resCode o.fl a o.wd ≠ 0 then resCode o.fl a o.wd else resCode o.fl b o.ht := by
        unfold opCode xCode yCode
        rw [ho, if_neg (by decide), if_neg (fun q => q.1 k3), if_pos k3, if_pos k3]
      rw [hc]
      exact omake_res o ax cx ay cy a b w hk k0 k1 b0 b1 a0 a1 h0 h1 k3 _ _ fun w' b' => oresize_any o ax cx ay cy a b w' (kinds_below hk.1 b') hF k3 ha hb hr.1.1 hr.1.2 hr.2.1.1 hr.2.1.2 hr.2.2.1 hr.2.2.2
    · have ho : okO o a b = false := by
        cases e : okO o a b with
        | false => rfl
        | true => exact absurd (((okO_iff o a b).1 e).2.2.2.2 k3) hr
      have hc : opCode o a b = 6 := if_pos ho
      rw [hc]
      exact omake_res o ax cx ay cy a b w hk k0 k1 b0 b1 a0 a1 h0 h1 k3 _ _ fun w' b' => (oresize_bad o ax cx ay cy a b w' (kinds_below hk.1 b') hF hr).mono fun e w'' ⟨he, hB⟩ => ⟨.inl ⟨by decide, he⟩, hB⟩
  · have ho : okO o a b = true := (okO_iff o a b).2 ⟨⟨k0, k1⟩, ⟨b0, b1⟩, ⟨a0, a1⟩, ⟨h0, h1⟩, fun q => absurd q k3⟩
    have hc : opCode o a b = if wCode o ≠ 0 then wCode o else if filCode (wX o) a ≠ 0 then filCode (wX o) a else filCode (wY o) b := by
      unfold opCode xCode yCode
      rw [ho, if_neg (by decide), if_neg k3, if_neg k3]
      by_cases g : wCode o = 0
      · rw [if_neg (fun q => q.2 g), if_neg (show ¬ (wCode o ≠ 0) from fun q => q g)]
      · rw [if_pos ⟨k3, g⟩, if_pos g]
    rw [hc]
    exact omake_fil o ax cx ay cy a b w hk k0 k1 b0 b1 a0 a1 h0 h1 k3 _ _ fun w' b' => ofilter_any o ax cx ay cy a b w' (kinds_below hk.1 b') (hA.below b') hF (by omega) ha hb
end Go.Proofs.YtaafhjngnjjcmaaGreatDoor

/- What comes out: does a stage suit; and what is rounded. -/
namespace Go.Proofs.YtaafhjngnjjcmaaGreatDoor
open Go.RowKit

theorem tab_ptr_no : ∀ (p : Addr) (w : World), (binOp .eql 41 (.pointer (some p)) (.pointer none)).run Tryz.prog w = .ok (.bool false) w := fun p w => by kernel_rfl
theorem tab_ptr_nil : ∀ (w : World), (binOp .eql 41 (.pointer none) (.pointer none)).run Tryz.prog w = .ok (.bool true) w := fun w => by kernel_rfl
theorem suits_border {I : Im} {S : Stg} (h : S.sb < 0 ∨ 2 < S.sb) : suitsF I S = false := by
  unfold suitsF
  rcases h with h | h
  · rw [decide_eq_false (show ¬ (0 ≤ S.sb) by omega)]; simp
  · rw [decide_eq_false (show ¬ (S.sb ≤ 2) by omega)]; simp
theorem suits_in {I : Im} {S : Stg} (h0 : 0 ≤ S.sb) (h1 : S.sb ≤ 2) : suitsF I S = (decide (S.fx = I.iw) && decide (S.fy = I.ih)) := by
  unfold suitsF
  rw [decide_eq_true h0, decide_eq_true h1]
  simp
theorem dir_lacks {w : World} {g : Nat} : Calls Tryz.prog 23 #[.pointer (some ⟨g, 0, none⟩), .agg #[.pointer none, .pointer none, .int .i64 0]] w fun e w' => e = .returned (.bool false) ∧ Below w.heap.size w w' := by
  have e1 := tab_ptr_nil
  go_enter Tryz.func23, Tryz.ntmps23
  go_wp2_with fail
  go_ret
  exact ⟨rfl, below1 _ _⟩
set_option maxHeartbeats 2000000 in
theorem dir_suits {w : World} {g h : Nat} {I : Im} {x y : Value} {S : Stg} (hk : OpK w) (H : ImgAt w g h I) (tx : Tab w x S.fx S.lx) (ty : Tab w y S.fy S.ly) :
    Calls Tryz.prog 23 #[.pointer (some ⟨g, 0, none⟩), .agg #[x, y, .int .i64 S.sb]] w fun e w' => e = .returned (.bool (suitsF I S)) ∧ Below w.heap.size w w' := by
  have CN := fun w' (b : Below w.heap.size w w') => nameE_any S.sb w' (namesE_below hk.2 b)
  have CX := fun w' (b : Below w.heap.size w w') => tab_from (tx.below b)
  have CY := fun w' (b : Below w.heap.size w w') => tab_from (ty.below b)
  have CW := fun w' (b : Below w.heap.size w w') => img_width (H.below b)
  have CH := fun w' (b : Below w.heap.size w w') => img_height (H.below b)
  obtain ⟨ax, rfl⟩ := tx.ptr
  obtain ⟨ay, rfl⟩ := ty.ptr
  have e1 := tab_ptr_no
  by_cases hs : S.sb < 0 ∨ 2 < S.sb
  · rw [suits_border hs]
    rw [nameE_none _ hs] at CN
    clear tx ty hk H CX CY CW CH hs
    go_enter Tryz.func23, Tryz.ntmps23
    go_wp2_with (go_at_call 52; (with_reducible refine (CN _ (below1 _ _)).mono ?_); rintro e w1 ⟨rfl, rfl⟩)
    go_ret
    exact ⟨rfl, below1 _ _⟩
  · rw [suits_in (by omega) (by omega)]
    obtain ⟨s, hs1, hs2⟩ := nameE_some S.sb (by omega) (by omega)
    rw [hs1] at CN
    clear tx ty hk H hs hs1
    generalize S.fx = fx at *
    generalize S.fy = fy at *
    generalize S.sb = sb at *
    generalize I.iw = iw at *
    generalize I.ih = ih at *
    by_cases hx : fx = iw
    · subst hx
      rw [show decide (fx = fx) = true from decide_eq_true rfl, Bool.true_and]
      by_cases hy : fy = ih
      · subst hy
        rw [show decide (fy = fy) = true from decide_eq_true rfl]
        go_enter Tryz.func23, Tryz.ntmps23
        go_wp2_with (first
          | (go_at_call 52; (with_reducible refine (CN _ (below1 _ _)).mono ?_); rintro e w1 ⟨rfl, rfl⟩)
          | (go_at_call 53; (with_reducible refine (CX _ (below1 _ _)).mono ?_); rintro e w2 ⟨rfl, b2⟩; have q1 := cb b2 (b := w.heap.size) (o := 1) (v := .pointer (some ay)) (by simp) (by simp))
          | (go_at_call 53; (with_reducible refine (CY _ (bt (below1 _ _) b2)).mono ?_); rintro e w3 ⟨rfl, b3⟩)
          | (go_at_call 17; (with_reducible refine (CW _ (bt (below1 _ _) b2)).mono ?_); rintro e w4 ⟨rfl, rfl⟩)
          | (go_at_call 19; (with_reducible refine (CH _ (bt (bt (below1 _ _) b2) b3)).mono ?_); rintro e w5 ⟨rfl, rfl⟩))
        go_ret
        exact ⟨rfl, bt (bt (below1 _ _) b2) b3⟩
      · have hq : (fy == ih) = false := by simpa using hy
        rw [decide_eq_false hy]
        clear hy
        go_enter Tryz.func23, Tryz.ntmps23
        go_wp2_with (first
          | (go_at_call 52; (with_reducible refine (CN _ (below1 _ _)).mono ?_); rintro e w1 ⟨rfl, rfl⟩)
          | (go_at_call 53; (with_reducible refine (CX _ (below1 _ _)).mono ?_); rintro e w2 ⟨rfl, b2⟩; have q1 := cb b2 (b := w.heap.size) (o := 1) (v := .pointer (some ay)) (by simp) (by simp))
          | (go_at_call 53; (with_reducible refine (CY _ (bt (below1 _ _) b2)).mono ?_); rintro e w3 ⟨rfl, b3⟩)
          | (go_at_call 17; (with_reducible refine (CW _ (bt (below1 _ _) b2)).mono ?_); rintro e w4 ⟨rfl, rfl⟩)
          | (go_at_call 19; (with_reducible refine (CH _ (bt (bt (below1 _ _) b2) b3)).mono ?_); rintro e w5 ⟨rfl, rfl⟩))
        go_ret
        exact ⟨rfl, bt (bt (below1 _ _) b2) b3⟩
    · have hq : (fx == iw) = false := by simpa using hx
      rw [decide_eq_false hx, Bool.false_and]
      clear hx
      go_enter Tryz.func23, Tryz.ntmps23
      go_wp2_with (first
        | (go_at_call 52; (with_reducible refine (CN _ (below1 _ _)).mono ?_); rintro e w1 ⟨rfl, rfl⟩)
        | (go_at_call 53; (with_reducible refine (CX _ (below1 _ _)).mono ?_); rintro e w2 ⟨rfl, b2⟩)
        | (go_at_call 17; (with_reducible refine (CW _ (bt (below1 _ _) b2)).mono ?_); rintro e w4 ⟨rfl, rfl⟩))
      go_ret
      exact ⟨rfl, bt (below1 _ _) b2⟩
theorem clamp_most (t : Int) : clampF t 0 65535 = mostC t := by unfold clampF mostC; split <;> split <;> (try split) <;> omega
theorem clamp_round (v t : Int) : clampF v 0 (mostC t) = (if v < 0 then 0 else if mostC t < v then mostC t else v) := by
  have := mostC_in t
  unfold clampF
  generalize mostC t = m at *
  split <;> split <;> (try split) <;> omega
theorem dir_round (s t : Int) (s0 : -9223372036854775808 ≤ s) (s1 : s ≤ 9223372036854775807) (w : World) : Calls Tryz.prog 26 #[.int .i64 s, .int .i64 t] w fun e w' => e = .returned (.int .u16 (roundF s t)) ∧ Below w.heap.size w w' := by
  have C1 := fun w => fixclamp_any t 0 65535 w
  have C2 := fun w => fixshift_any s 28 s0 s1 (by omega) (by omega) w
  have C3 := fun w => fixclamp_any (shiftF s 28) 0 (mostC t) w
  rw [clamp_most] at C1
  rw [clamp_round] at C3
  have hr := roundF_in s t
  have hm := mostC_in t
  unfold roundF at hr ⊢
  generalize mostC t = m at *
  generalize shiftF s 28 = V at *
  generalize (if V < 0 then 0 else if m < V then m else V) = R at *
  obtain ⟨r0, r1⟩ := hr
  have E : IntKind.u16.wrap R = R := by rw [IntKind.wrap_u16]; omega
  have HE := hide E
  go_enter Tryz.func26, Tryz.ntmps26
  go_wp2_with (first
    | (go_at_call 60; (with_reducible refine (C2 _).mono ?_); rintro e w2 ⟨rfl, b2⟩)
    | (go_at_call 59; (with_reducible refine (C1 _).mono ?_); rintro e w1 ⟨rfl, rfl⟩)
    | (go_at_call 59; (with_reducible refine (C3 _).mono ?_); rintro e w3 ⟨rfl, rfl⟩))
  go_ret
  exact ⟨rfl, b2⟩
end Go.Proofs.YtaafhjngnjjcmaaGreatDoor
