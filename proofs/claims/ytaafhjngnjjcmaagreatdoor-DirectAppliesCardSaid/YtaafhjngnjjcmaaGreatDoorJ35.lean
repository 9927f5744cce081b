/- Parts, joined. -/
import Derived.Test.YtaafhjngnjjcmaaGreatDoorJ34
import Derived.Test.YtaafhjngnjjcmaaGreatDoorJ26
import Derived.Test.YtaafhjngnjjcmaaGreatDoorJ23
/- Operations: the program's weights, the two roads of Make, and Make. Written by gen_XS12S.py. -/
namespace Go.Proofs.YtaafhjngnjjcmaaGreatDoor
open Go.RowKit


/-- Three cells of a block, that may be written. -/
def S3 (w : World) (R : Nat) (v0 v1 v2 : Value) : Prop :=
  (w.cell? ⟨R, 0, none⟩ = some v0 ∧ w.frozen? ⟨R, 0, none⟩ = false) ∧ (w.cell? ⟨R, 1, none⟩ = some v1 ∧ w.frozen? ⟨R, 1, none⟩ = false) ∧ (w.cell? ⟨R, 2, none⟩ = some v2 ∧ w.frozen? ⟨R, 2, none⟩ = false)
theorem S3.below {w w' : World} {R : Nat} {v0 v1 v2 : Value} (h : S3 w R v0 v1 v2) (hb : Below w.heap.size w w') : S3 w' R v0 v1 v2 := by
  obtain ⟨⟨a, a'⟩, ⟨b, b'⟩, ⟨c, c'⟩⟩ := h
  have hl := cell_ltL a
  exact ⟨⟨cb hb hl a, fb hb hl a'⟩, ⟨cb hb hl b, fb hb hl b'⟩, ⟨cb hb hl c, fb hb hl c'⟩⟩
theorem S3.new (w : World) (T : TypeId) (v0 v1 v2 : Value) : S3 (w.alloc (.cells #[v0, v1, v2] T)) w.heap.size v0 v1 v2 := by
  unfold S3
  simp
/-- All three are written. -/
theorem S3.fill {w : World} {R : Nat} {u0 u1 u2 : Value} (h : S3 w R u0 u1 u2) (v0 v1 v2 : Value) : S3 (((w.setCell ⟨R, 0, none⟩ v0).setCell ⟨R, 1, none⟩ v1).setCell ⟨R, 2, none⟩ v2) R v0 v1 v2 := by
  obtain ⟨⟨a, a'⟩, ⟨b, b'⟩, ⟨c, c'⟩⟩ := h
  unfold S3
  simp only [World.frozen?_setCell]
  have e0 : ((w.setCell ⟨R, 0, none⟩ v0)).cell? ⟨R, 0, none⟩ = some v0 := World.cell?_setCell_same' _ _ _ (by rw [a]; rfl)
  have e1 : ((w.setCell ⟨R, 0, none⟩ v0).setCell ⟨R, 1, none⟩ v1).cell? ⟨R, 1, none⟩ = some v1 := World.cell?_setCell_same' _ _ _ (by rw [set_apart (Or.inr (by decide)), b]; rfl)
  have e2 : (((w.setCell ⟨R, 0, none⟩ v0).setCell ⟨R, 1, none⟩ v1).setCell ⟨R, 2, none⟩ v2).cell? ⟨R, 2, none⟩ = some v2 := World.cell?_setCell_same' _ _ _ (by rw [set_apart (Or.inr (by decide)), set_apart (Or.inr (by decide)), c]; rfl)
  refine ⟨⟨?_, a'⟩, ⟨?_, b'⟩, ⟨e2, c'⟩⟩
  · rw [set_apart (Or.inr (by decide)), set_apart (Or.inr (by decide))]; exact e0
  · rw [set_apart (Or.inr (by decide))]; exact e1
theorem below_fill3 {a w : World} {R : Nat} (h : Below a.heap.size a w) (hR : a.heap.size ≤ R) (v0 v1 v2 : Value) : Below a.heap.size a (((w.setCell ⟨R, 0, none⟩ v0).setCell ⟨R, 1, none⟩ v1).setCell ⟨R, 2, none⟩ v2) :=
  bs (bs (bs h hR _) hR _) hR _
/-- A table is left alone where three cells of another block are written. -/
theorem Tab.fill3 {w : World} {R : Nat} {u0 u1 u2 : Value} {v : Value} {n : Int} {L : List (Int × List Int)} (h : Tab w v n L) (hs : S3 w R u0 u1 u2) (hp : ∀ x, u0 ≠ .int .i64 x) (v0 v1 v2 : Value) : Tab (((w.setCell ⟨R, 0, none⟩ v0).setCell ⟨R, 1, none⟩ v1).setCell ⟨R, 2, none⟩ v2) v n L := by
  refine h.kept (((grown_set w R 0 v0).trans (grown_set _ R 1 v1)).trans (grown_set _ R 2 v2)) (fun b x e c => ?_)
  obtain rfl := Option.some.inj e
  rw [hs.1.1] at c
  exact hp x (Option.some.inj c)
theorem user_n (n : Nat) (xs : List Int) (hn : xs.length = n) (ad : Option Addr) (cap : Nat) (w : World) (hr : RowAt .i64 w ad xs) (hx : All64 xs) (hl : n ≤ 9223372036854775807) :
    Calls Tryz.prog 120 #[.slice ad n cap] w fun e w' => ∃ v, e = .returned (.tuple #[v, .int .i64 (userCode xs)]) ∧ Ret .i64 (userOut xs) w' v ∧ Below w.heap.size w w' := by
  subst hn
  exact user_any xs ad cap w hr hx hl
/-- What weights answers. -/
def WAns (e : Ending) (w' : World) (k : Int) (xs ys : List Int) : Prop :=
  ∃ a1 n1 c1 a2 n2 c2, e = .returned (.tuple #[.slice a1 n1 c1, .slice a2 n2 c2, .int .i64 k]) ∧ (k = 0 → (xs.length = n1 ∧ RowAt .i64 w' a1 xs) ∧ ys.length = n2 ∧ RowAt .i64 w' a2 ys)
set_option maxHeartbeats 2000000 in
theorem weights_gauss (o : Opr) (ax : Option Addr) (cx : Nat) (ay : Option Addr) (cy : Nat) (w : World) (k3 : o.kd = 0) :
    Calls Tryz.prog 99 #[opV o ax cx ay cy] w fun e w' => WAns e w' (wCode o) (wX o) (wY o) ∧ Below w.heap.size w w' := by
  rw [show wCode o = gauCode o.sg from if_pos k3, show wX o = gauOut o.sg from if_pos k3, show wY o = gauOut o.sg from if_pos k3]
  unfold opV
  obtain ⟨kd, bd, sg, rd, xs, ys, fl, wd, ht⟩ := o
  simp only at *
  subst k3
  have CG := fun w => gaussian_any sg w
  generalize xs.length = nx at *
  generalize ys.length = ny at *
  generalize gauCode sg = kc at *
  generalize gauOut sg = zs at *
  obtain ⟨nz, hz⟩ : ∃ n, zs.length = n := ⟨_, rfl⟩
  have HZ := hide hz
  clear hz
  go_enter Tryz.func99, Tryz.ntmps99
  go_wp2_with (go_at_call 118; (with_reducible refine (CG _).mono ?_); rintro e w1 ⟨v, rfl, hv, b1⟩; obtain ⟨ad, cap, rfl, hr⟩ := hv.formn HZ.out; have HR := hide hr; clear hv hr)
  exact bodyPost_ret (v := .tuple #[.slice ad nz cap, .slice ad nz cap, .int .i64 kc]) (by simp [results, Tryz.results99, go_sem]) rfl ⟨⟨ad, nz, cap, ad, nz, cap, rfl, fun _ => ⟨⟨HZ.out, HR.out⟩, HZ.out, HR.out⟩⟩, bt (below1 _ _) b1⟩
set_option maxHeartbeats 2000000 in
theorem weights_blur (o : Opr) (ax : Option Addr) (cx : Nat) (ay : Option Addr) (cy : Nat) (w : World) (k3 : o.kd = 1) :
    Calls Tryz.prog 99 #[opV o ax cx ay cy] w fun e w' => WAns e w' (wCode o) (wX o) (wY o) ∧ Below w.heap.size w w' := by
  rw [show wCode o = blurCode o.rd from (if_neg (by omega)).trans (if_pos k3), show wX o = blurOut o.rd from (if_neg (by omega)).trans (if_pos k3), show wY o = blurOut o.rd from (if_neg (by omega)).trans (if_pos k3)]
  unfold opV
  obtain ⟨kd, bd, sg, rd, xs, ys, fl, wd, ht⟩ := o
  simp only at *
  subst k3
  have CG := fun w => blur_any rd w
  generalize xs.length = nx at *
  generalize ys.length = ny at *
  generalize blurCode rd = kc at *
  generalize blurOut rd = zs at *
  obtain ⟨nz, hz⟩ : ∃ n, zs.length = n := ⟨_, rfl⟩
  have HZ := hide hz
  clear hz
  go_enter Tryz.func99, Tryz.ntmps99
  go_wp2_with (go_at_call 119; (with_reducible refine (CG _).mono ?_); rintro e w1 ⟨v, rfl, hv, b1⟩; obtain ⟨ad, cap, rfl, hr⟩ := hv.formn HZ.out; have HR := hide hr; clear hv hr)
  exact bodyPost_ret (v := .tuple #[.slice ad nz cap, .slice ad nz cap, .int .i64 kc]) (by simp [results, Tryz.results99, go_sem]) rfl ⟨⟨ad, nz, cap, ad, nz, cap, rfl, fun _ => ⟨⟨HZ.out, HR.out⟩, HZ.out, HR.out⟩⟩, bt (below1 _ _) b1⟩
set_option maxHeartbeats 2000000 in
theorem weights_kernel (o : Opr) (ax : Option Addr) (cx : Nat) (ay : Option Addr) (cy : Nat) (w : World) (k3 : o.kd = 2) (hA : OpAt w o ax cx ay cy) (hF : OpFits o) :
    Calls Tryz.prog 99 #[opV o ax cx ay cy] w fun e w' => WAns e w' (wCode o) (wX o) (wY o) ∧ Below w.heap.size w w' := by
  have hl1 : o.xs.length ≤ 9223372036854775807 := hF.lx
  have hl2 : o.ys.length ≤ 9223372036854775807 := hF.ly
  have CX := fun w' (b : Below w.heap.size w w') => user_n o.xs.length o.xs rfl ax cx w' (hA.1.below b) hF.xs.all hl1
  have CY := fun w' (b : Below w.heap.size w w') => user_n o.ys.length o.ys rfl ay cy w' (hA.2.1.below b) hF.ys.all hl2
  have hw : wCode o = if userCode o.xs ≠ 0 then userCode o.xs else userCode o.ys := (if_neg (by omega)).trans (if_neg (by omega))
  rw [hw, show wX o = userOut o.xs from (if_neg (by omega)).trans (if_neg (by omega)), show wY o = userOut o.ys from (if_neg (by omega)).trans (if_neg (by omega))]
  clear hw hA hF hl1 hl2
  unfold opV
  obtain ⟨kd, bd, sg, rd, xs, ys, fl, wd, ht⟩ := o
  simp only at *
  subst k3
  generalize userCode xs = kx at *
  generalize userCode ys = ky at *
  generalize userOut xs = us at *
  generalize userOut ys = vs at *
  generalize xs.length = nx at *
  generalize ys.length = ny at *
  obtain ⟨nu, hu⟩ : ∃ n, us.length = n := ⟨_, rfl⟩
  obtain ⟨nv, hv⟩ : ∃ n, vs.length = n := ⟨_, rfl⟩
  have HU := hide hu
  have HV := hide hv
  clear hu hv
  have P0 := hide (P9.new w 50 2 bd sg rd (.slice ax nx cx) (.slice ay ny cy) fl wd ht)
  by_cases hz : kx = 0
  · subst hz
    rw [if_neg (by decide)]
    go_enter Tryz.func99, Tryz.ntmps99
    go_wp2_with (first
      | (go_at_call 120; (with_reducible refine (CX _ (below1 _ _)).mono ?_); rintro e w1 ⟨v, rfl, hv, b1⟩; obtain ⟨ad, cap, rfl, hr⟩ := hv.formn HU.out; have HR := hide hr; clear hv hr; have p1 := (P0.out).below b1; obtain ⟨a0, a1, a2, a3, a4, a5, a6, a7, a8⟩ := p1)
      | (go_at_call 120; (with_reducible refine (CY _ (bt (below1 _ _) b1)).mono ?_); rintro e w2 ⟨v2, rfl, hv2, b2⟩; obtain ⟨ad2, cap2, rfl, hr2⟩ := hv2.formn HV.out; have HR2 := hide hr2; clear hv2 hr2))
    exact bodyPost_ret (v := .tuple #[.slice ad nu cap, .slice ad2 nv cap2, .int .i64 ky]) (by simp [results, Tryz.results99, go_sem]) rfl ⟨⟨ad, nu, cap, ad2, nv, cap2, rfl, fun _ => ⟨⟨HU.out, HR.out.below b2⟩, HV.out, HR2.out⟩⟩, bt (bt (below1 _ _) b1) b2⟩
  · rw [if_pos hz]
    have qz : (kx != 0) = true := bne_iff_ne.2 hz
    have HNZ := hide hz
    clear hz
    go_enter Tryz.func99, Tryz.ntmps99
    go_wp2_with (go_at_call 120; (with_reducible refine (CX _ (below1 _ _)).mono ?_); rintro e w1 ⟨v, rfl, hv, b1⟩; obtain ⟨ad, cap, rfl, hr⟩ := hv.formn HU.out; clear hv hr)
    exact bodyPost_ret (v := .tuple #[.slice none 0 0, .slice none 0 0, .int .i64 kx]) (by simp [results, Tryz.results99, go_sem]) rfl ⟨⟨none, 0, 0, none, 0, 0, rfl, fun g => absurd g HNZ.out⟩, bt (below1 _ _) b1⟩
theorem weights_any (o : Opr) (ax : Option Addr) (cx : Nat) (ay : Option Addr) (cy : Nat) (w : World) (k3 : o.kd = 0 ∨ o.kd = 1 ∨ o.kd = 2) (hA : OpAt w o ax cx ay cy) (hF : OpFits o) :
    Calls Tryz.prog 99 #[opV o ax cx ay cy] w fun e w' => WAns e w' (wCode o) (wX o) (wY o) ∧ Below w.heap.size w w' := by
  rcases k3 with k | k | k
  · exact weights_gauss o ax cx ay cy w k
  · exact weights_blur o ax cx ay cy w k
  · exact weights_kernel o ax cx ay cy w k hA hF
set_option maxHeartbeats 4000000 in
set_option maxRecDepth 100000 in
theorem ofilter_any (o : Opr) (ax : Option Addr) (cx : Nat) (ay : Option Addr) (cy : Nat) (a b : Int) (w : World) (hk : Kinds w) (hA : OpAt w o ax cx ay cy) (hF : OpFits o) (k3 : o.kd = 0 ∨ o.kd = 1 ∨ o.kd = 2) (ha : In64 a) (hb : In64 b) :
    Calls Tryz.prog 71 #[opV o ax cx ay cy, .int .i64 a, .int .i64 b] w fun e w' => MakeAns e w' (if wCode o ≠ 0 then wCode o else if filCode (wX o) a ≠ 0 then filCode (wX o) a else filCode (wY o) b) (stgOf o a b) ∧ Below w.heap.size w w' := by
  have CW := fun w' (b' : Below w.heap.size w w') => weights_any o ax cx ay cy w' k3 (hA.below b') hF
  have HK := hide (fun (w' : World) (b' : Below w.heap.size w w') => kinds_below hk b')
  have hlen := fun e : wCode o = 0 => wX_len e
  have CX := fun (n1 : Nat) (hn : (wX o).length = n1) (hl : n1 ≤ 1048576) (ad : Option Addr) (cap : Nat) (w' : World) (hk : Kinds w') (hr : RowAt .i64 w' ad (wX o)) => show Calls Tryz.prog 100 #[.slice ad n1 cap, .int .i64 a] w' fun e w'' => ∃ v, e = .returned (.tuple #[v, .int .i64 (filCode (wX o) a)]) ∧ (filCode (wX o) a = 0 → Tab w'' v a (filTo (wX o) a.toNat)) ∧ (filCode (wX o) a ≠ 0 → v = .pointer none) ∧ Below w'.heap.size w' w'' by
    subst hn; exact filter_c (wX o) ad cap a w' hk hr (wX_64 o).1 (by omega) ha.1 ha.2
  have CY := fun (n1 : Nat) (hn : (wY o).length = n1) (hl : n1 ≤ 1048576) (ad : Option Addr) (cap : Nat) (w' : World) (hk : Kinds w') (hr : RowAt .i64 w' ad (wY o)) => show Calls Tryz.prog 100 #[.slice ad n1 cap, .int .i64 b] w' fun e w'' => ∃ v, e = .returned (.tuple #[v, .int .i64 (filCode (wY o) b)]) ∧ (filCode (wY o) b = 0 → Tab w'' v b (filTo (wY o) b.toNat)) ∧ (filCode (wY o) b ≠ 0 → v = .pointer none) ∧ Below w'.heap.size w' w'' by
    subst hn; exact filter_c (wY o) ad cap b w' hk hr (wX_64 o).2 (by omega) hb.1 hb.2
  have hX : (stgOf o a b).lx = filTo (wX o) a.toNat := if_neg (by omega)
  have hY : (stgOf o a b).ly = filTo (wY o) b.toNat := if_neg (by omega)
  have HS := hide (fun (e : Ending) (w' : World) (x y : Value) (he : e = .returned (.tuple #[.agg #[x, y, .int .i64 o.bd], .int .i64 0])) (hx : Tab w' x a (filTo (wX o) a.toNat)) (hy : Tab w' y b (filTo (wY o) b.toNat)) => show MakeAns e w' 0 (stgOf o a b) from .inr ⟨rfl, x, y, he, by rw [hX]; exact hx, by rw [hY]; exact hy⟩)
  have HZ := hide (fun (w' : World) (k : Int) (hk : k ≠ 0) => show MakeAns (.returned (.tuple #[.agg #[.pointer none, .pointer none, .int .i64 0], .int .i64 k])) w' k (stgOf o a b) from .inl ⟨hk, rfl⟩)
  unfold opV at CW ⊢
  clear hX hY hA hF ha hb hk k3
  generalize filTo (wX o) a.toNat = LX at *
  generalize filTo (wY o) b.toNat = LY at *
  generalize filCode (wX o) a = kx at *
  generalize filCode (wY o) b = ky at *
  generalize wX o = ux at *
  generalize wY o = uy at *
  generalize wCode o = kw at *
  generalize stgOf o a b = ST at *
  obtain ⟨kd, bd, sg, rd, xs, ys, fl, wd, ht⟩ := o
  simp only at *
  generalize xs.length = nx at *
  generalize ys.length = ny at *
  have HP := hide (show P9 ((w.alloc (.cells #[.int .i64 kd, .int .i64 bd, .int .i64 sg, .int .i64 rd, .slice ax nx cx, .slice ay ny cy, .int .i64 fl, .int .i64 wd, .int .i64 ht] 50)).alloc (.cells #[.pointer none, .pointer none, .int .i64 0] 44)) w.heap.size kd bd sg rd (.slice ax nx cx) (.slice ay ny cy) fl wd ht from (P9.new w 50 kd bd sg rd (.slice ax nx cx) (.slice ay ny cy) fl wd ht).below (below1 _ _))
  have HR := hide (show S3 ((w.alloc (.cells #[.int .i64 kd, .int .i64 bd, .int .i64 sg, .int .i64 rd, .slice ax nx cx, .slice ay ny cy, .int .i64 fl, .int .i64 wd, .int .i64 ht] 50)).alloc (.cells #[.pointer none, .pointer none, .int .i64 0] 44)) (w.heap.size + 1) (.pointer none) (.pointer none) (.int .i64 0) from by simpa using S3.new (w.alloc (.cells #[.int .i64 kd, .int .i64 bd, .int .i64 sg, .int .i64 rd, .slice ax nx cx, .slice ay ny cy, .int .i64 fl, .int .i64 wd, .int .i64 ht] 50)) 44 (.pointer none) (.pointer none) (.int .i64 0))
  have HB := hide (show Below w.heap.size w ((w.alloc (.cells #[.int .i64 kd, .int .i64 bd, .int .i64 sg, .int .i64 rd, .slice ax nx cx, .slice ay ny cy, .int .i64 fl, .int .i64 wd, .int .i64 ht] 50)).alloc (.cells #[.pointer none, .pointer none, .int .i64 0] 44)) from ba (below1 _ _) _)
  by_cases zw : kw = 0
  case neg =>
    rw [if_pos zw]
    have qz : (kw != 0) = true := bne_iff_ne.2 zw
    go_enter Tryz.func71, Tryz.ntmps71
    go_wp2_with (go_at_call 99; (with_reducible refine (CW _ HB.out).mono ?_); rintro e wv ⟨⟨a1, n1, c1, a2, n2, c2, rfl, hv⟩, bv⟩; have HV := hide hv; clear hv; have PV := hide (HP.out.below bv); have RV := hide (HR.out.below bv); have BV := hide (bt HB.out bv); have pv := PV.out; obtain ⟨a0, a1, a2, a3, a4, a5, a6, a7, a8⟩ := pv; have rv := RV.out; obtain ⟨⟨fr0, fy0⟩, ⟨fr1, fy1⟩, ⟨fr2, fy2⟩⟩ := rv)
    have EN := hide (And.intro (S3.fill RV.out (.pointer none) (.pointer none) (.int .i64 0)) (And.intro (below_fill3 BV.out (Nat.le_add_right _ 1) (.pointer none) (.pointer none) (.int .i64 0)) trivial))
    generalize (((wv).setCell ⟨w.heap.size + 1, 0, none⟩ (.pointer none)).setCell ⟨w.heap.size + 1, 1, none⟩ (.pointer none)).setCell ⟨w.heap.size + 1, 2, none⟩ (.int .i64 0) = WE at EN ⊢
    obtain ⟨⟨er0, ey0⟩, ⟨er1, ey1⟩, ⟨er2, ey2⟩⟩ := EN.out.1
    exact bodyPost_ret (v := .tuple #[.agg #[.pointer none, .pointer none, .int .i64 0], .int .i64 kw]) (by simp [results, Tryz.results71, go_sem, er0, er1, er2]) rfl ⟨HZ.out _ _ zw, EN.out.2.1⟩

  subst zw
  rw [if_neg (by decide)]
  have HLN := hide (hlen rfl)
  clear hlen
  by_cases zx : kx = 0
  case neg =>
    rw [if_pos zx]
    have qz : (kx != 0) = true := bne_iff_ne.2 zx
    go_enter Tryz.func71, Tryz.ntmps71
    go_wp2_with (first
      | (go_at_call 99; (with_reducible refine (CW _ HB.out).mono ?_); rintro e wv ⟨⟨a1, n1, c1, a2, n2, c2, rfl, hv⟩, bv⟩; have HV := hide hv; clear hv; have PV := hide (HP.out.below bv); have RV := hide (HR.out.below bv); have BV := hide (bt HB.out bv); have pv := PV.out; obtain ⟨a0, a1, a2, a3, a4, a5, a6, a7, a8⟩ := pv; have rv := RV.out; obtain ⟨⟨fr0, fy0⟩, ⟨fr1, fy1⟩, ⟨fr2, fy2⟩⟩ := rv)
      | (go_at_call 100; (with_reducible refine (CX n1 (HV.out (by trivial)).1.1 (by rw [← (HV.out (by trivial)).1.1]; exact HLN.out.1) _ _ _ (HK.out _ BV.out) (HV.out (by trivial)).1.2).mono ?_); rintro e wx ⟨x, rfl, tx, zv, bx⟩; have PX := hide (PV.out.below bx); have RX := hide (RV.out.below bx); have BX := hide (bt BV.out bx); have px := PX.out; obtain ⟨b0, b1, b2, b3, b4, b5, b6, b7, b8⟩ := px; have rx := RX.out; obtain ⟨⟨gr0, gy0⟩, ⟨gr1, gy1⟩, ⟨gr2, gy2⟩⟩ := rx; obtain rfl := zv zx))
    have EN := hide (And.intro (S3.fill RX.out (.pointer none) (.pointer none) (.int .i64 0)) (And.intro (below_fill3 BX.out (Nat.le_add_right _ 1) (.pointer none) (.pointer none) (.int .i64 0)) trivial))
    generalize (((wx).setCell ⟨w.heap.size + 1, 0, none⟩ (.pointer none)).setCell ⟨w.heap.size + 1, 1, none⟩ (.pointer none)).setCell ⟨w.heap.size + 1, 2, none⟩ (.int .i64 0) = WE at EN ⊢
    obtain ⟨⟨er0, ey0⟩, ⟨er1, ey1⟩, ⟨er2, ey2⟩⟩ := EN.out.1
    exact bodyPost_ret (v := .tuple #[.agg #[.pointer none, .pointer none, .int .i64 0], .int .i64 kx]) (by simp [results, Tryz.results71, go_sem, er0, er1, er2]) rfl ⟨HZ.out _ _ zx, EN.out.2.1⟩

  subst zx
  rw [if_neg (by decide)]
  by_cases zy : ky = 0
  case neg =>
    have qz : (ky != 0) = true := bne_iff_ne.2 zy
    go_enter Tryz.func71, Tryz.ntmps71
    go_wp2_with (first
      | (go_at_call 99; (with_reducible refine (CW _ HB.out).mono ?_); rintro e wv ⟨⟨a1, n1, c1, a2, n2, c2, rfl, hv⟩, bv⟩; have HV := hide hv; clear hv; have PV := hide (HP.out.below bv); have RV := hide (HR.out.below bv); have BV := hide (bt HB.out bv); have pv := PV.out; obtain ⟨a0, a1, a2, a3, a4, a5, a6, a7, a8⟩ := pv; have rv := RV.out; obtain ⟨⟨fr0, fy0⟩, ⟨fr1, fy1⟩, ⟨fr2, fy2⟩⟩ := rv)
      | (go_at_call 100; (with_reducible refine (CX n1 (HV.out (by trivial)).1.1 (by rw [← (HV.out (by trivial)).1.1]; exact HLN.out.1) _ _ _ (HK.out _ BV.out) (HV.out (by trivial)).1.2).mono ?_); rintro e wx ⟨x, rfl, tx, zv, bx⟩; have PX := hide (PV.out.below bx); have RX := hide (RV.out.below bx); have BX := hide (bt BV.out bx); have px := PX.out; obtain ⟨b0, b1, b2, b3, b4, b5, b6, b7, b8⟩ := px; have rx := RX.out; obtain ⟨⟨gr0, gy0⟩, ⟨gr1, gy1⟩, ⟨gr2, gy2⟩⟩ := rx; have TX := hide (tx (by trivial)); clear tx; obtain ⟨gx, rfl⟩ := TX.out.ptr)
      | (go_at_call 100; (with_reducible refine (CY n2 (HV.out (by trivial)).2.1 (by rw [← (HV.out (by trivial)).2.1]; exact HLN.out.2) _ _ _ (HK.out _ BX.out) ((HV.out (by trivial)).2.2.below bx)).mono ?_); rintro e wy ⟨y, rfl, ty, zv2, by_⟩; have PY := hide (PX.out.below by_); have RY := hide (RX.out.below by_); have BY := hide (bt BX.out by_); have py := PY.out; obtain ⟨c0, c1, c2, c3, c4, c5, c6, c7, c8⟩ := py; have ry := RY.out; obtain ⟨⟨hr0, hy0⟩, ⟨hr1, hy1⟩, ⟨hr2, hy2⟩⟩ := ry; obtain rfl := zv2 zy))
    have EN := hide (And.intro (S3.fill RY.out (.pointer none) (.pointer none) (.int .i64 0)) (And.intro (below_fill3 BY.out (Nat.le_add_right _ 1) (.pointer none) (.pointer none) (.int .i64 0)) trivial))
    generalize (((wy).setCell ⟨w.heap.size + 1, 0, none⟩ (.pointer none)).setCell ⟨w.heap.size + 1, 1, none⟩ (.pointer none)).setCell ⟨w.heap.size + 1, 2, none⟩ (.int .i64 0) = WE at EN ⊢
    obtain ⟨⟨er0, ey0⟩, ⟨er1, ey1⟩, ⟨er2, ey2⟩⟩ := EN.out.1
    exact bodyPost_ret (v := .tuple #[.agg #[.pointer none, .pointer none, .int .i64 0], .int .i64 ky]) (by simp [results, Tryz.results71, go_sem, er0, er1, er2]) rfl ⟨HZ.out _ _ zy, EN.out.2.1⟩

  subst zy
  go_enter Tryz.func71, Tryz.ntmps71
  go_wp2_with (first
    | (go_at_call 99; (with_reducible refine (CW _ HB.out).mono ?_); rintro e wv ⟨⟨a1, n1, c1, a2, n2, c2, rfl, hv⟩, bv⟩; have HV := hide hv; clear hv; have PV := hide (HP.out.below bv); have RV := hide (HR.out.below bv); have BV := hide (bt HB.out bv); have pv := PV.out; obtain ⟨a0, a1, a2, a3, a4, a5, a6, a7, a8⟩ := pv; have rv := RV.out; obtain ⟨⟨fr0, fy0⟩, ⟨fr1, fy1⟩, ⟨fr2, fy2⟩⟩ := rv)
    | (go_at_call 100; (with_reducible refine (CX n1 (HV.out (by trivial)).1.1 (by rw [← (HV.out (by trivial)).1.1]; exact HLN.out.1) _ _ _ (HK.out _ BV.out) (HV.out (by trivial)).1.2).mono ?_); rintro e wx ⟨x, rfl, tx, zv, bx⟩; have PX := hide (PV.out.below bx); have RX := hide (RV.out.below bx); have BX := hide (bt BV.out bx); have px := PX.out; obtain ⟨b0, b1, b2, b3, b4, b5, b6, b7, b8⟩ := px; have rx := RX.out; obtain ⟨⟨gr0, gy0⟩, ⟨gr1, gy1⟩, ⟨gr2, gy2⟩⟩ := rx; have TX := hide (tx (by trivial)); clear tx; obtain ⟨gx, rfl⟩ := TX.out.ptr)
    | (go_at_call 100; (with_reducible refine (CY n2 (HV.out (by trivial)).2.1 (by rw [← (HV.out (by trivial)).2.1]; exact HLN.out.2) _ _ _ (HK.out _ BX.out) ((HV.out (by trivial)).2.2.below bx)).mono ?_); rintro e wy ⟨y, rfl, ty, zv2, by_⟩; have PY := hide (PX.out.below by_); have RY := hide (RX.out.below by_); have BY := hide (bt BX.out by_); have py := PY.out; obtain ⟨c0, c1, c2, c3, c4, c5, c6, c7, c8⟩ := py; have ry := RY.out; obtain ⟨⟨hr0, hy0⟩, ⟨hr1, hy1⟩, ⟨hr2, hy2⟩⟩ := ry; have TY := hide (ty (by trivial)); clear ty; obtain ⟨gy, rfl⟩ := TY.out.ptr))
  have EN := hide (And.intro (S3.fill RY.out (.pointer (some gx)) (.pointer (some gy)) (.int .i64 bd)) (And.intro (below_fill3 BY.out (Nat.le_add_right _ 1) (.pointer (some gx)) (.pointer (some gy)) (.int .i64 bd)) (And.intro (Tab.fill3 (TX.out.below by_) RY.out (fun _ q => by cases q) (.pointer (some gx)) (.pointer (some gy)) (.int .i64 bd)) (Tab.fill3 TY.out RY.out (fun _ q => by cases q) (.pointer (some gx)) (.pointer (some gy)) (.int .i64 bd)))))
  generalize (((wy).setCell ⟨w.heap.size + 1, 0, none⟩ (.pointer (some gx))).setCell ⟨w.heap.size + 1, 1, none⟩ (.pointer (some gy))).setCell ⟨w.heap.size + 1, 2, none⟩ (.int .i64 bd) = WE at EN ⊢
  obtain ⟨⟨er0, ey0⟩, ⟨er1, ey1⟩, ⟨er2, ey2⟩⟩ := EN.out.1
  exact bodyPost_ret (v := .tuple #[.agg #[.pointer (some gx), .pointer (some gy), .int .i64 bd], .int .i64 0]) (by simp [results, Tryz.results71, go_sem, er0, er1, er2]) rfl ⟨HS.out _ _ _ _ rfl EN.out.2.2.1 EN.out.2.2.2, EN.out.2.1⟩
set_option maxHeartbeats 4000000 in
set_option maxRecDepth 100000 in
theorem oresize_any (o : Opr) (ax : Option Addr) (cx : Nat) (ay : Option Addr) (cy : Nat) (a b : Int) (w : World) (hk : Kinds w) (hF : OpFits o) (k3 : o.kd = 3) (ha : In64 a) (hb : In64 b) (w0 : 1 ≤ o.wd) (w1 : o.wd ≤ 65536) (t0 : 1 ≤ o.ht) (t1 : o.ht ≤ 65536) (f0 : 0 ≤ o.fl) (f1 : o.fl ≤ 2) :
    Calls Tryz.prog 70 #[opV o ax cx ay cy, .int .i64 a, .int .i64 b] w fun e w' => MakeAns e w' (if resCode o.fl a o.wd ≠ 0 then resCode o.fl a o.wd else resCode o.fl b o.ht) (stgOf o a b) ∧ Below w.heap.size w w' := by
  have HK := hide (fun (w' : World) (b' : Below w.heap.size w w') => kinds_below hk b')
  have S1 := oside_yes o.wd w0 w1
  have S2 := oside_yes o.ht t0 t1
  have CN := fun (w' : World) (hk : Kinds w') => name_any o.fl hF.fl w' hk
  obtain ⟨s, hs, s0⟩ := name_some o.fl f0 f1
  rw [hs] at CN
  have CX := fun (w' : World) (hk : Kinds w') => resize_c o.fl a o.wd hF.fl.1 hF.fl.2 ha.1 ha.2 hF.wd.1 hF.wd.2 w' hk
  have CY := fun (w' : World) (hk : Kinds w') => resize_c o.fl b o.ht hF.fl.1 hF.fl.2 hb.1 hb.2 hF.ht.1 hF.ht.2 w' hk
  have hX : (stgOf o a b).lx = linesTo o.fl a o.wd o.wd.toNat := if_pos k3
  have hY : (stgOf o a b).ly = linesTo o.fl b o.ht o.ht.toNat := if_pos k3
  have HS := hide (fun (e : Ending) (w' : World) (x y : Value) (he : e = .returned (.tuple #[.agg #[x, y, .int .i64 o.bd], .int .i64 0])) (hx : Tab w' x a (linesTo o.fl a o.wd o.wd.toNat)) (hy : Tab w' y b (linesTo o.fl b o.ht o.ht.toNat)) => show MakeAns e w' 0 (stgOf o a b) from .inr ⟨rfl, x, y, he, by rw [hX]; exact hx, by rw [hY]; exact hy⟩)
  have HZ := hide (fun (w' : World) (k : Int) (hk : k ≠ 0) => show MakeAns (.returned (.tuple #[.agg #[.pointer none, .pointer none, .int .i64 0], .int .i64 k])) w' k (stgOf o a b) from .inl ⟨hk, rfl⟩)
  unfold opV
  clear hX hY hF ha hb hk hs w0 w1 t0 t1 f0 f1
  generalize linesTo o.fl a o.wd o.wd.toNat = LX at *
  generalize linesTo o.fl b o.ht o.ht.toNat = LY at *
  generalize resCode o.fl a o.wd = kx at *
  generalize resCode o.fl b o.ht = ky at *
  generalize stgOf o a b = ST at *
  obtain ⟨kd, bd, sg, rd, xs, ys, fl, wd, ht⟩ := o
  simp only at *
  subst k3
  generalize xs.length = nx at *
  generalize ys.length = ny at *
  have HP := hide (show P9 ((w.alloc (.cells #[.int .i64 3, .int .i64 bd, .int .i64 sg, .int .i64 rd, .slice ax nx cx, .slice ay ny cy, .int .i64 fl, .int .i64 wd, .int .i64 ht] 50)).alloc (.cells #[.pointer none, .pointer none, .int .i64 0] 44)) w.heap.size 3 bd sg rd (.slice ax nx cx) (.slice ay ny cy) fl wd ht from (P9.new w 50 3 bd sg rd (.slice ax nx cx) (.slice ay ny cy) fl wd ht).below (below1 _ _))
  have HR := hide (show S3 ((w.alloc (.cells #[.int .i64 3, .int .i64 bd, .int .i64 sg, .int .i64 rd, .slice ax nx cx, .slice ay ny cy, .int .i64 fl, .int .i64 wd, .int .i64 ht] 50)).alloc (.cells #[.pointer none, .pointer none, .int .i64 0] 44)) (w.heap.size + 1) (.pointer none) (.pointer none) (.int .i64 0) from by simpa using S3.new (w.alloc (.cells #[.int .i64 3, .int .i64 bd, .int .i64 sg, .int .i64 rd, .slice ax nx cx, .slice ay ny cy, .int .i64 fl, .int .i64 wd, .int .i64 ht] 50)) 44 (.pointer none) (.pointer none) (.int .i64 0))
  have HB := hide (show Below w.heap.size w ((w.alloc (.cells #[.int .i64 3, .int .i64 bd, .int .i64 sg, .int .i64 rd, .slice ax nx cx, .slice ay ny cy, .int .i64 fl, .int .i64 wd, .int .i64 ht] 50)).alloc (.cells #[.pointer none, .pointer none, .int .i64 0] 44)) from ba (below1 _ _) _)
  by_cases zx : kx = 0
  case neg =>
    rw [if_pos zx]
    have qz : (kx != 0) = true := bne_iff_ne.2 zx
    go_enter Tryz.func70, Tryz.ntmps70
    go_wp2_with (first
      | (go_at_call 97; (with_reducible refine (CN _ (HK.out _ HB.out)).mono ?_); rintro e wv ⟨rfl, bv⟩; have PV := hide (HP.out.below bv); have RV := hide (HR.out.below bv); have BV := hide (bt HB.out bv); have pv := PV.out; obtain ⟨a0, a1, a2, a3, a4, a5, a6, a7, a8⟩ := pv; have rv := RV.out; obtain ⟨⟨fr0, fy0⟩, ⟨fr1, fy1⟩, ⟨fr2, fy2⟩⟩ := rv)
      | (go_at_call 69; (with_reducible refine (S1 _).mono ?_); rintro e wz ⟨rfl, rfl⟩)
      | (go_at_call 69; (with_reducible refine (S2 _).mono ?_); rintro e wz ⟨rfl, rfl⟩)
      | (go_at_call 98; (with_reducible refine (CX _ (HK.out _ BV.out)).mono ?_); rintro e wx ⟨x, rfl, tx, zv, bx⟩; have PX := hide (PV.out.below bx); have RX := hide (RV.out.below bx); have BX := hide (bt BV.out bx); have px := PX.out; obtain ⟨b0, b1, b2, b3, b4, b5, b6, b7, b8⟩ := px; have rx := RX.out; obtain ⟨⟨gr0, gy0⟩, ⟨gr1, gy1⟩, ⟨gr2, gy2⟩⟩ := rx; obtain rfl := zv zx))
    have EN := hide (And.intro (S3.fill RX.out (.pointer none) (.pointer none) (.int .i64 0)) (And.intro (below_fill3 BX.out (Nat.le_add_right _ 1) (.pointer none) (.pointer none) (.int .i64 0)) trivial))
    generalize (((wx).setCell ⟨w.heap.size + 1, 0, none⟩ (.pointer none)).setCell ⟨w.heap.size + 1, 1, none⟩ (.pointer none)).setCell ⟨w.heap.size + 1, 2, none⟩ (.int .i64 0) = WE at EN ⊢
    obtain ⟨⟨er0, ey0⟩, ⟨er1, ey1⟩, ⟨er2, ey2⟩⟩ := EN.out.1
    exact bodyPost_ret (v := .tuple #[.agg #[.pointer none, .pointer none, .int .i64 0], .int .i64 kx]) (by simp [results, Tryz.results70, go_sem, er0, er1, er2]) rfl ⟨HZ.out _ _ zx, EN.out.2.1⟩

  subst zx
  rw [if_neg (by decide)]
  by_cases zy : ky = 0
  case neg =>
    have qz : (ky != 0) = true := bne_iff_ne.2 zy
    go_enter Tryz.func70, Tryz.ntmps70
    go_wp2_with (first
      | (go_at_call 97; (with_reducible refine (CN _ (HK.out _ HB.out)).mono ?_); rintro e wv ⟨rfl, bv⟩; have PV := hide (HP.out.below bv); have RV := hide (HR.out.below bv); have BV := hide (bt HB.out bv); have pv := PV.out; obtain ⟨a0, a1, a2, a3, a4, a5, a6, a7, a8⟩ := pv; have rv := RV.out; obtain ⟨⟨fr0, fy0⟩, ⟨fr1, fy1⟩, ⟨fr2, fy2⟩⟩ := rv)
      | (go_at_call 69; (with_reducible refine (S1 _).mono ?_); rintro e wz ⟨rfl, rfl⟩)
      | (go_at_call 69; (with_reducible refine (S2 _).mono ?_); rintro e wz ⟨rfl, rfl⟩)
      | (go_at_call 98; (with_reducible refine (CX _ (HK.out _ BV.out)).mono ?_); rintro e wx ⟨x, rfl, tx, zv, bx⟩; have PX := hide (PV.out.below bx); have RX := hide (RV.out.below bx); have BX := hide (bt BV.out bx); have px := PX.out; obtain ⟨b0, b1, b2, b3, b4, b5, b6, b7, b8⟩ := px; have rx := RX.out; obtain ⟨⟨gr0, gy0⟩, ⟨gr1, gy1⟩, ⟨gr2, gy2⟩⟩ := rx; have TX := hide (tx (by trivial)); clear tx; obtain ⟨gx, rfl⟩ := TX.out.ptr)
      | (go_at_call 98; (with_reducible refine (CY _ (HK.out _ BX.out)).mono ?_); rintro e wy ⟨y, rfl, ty, zv2, by_⟩; have PY := hide (PX.out.below by_); have RY := hide (RX.out.below by_); have BY := hide (bt BX.out by_); have py := PY.out; obtain ⟨c0, c1, c2, c3, c4, c5, c6, c7, c8⟩ := py; have ry := RY.out; obtain ⟨⟨hr0, hy0⟩, ⟨hr1, hy1⟩, ⟨hr2, hy2⟩⟩ := ry; obtain rfl := zv2 zy))
    have EN := hide (And.intro (S3.fill RY.out (.pointer none) (.pointer none) (.int .i64 0)) (And.intro (below_fill3 BY.out (Nat.le_add_right _ 1) (.pointer none) (.pointer none) (.int .i64 0)) trivial))
    generalize (((wy).setCell ⟨w.heap.size + 1, 0, none⟩ (.pointer none)).setCell ⟨w.heap.size + 1, 1, none⟩ (.pointer none)).setCell ⟨w.heap.size + 1, 2, none⟩ (.int .i64 0) = WE at EN ⊢
    obtain ⟨⟨er0, ey0⟩, ⟨er1, ey1⟩, ⟨er2, ey2⟩⟩ := EN.out.1
    exact bodyPost_ret (v := .tuple #[.agg #[.pointer none, .pointer none, .int .i64 0], .int .i64 ky]) (by simp [results, Tryz.results70, go_sem, er0, er1, er2]) rfl ⟨HZ.out _ _ zy, EN.out.2.1⟩

  subst zy
  go_enter Tryz.func70, Tryz.ntmps70
  go_wp2_with (first
    | (go_at_call 97; (with_reducible refine (CN _ (HK.out _ HB.out)).mono ?_); rintro e wv ⟨rfl, bv⟩; have PV := hide (HP.out.below bv); have RV := hide (HR.out.below bv); have BV := hide (bt HB.out bv); have pv := PV.out; obtain ⟨a0, a1, a2, a3, a4, a5, a6, a7, a8⟩ := pv; have rv := RV.out; obtain ⟨⟨fr0, fy0⟩, ⟨fr1, fy1⟩, ⟨fr2, fy2⟩⟩ := rv)
    | (go_at_call 69; (with_reducible refine (S1 _).mono ?_); rintro e wz ⟨rfl, rfl⟩)
    | (go_at_call 69; (with_reducible refine (S2 _).mono ?_); rintro e wz ⟨rfl, rfl⟩)
    | (go_at_call 98; (with_reducible refine (CX _ (HK.out _ BV.out)).mono ?_); rintro e wx ⟨x, rfl, tx, zv, bx⟩; have PX := hide (PV.out.below bx); have RX := hide (RV.out.below bx); have BX := hide (bt BV.out bx); have px := PX.out; obtain ⟨b0, b1, b2, b3, b4, b5, b6, b7, b8⟩ := px; have rx := RX.out; obtain ⟨⟨gr0, gy0⟩, ⟨gr1, gy1⟩, ⟨gr2, gy2⟩⟩ := rx; have TX := hide (tx (by trivial)); clear tx; obtain ⟨gx, rfl⟩ := TX.out.ptr)
    | (go_at_call 98; (with_reducible refine (CY _ (HK.out _ BX.out)).mono ?_); rintro e wy ⟨y, rfl, ty, zv2, by_⟩; have PY := hide (PX.out.below by_); have RY := hide (RX.out.below by_); have BY := hide (bt BX.out by_); have py := PY.out; obtain ⟨c0, c1, c2, c3, c4, c5, c6, c7, c8⟩ := py; have ry := RY.out; obtain ⟨⟨hr0, hy0⟩, ⟨hr1, hy1⟩, ⟨hr2, hy2⟩⟩ := ry; have TY := hide (ty (by trivial)); clear ty; obtain ⟨gy, rfl⟩ := TY.out.ptr))
  have EN := hide (And.intro (S3.fill RY.out (.pointer (some gx)) (.pointer (some gy)) (.int .i64 bd)) (And.intro (below_fill3 BY.out (Nat.le_add_right _ 1) (.pointer (some gx)) (.pointer (some gy)) (.int .i64 bd)) (And.intro (Tab.fill3 (TX.out.below by_) RY.out (fun _ q => by cases q) (.pointer (some gx)) (.pointer (some gy)) (.int .i64 bd)) (Tab.fill3 TY.out RY.out (fun _ q => by cases q) (.pointer (some gx)) (.pointer (some gy)) (.int .i64 bd)))))
  generalize (((wy).setCell ⟨w.heap.size + 1, 0, none⟩ (.pointer (some gx))).setCell ⟨w.heap.size + 1, 1, none⟩ (.pointer (some gy))).setCell ⟨w.heap.size + 1, 2, none⟩ (.int .i64 bd) = WE at EN ⊢
  obtain ⟨⟨er0, ey0⟩, ⟨er1, ey1⟩, ⟨er2, ey2⟩⟩ := EN.out.1
  exact bodyPost_ret (v := .tuple #[.agg #[.pointer (some gx), .pointer (some gy), .int .i64 bd], .int .i64 0]) (by simp [results, Tryz.results70, go_sem, er0, er1, er2]) rfl ⟨HS.out _ _ _ _ rfl EN.out.2.2.1 EN.out.2.2.2, EN.out.2.1⟩
end Go.Proofs.YtaafhjngnjjcmaaGreatDoor
