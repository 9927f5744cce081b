/- Parts, joined. -/
import Derived.Test.YtaafhjngnjjcmaaGreatDoorJ26
/- Operations: the document's Make: what may be. -/
namespace Go.Proofs.YtaafhjngnjjcmaaGreatDoor
open Go.RowKit


/-- What the document's Make answers. -/
def MakeRef (B : Nat) (e : Ending) (w' : World) (k : Int) (S : Stg) : Prop :=
  (k ≠ 0 ∧ e = .returned (.tuple #[s0V, .int .i64 k])) ∨ (k = 0 ∧ ∃ x y, e = .returned (.tuple #[.agg #[x, y, .int .i64 S.fx, .int .i64 S.fy, .int .i64 S.sb], .int .i64 0]) ∧ OwnLs 100 w' B x S.lx ∧ OwnLs 100 w' B y S.ly)
theorem own_ls_set {T : TypeId} {w : World} {base : Nat} {v : Value} {L : List (Int × List Int)} (h : OwnLs T w base v L) {b : Nat} (o : Nat) (u : Value) (hb : b < base) : OwnLs T (w.setCell ⟨b, o, none⟩ u) base v L := by
  obtain ⟨us, h1, h2, h3⟩ := h
  refine ⟨us, h1, ⟨h2.1, ?_⟩, fun j hj => own_set (h3 j hj) o u hb⟩
  rcases h2.2 with h2 | ⟨g', cap', cur, hv, hB, hg, r⟩
  · exact .inl h2
  · refine .inr ⟨g', cap', cur, hv, hB, ?_, r⟩
    rw [heap_setCell_other w ⟨b, o, none⟩ g' u (by show g' ≠ b; omega)]
    exact hg
theorem OwnLs.mono {T : TypeId} {w : World} {base base' : Nat} {v : Value} {L : List (Int × List Int)} (h : OwnLs T w base v L) (hb : base' ≤ base) : OwnLs T w base' v L := by
  obtain ⟨us, h1, h2, h3⟩ := h
  exact ⟨us, h1, own_mono h2 hb, fun j hj => (h3 j hj).mono hb⟩
theorem S5.other {w : World} {R b o : Nat} {u v0 v1 v2 v3 v4 : Value} (h : S5 w R v0 v1 v2 v3 v4) (ne : R ≠ b) : S5 (w.setCell ⟨b, o, none⟩ u) R v0 v1 v2 v3 v4 :=
  h.grown (grown_set w b o u) (fun e => ne (Option.some.inj e))
theorem own_ls_fill {T : TypeId} {w : World} {base : Nat} {v : Value} {L : List (Int × List Int)} (h : OwnLs T w base v L) {R : Nat} (v0 v1 v2 v3 v4 : Value) (hb : R < base) : OwnLs T (((((w.setCell ⟨R, 0, none⟩ v0).setCell ⟨R, 1, none⟩ v1).setCell ⟨R, 2, none⟩ v2).setCell ⟨R, 3, none⟩ v3).setCell ⟨R, 4, none⟩ v4) base v L :=
  own_ls_set (own_ls_set (own_ls_set (own_ls_set (own_ls_set h 0 v0 hb) 1 v1 hb) 2 v2 hb) 3 v3 hb) 4 v4 hb
/-- A write to a cell that holds no number leaves a row alone. -/
theorem row_put_other {k : IntKind} {w : World} {ad : Option Addr} {xs : List Int} {p : Addr} {u v : Value} (h : RowAt k w ad xs) (hp : w.cell? p = some v) (hv : ∀ x, v ≠ .int k x) : RowAt k (w.setCell p u) ad xs := by
  rcases h with h | ⟨b, off, rfl, h⟩
  · exact .inl h
  · refine .inr ⟨b, off, rfl, fun j hj => ?_⟩
    rw [World.cell?_setCell_other _ _ _ _ (fun e => ?_)]
    · exact h j hj
    · have c := h j hj
      rw [← e, hp] at c
      exact hv _ (Option.some.inj c)
set_option maxHeartbeats 4000000 in
set_option maxRecDepth 100000 in
theorem dmake_three (o : Opr) (ax : Option Addr) (cx : Nat) (ay : Option Addr) (cy : Nat) (a b : Int) (w : World) (h : okO o a b = true) (k3 : o.kd = 3) :
    Calls Tryz.prog 75 #[opV o ax cx ay cy, .int .i64 a, .int .i64 b] w fun e w' => MakeRef w.heap.size e w' (opCode o a b) (stgOf o a b) ∧ Below w.heap.size w w' := by
  obtain ⟨⟨k0, k1⟩, ⟨b0, b1⟩, ⟨a0, a1⟩, ⟨h0, h1⟩, hr⟩ := (okO_iff o a b).1 h
  have S1 := dside12_yes a a0 a1
  have S2 := dside12_yes b h0 h1
  obtain ⟨⟨w0, w1⟩, ⟨t0, t1⟩, f0, f1⟩ := hr k3
  have S3 := dside12_yes o.wd w0 w1
  have S4 := dside12_yes o.ht t0 t1
  have CX := fun w => refresize_any o.fl a o.wd w
  have CY := fun w => refresize_any o.fl b o.ht w
  have hcode : opCode o a b = if resCode o.fl a o.wd ≠ 0 then resCode o.fl a o.wd else resCode o.fl b o.ht := by
    unfold opCode xCode yCode
    rw [h, if_neg (by decide), if_neg (by omega), if_pos k3, if_pos k3]
  have hX : (stgOf o a b).lx = linesTo o.fl a o.wd o.wd.toNat := if_pos k3
  have hY : (stgOf o a b).ly = linesTo o.fl b o.ht o.ht.toNat := if_pos k3
  have hlx := linesTo_len o.fl a o.wd o.wd.toNat
  have hly := linesTo_len o.fl b o.ht o.ht.toNat
  rw [hcode]
  have HS := hide (fun (e : Ending) (w' : World) (x y : Value) (he : e = .returned (.tuple #[.agg #[x, y, .int .i64 a, .int .i64 b, .int .i64 o.bd], .int .i64 0])) (hx : OwnLs 100 w' w.heap.size x (linesTo o.fl a o.wd o.wd.toNat)) (hy : OwnLs 100 w' w.heap.size y (linesTo o.fl b o.ht o.ht.toNat)) => show MakeRef w.heap.size e w' 0 (stgOf o a b) from .inr ⟨rfl, x, y, he, by rw [hX]; exact hx, by rw [hY]; exact hy⟩)
  have HZ := hide (fun (w' : World) (k : Int) (hk : k ≠ 0) => show MakeRef w.heap.size (.returned (.tuple #[.agg #[.slice none 0 0, .slice none 0 0, .int .i64 0, .int .i64 0, .int .i64 0], .int .i64 k])) w' k (stgOf o a b) from .inl ⟨hk, rfl⟩)
  unfold opV
  clear hX hY hcode h
  clear hr
  generalize linesTo o.fl a o.wd o.wd.toNat = LX at *
  generalize linesTo o.fl b o.ht o.ht.toNat = LY at *
  generalize resCode o.fl a o.wd = kx at *
  generalize resCode o.fl b o.ht = ky at *
  generalize stgOf o a b = ST at *
  obtain ⟨kd, bd, sg, rd, xs, ys, fl, wd, ht⟩ := o
  simp only at *
  subst k3
  generalize xs.length = nx at *
  generalize ys.length = ny at *
  have NX : LX ≠ [] := fun e => by rw [e] at hlx; simp at hlx; omega
  have NY : LY ≠ [] := fun e => by rw [e] at hly; simp at hly; omega
  obtain ⟨n1, hn1⟩ : ∃ n, LX.length = n := ⟨_, rfl⟩
  obtain ⟨n2, hn2⟩ : ∃ n, LY.length = n := ⟨_, rfl⟩
  replace NX : ∀ {w : World} {base : Nat} {v : Value}, OwnLs 100 w base v LX → ∃ g cap, v = .slice (some ⟨g, 0, none⟩) n1 cap ∧ g < w.heap.size ∧ LinesAt w g LX := fun h => by rw [← hn1]; exact h.read NX
  replace NY : ∀ {w : World} {base : Nat} {v : Value}, OwnLs 100 w base v LY → ∃ g cap, v = .slice (some ⟨g, 0, none⟩) n2 cap ∧ g < w.heap.size ∧ LinesAt w g LY := fun h => by rw [← hn2]; exact h.read NY
  clear k0 k1 hlx hly w0 w1 t0 t1 h0 h1 a0 a1 hn1 hn2
  have HR3 := hide (show S5 (((w.alloc (.cells #[.int .i64 3, .int .i64 bd, .int .i64 sg, .int .i64 rd, .slice ax nx cx, .slice ay ny cy, .int .i64 fl, .int .i64 wd, .int .i64 ht] 119)).alloc (.cells #[.slice none 0 0, .slice none 0 0, .int .i64 0, .int .i64 0, .int .i64 0] 57)).alloc (.cells #[.slice none 0 0, .slice none 0 0, .int .i64 a, .int .i64 b, .int .i64 bd] 57)) (w.heap.size + 1) (.slice none 0 0) (.slice none 0 0) (.int .i64 0) (.int .i64 0) (.int .i64 0) from by simpa using (S5.new (w.alloc (.cells #[.int .i64 3, .int .i64 bd, .int .i64 sg, .int .i64 rd, .slice ax nx cx, .slice ay ny cy, .int .i64 fl, .int .i64 wd, .int .i64 ht] 119)) 57 (.slice none 0 0) (.slice none 0 0) (.int .i64 0) (.int .i64 0) (.int .i64 0)).below (below1 ((w.alloc (.cells #[.int .i64 3, .int .i64 bd, .int .i64 sg, .int .i64 rd, .slice ax nx cx, .slice ay ny cy, .int .i64 fl, .int .i64 wd, .int .i64 ht] 119)).alloc (.cells #[.slice none 0 0, .slice none 0 0, .int .i64 0, .int .i64 0, .int .i64 0] 57)) (.cells #[.slice none 0 0, .slice none 0 0, .int .i64 a, .int .i64 b, .int .i64 bd] 57)))
  have HS3 := hide (show S5 (((w.alloc (.cells #[.int .i64 3, .int .i64 bd, .int .i64 sg, .int .i64 rd, .slice ax nx cx, .slice ay ny cy, .int .i64 fl, .int .i64 wd, .int .i64 ht] 119)).alloc (.cells #[.slice none 0 0, .slice none 0 0, .int .i64 0, .int .i64 0, .int .i64 0] 57)).alloc (.cells #[.slice none 0 0, .slice none 0 0, .int .i64 a, .int .i64 b, .int .i64 bd] 57)) (w.heap.size + 2) (.slice none 0 0) (.slice none 0 0) (.int .i64 a) (.int .i64 b) (.int .i64 bd) from by simpa using S5.new ((w.alloc (.cells #[.int .i64 3, .int .i64 bd, .int .i64 sg, .int .i64 rd, .slice ax nx cx, .slice ay ny cy, .int .i64 fl, .int .i64 wd, .int .i64 ht] 119)).alloc (.cells #[.slice none 0 0, .slice none 0 0, .int .i64 0, .int .i64 0, .int .i64 0] 57)) 57 (.slice none 0 0) (.slice none 0 0) (.int .i64 a) (.int .i64 b) (.int .i64 bd))
  have HB3 := hide (show Below w.heap.size w (((w.alloc (.cells #[.int .i64 3, .int .i64 bd, .int .i64 sg, .int .i64 rd, .slice ax nx cx, .slice ay ny cy, .int .i64 fl, .int .i64 wd, .int .i64 ht] 119)).alloc (.cells #[.slice none 0 0, .slice none 0 0, .int .i64 0, .int .i64 0, .int .i64 0] 57)).alloc (.cells #[.slice none 0 0, .slice none 0 0, .int .i64 a, .int .i64 b, .int .i64 bd] 57)) from ba (ba (below1 _ _) _) _)
  by_cases zx : kx = 0
  case neg =>
    rw [if_pos zx]
    have qz : (kx != 0) = true := bne_iff_ne.2 zx
    go_enter Tryz.func75, Tryz.ntmps75
    go_wp2_with (first
      | (go_at_call 105; (with_reducible refine (S1 _).mono ?_); rintro e wz ⟨rfl, rfl⟩)
      | (go_at_call 105; (with_reducible refine (S2 _).mono ?_); rintro e wz ⟨rfl, rfl⟩)
      | (go_at_call 105; (with_reducible refine (S3 _).mono ?_); rintro e wz ⟨rfl, rfl⟩)
      | (go_at_call 105; (with_reducible refine (S4 _).mono ?_); rintro e wz ⟨rfl, rfl⟩)
      | (go_at_call 106; (with_reducible refine (CX _).mono ?_); rintro e wx ⟨x, rfl, ox, zv, bx⟩; have RA := hide ((HR3.out).below bx); have SA := hide ((HS3.out).below bx); have BA := hide (bt (HB3.out) bx); have s1 := bx.size; obtain rfl := zv zx; have ra := RA.out; obtain ⟨⟨ar0, ay0⟩, ⟨ar1, ay1⟩, ⟨ar2, ay2⟩, ⟨ar3, ay3⟩, ⟨ar4, ay4⟩⟩ := ra; have sa := SA.out; obtain ⟨⟨br0, by0⟩, ⟨br1, by1⟩, ⟨br2, by2⟩, ⟨br3, by3⟩, ⟨br4, by4⟩⟩ := sa; have p6 := cb bx (b := w.heap.size) (o := 6) (v := .int .i64 fl) (by simp; omega) (by simp [go_sem]); have p8 := cb bx (b := w.heap.size) (o := 8) (v := .int .i64 ht) (by simp; omega) (by simp [go_sem])))
    have EN := hide (And.intro (S5.fill (R := w.heap.size + 1) ((RA.out).other (b := w.heap.size + 2) (o := 0) (u := .slice none 0 0) (by omega)) (.slice none 0 0) (.slice none 0 0) (.int .i64 0) (.int .i64 0) (.int .i64 0)) (below_fill (R := w.heap.size + 1) (bs (BA.out) (b := w.heap.size + 2) (Nat.le_add_right _ 2) (o := 0) (.slice none 0 0)) (Nat.le_add_right _ 1) (.slice none 0 0) (.slice none 0 0) (.int .i64 0) (.int .i64 0) (.int .i64 0)))
    generalize ((((((wx.setCell ⟨w.heap.size + 2, 0, none⟩ (.slice none 0 0))).setCell ⟨w.heap.size + 1, 0, none⟩ (.slice none 0 0)).setCell ⟨w.heap.size + 1, 1, none⟩ (.slice none 0 0)).setCell ⟨w.heap.size + 1, 2, none⟩ (.int .i64 0)).setCell ⟨w.heap.size + 1, 3, none⟩ (.int .i64 0)).setCell ⟨w.heap.size + 1, 4, none⟩ (.int .i64 0) = WE at EN ⊢
    obtain ⟨⟨er0, ey0⟩, ⟨er1, ey1⟩, ⟨er2, ey2⟩, ⟨er3, ey3⟩, ⟨er4, ey4⟩⟩ := EN.out.1
    exact bodyPost_ret (v := .tuple #[.agg #[.slice none 0 0, .slice none 0 0, .int .i64 0, .int .i64 0, .int .i64 0], .int .i64 kx]) (by simp [results, Tryz.results75, go_sem, er0, er1, er2, er3, er4]) rfl ⟨HZ.out _ _ zx, EN.out.2⟩
  subst zx
  rw [if_neg (by decide)]
  by_cases zy : ky = 0
  case neg =>
    have qz : (ky != 0) = true := bne_iff_ne.2 zy
    go_enter Tryz.func75, Tryz.ntmps75
    go_wp2_with (first
      | (go_at_call 105; (with_reducible refine (S1 _).mono ?_); rintro e wz ⟨rfl, rfl⟩)
      | (go_at_call 105; (with_reducible refine (S2 _).mono ?_); rintro e wz ⟨rfl, rfl⟩)
      | (go_at_call 105; (with_reducible refine (S3 _).mono ?_); rintro e wz ⟨rfl, rfl⟩)
      | (go_at_call 105; (with_reducible refine (S4 _).mono ?_); rintro e wz ⟨rfl, rfl⟩)
      | (go_at_call 106; (with_reducible refine (CX _).mono ?_); rintro e wx ⟨x, rfl, ox, zv, bx⟩; have RA := hide ((HR3.out).below bx); have SA := hide ((HS3.out).below bx); have BA := hide (bt (HB3.out) bx); have s1 := bx.size; obtain ⟨gx, px, rfl, _, _⟩ := NX (ox (by trivial)); have OX := hide (OwnLs.mono (ox (by trivial)) (base' := w.heap.size + 3) (by simp)); have ra := RA.out; obtain ⟨⟨ar0, ay0⟩, ⟨ar1, ay1⟩, ⟨ar2, ay2⟩, ⟨ar3, ay3⟩, ⟨ar4, ay4⟩⟩ := ra; have sa := SA.out; obtain ⟨⟨br0, by0⟩, ⟨br1, by1⟩, ⟨br2, by2⟩, ⟨br3, by3⟩, ⟨br4, by4⟩⟩ := sa; have p6 := cb bx (b := w.heap.size) (o := 6) (v := .int .i64 fl) (by simp; omega) (by simp [go_sem]); have p8 := cb bx (b := w.heap.size) (o := 8) (v := .int .i64 ht) (by simp; omega) (by simp [go_sem]); clear ox)
      | (go_at_call 106; (with_reducible refine (CY _).mono ?_); rintro e wy ⟨y, rfl, oy, zv2, by_⟩; have RB := hide (((RA.out).other (b := w.heap.size + 2) (o := 0) (u := .slice (some ⟨gx, 0, none⟩) n1 px) (by omega)).below by_); have SB := hide ((SA.out.set0 (.slice (some ⟨gx, 0, none⟩) n1 px)).below by_); have BB := hide (bt (bs (BA.out) (b := w.heap.size + 2) (Nat.le_add_right _ 2) (o := 0) (.slice (some ⟨gx, 0, none⟩) n1 px)) by_); have s2 := by_.size; obtain rfl := zv2 zy; have rb := RB.out; obtain ⟨⟨cr0, cy0⟩, ⟨cr1, cy1⟩, ⟨cr2, cy2⟩, ⟨cr3, cy3⟩, ⟨cr4, cy4⟩⟩ := rb; have sb := SB.out; obtain ⟨⟨dr0, dy0⟩, ⟨dr1, dy1⟩, ⟨dr2, dy2⟩, ⟨dr3, dy3⟩, ⟨dr4, dy4⟩⟩ := sb))
    have EN := hide (And.intro (S5.fill (R := w.heap.size + 1) ((RB.out).other (b := w.heap.size + 2) (o := 1) (u := .slice none 0 0) (by omega)) (.slice none 0 0) (.slice none 0 0) (.int .i64 0) (.int .i64 0) (.int .i64 0)) (below_fill (R := w.heap.size + 1) (bs (BB.out) (b := w.heap.size + 2) (Nat.le_add_right _ 2) (o := 1) (.slice none 0 0)) (Nat.le_add_right _ 1) (.slice none 0 0) (.slice none 0 0) (.int .i64 0) (.int .i64 0) (.int .i64 0)))
    generalize ((((((wy.setCell ⟨w.heap.size + 2, 1, none⟩ (.slice none 0 0))).setCell ⟨w.heap.size + 1, 0, none⟩ (.slice none 0 0)).setCell ⟨w.heap.size + 1, 1, none⟩ (.slice none 0 0)).setCell ⟨w.heap.size + 1, 2, none⟩ (.int .i64 0)).setCell ⟨w.heap.size + 1, 3, none⟩ (.int .i64 0)).setCell ⟨w.heap.size + 1, 4, none⟩ (.int .i64 0) = WE at EN ⊢
    obtain ⟨⟨er0, ey0⟩, ⟨er1, ey1⟩, ⟨er2, ey2⟩, ⟨er3, ey3⟩, ⟨er4, ey4⟩⟩ := EN.out.1
    exact bodyPost_ret (v := .tuple #[.agg #[.slice none 0 0, .slice none 0 0, .int .i64 0, .int .i64 0, .int .i64 0], .int .i64 ky]) (by simp [results, Tryz.results75, go_sem, er0, er1, er2, er3, er4]) rfl ⟨HZ.out _ _ zy, EN.out.2⟩
  subst zy
  go_enter Tryz.func75, Tryz.ntmps75
  go_wp2_with (first
    | (go_at_call 105; (with_reducible refine (S1 _).mono ?_); rintro e wz ⟨rfl, rfl⟩)
    | (go_at_call 105; (with_reducible refine (S2 _).mono ?_); rintro e wz ⟨rfl, rfl⟩)
    | (go_at_call 105; (with_reducible refine (S3 _).mono ?_); rintro e wz ⟨rfl, rfl⟩)
    | (go_at_call 105; (with_reducible refine (S4 _).mono ?_); rintro e wz ⟨rfl, rfl⟩)
    | (go_at_call 106; (with_reducible refine (CX _).mono ?_); rintro e wx ⟨x, rfl, ox, zv, bx⟩; have RA := hide ((HR3.out).below bx); have SA := hide ((HS3.out).below bx); have BA := hide (bt (HB3.out) bx); have s1 := bx.size; obtain ⟨gx, px, rfl, _, _⟩ := NX (ox (by trivial)); have OX := hide (OwnLs.mono (ox (by trivial)) (base' := w.heap.size + 3) (by simp)); have ra := RA.out; obtain ⟨⟨ar0, ay0⟩, ⟨ar1, ay1⟩, ⟨ar2, ay2⟩, ⟨ar3, ay3⟩, ⟨ar4, ay4⟩⟩ := ra; have sa := SA.out; obtain ⟨⟨br0, by0⟩, ⟨br1, by1⟩, ⟨br2, by2⟩, ⟨br3, by3⟩, ⟨br4, by4⟩⟩ := sa; have p6 := cb bx (b := w.heap.size) (o := 6) (v := .int .i64 fl) (by simp; omega) (by simp [go_sem]); have p8 := cb bx (b := w.heap.size) (o := 8) (v := .int .i64 ht) (by simp; omega) (by simp [go_sem]); clear ox)
    | (go_at_call 106; (with_reducible refine (CY _).mono ?_); rintro e wy ⟨y, rfl, oy, zv2, by_⟩; have RB := hide (((RA.out).other (b := w.heap.size + 2) (o := 0) (u := .slice (some ⟨gx, 0, none⟩) n1 px) (by omega)).below by_); have SB := hide ((SA.out.set0 (.slice (some ⟨gx, 0, none⟩) n1 px)).below by_); have BB := hide (bt (bs (BA.out) (b := w.heap.size + 2) (Nat.le_add_right _ 2) (o := 0) (.slice (some ⟨gx, 0, none⟩) n1 px)) by_); have s2 := by_.size; obtain ⟨gy, py, rfl, _, _⟩ := NY (oy (by trivial)); have OY := hide (OwnLs.mono (oy (by trivial)) (base' := w.heap.size + 3) (by simp at s1 ⊢; omega)); have OX2 := hide ((own_ls_set OX.out 0 (.slice (some ⟨gx, 0, none⟩) n1 px) (b := w.heap.size + 2) (by omega)).below by_); have rb := RB.out; obtain ⟨⟨cr0, cy0⟩, ⟨cr1, cy1⟩, ⟨cr2, cy2⟩, ⟨cr3, cy3⟩, ⟨cr4, cy4⟩⟩ := rb; have sb := SB.out; obtain ⟨⟨dr0, dy0⟩, ⟨dr1, dy1⟩, ⟨dr2, dy2⟩, ⟨dr3, dy3⟩, ⟨dr4, dy4⟩⟩ := sb; clear oy))
  have EN := hide (And.intro (S5.fill (R := w.heap.size + 1) ((RB.out).other (b := w.heap.size + 2) (o := 1) (u := .slice (some ⟨gy, 0, none⟩) n2 py) (by omega)) (.slice (some ⟨gx, 0, none⟩) n1 px) (.slice (some ⟨gy, 0, none⟩) n2 py) (.int .i64 a) (.int .i64 b) (.int .i64 bd)) (And.intro (below_fill (R := w.heap.size + 1) (bs (BB.out) (b := w.heap.size + 2) (Nat.le_add_right _ 2) (o := 1) (.slice (some ⟨gy, 0, none⟩) n2 py)) (Nat.le_add_right _ 1) (.slice (some ⟨gx, 0, none⟩) n1 px) (.slice (some ⟨gy, 0, none⟩) n2 py) (.int .i64 a) (.int .i64 b) (.int .i64 bd)) (And.intro (own_ls_fill (R := w.heap.size + 1) (own_ls_set OX2.out 1 (.slice (some ⟨gy, 0, none⟩) n2 py) (b := w.heap.size + 2) (by omega)) (.slice (some ⟨gx, 0, none⟩) n1 px) (.slice (some ⟨gy, 0, none⟩) n2 py) (.int .i64 a) (.int .i64 b) (.int .i64 bd) (by omega)) (own_ls_fill (R := w.heap.size + 1) (own_ls_set OY.out 1 (.slice (some ⟨gy, 0, none⟩) n2 py) (b := w.heap.size + 2) (by omega)) (.slice (some ⟨gx, 0, none⟩) n1 px) (.slice (some ⟨gy, 0, none⟩) n2 py) (.int .i64 a) (.int .i64 b) (.int .i64 bd) (by omega)))))
  generalize ((((((wy.setCell ⟨w.heap.size + 2, 1, none⟩ (.slice (some ⟨gy, 0, none⟩) n2 py))).setCell ⟨w.heap.size + 1, 0, none⟩ (.slice (some ⟨gx, 0, none⟩) n1 px)).setCell ⟨w.heap.size + 1, 1, none⟩ (.slice (some ⟨gy, 0, none⟩) n2 py)).setCell ⟨w.heap.size + 1, 2, none⟩ (.int .i64 a)).setCell ⟨w.heap.size + 1, 3, none⟩ (.int .i64 b)).setCell ⟨w.heap.size + 1, 4, none⟩ (.int .i64 bd) = WE at EN ⊢
  obtain ⟨⟨er0, ey0⟩, ⟨er1, ey1⟩, ⟨er2, ey2⟩, ⟨er3, ey3⟩, ⟨er4, ey4⟩⟩ := EN.out.1
  exact bodyPost_ret (v := .tuple #[.agg #[.slice (some ⟨gx, 0, none⟩) n1 px, .slice (some ⟨gy, 0, none⟩) n2 py, .int .i64 a, .int .i64 b, .int .i64 bd], .int .i64 0]) (by simp [results, Tryz.results75, go_sem, er0, er1, er2, er3, er4]) rfl ⟨HS.out _ _ _ _ rfl (EN.out.2.2.1.mono (by omega)) (EN.out.2.2.2.mono (by omega)), EN.out.2.1⟩
set_option maxHeartbeats 4000000 in
set_option maxRecDepth 100000 in
theorem dmake_none (o : Opr) (ax : Option Addr) (cx : Nat) (ay : Option Addr) (cy : Nat) (a b : Int) (w : World) (h : okO o a b = true) (k3 : o.kd = 0) :
    Calls Tryz.prog 75 #[opV o ax cx ay cy, .int .i64 a, .int .i64 b] w fun e w' => MakeRef w.heap.size e w' (opCode o a b) (stgOf o a b) ∧ Below w.heap.size w w' := by
  obtain ⟨⟨k0, k1⟩, ⟨b0, b1⟩, ⟨a0, a1⟩, ⟨h0, h1⟩, hr⟩ := (okO_iff o a b).1 h
  have S1 := dside12_yes a a0 a1
  have S2 := dside12_yes b h0 h1
  have CW := fun w => refgaussian_any o.sg w
  have hW : wCode o = gauCode o.sg := if_pos k3
  have hxo : wX o = gauOut o.sg := if_pos k3
  have hyo : wY o = gauOut o.sg := if_pos k3
  have hcode : opCode o a b = if gauCode o.sg ≠ 0 then gauCode o.sg else if filCode (gauOut o.sg) a ≠ 0 then filCode (gauOut o.sg) a else filCode (gauOut o.sg) b := by
    unfold opCode xCode yCode
    rw [h, if_neg (by decide), hW, hxo, hyo, if_neg (show ¬ o.kd = 3 by omega), if_neg (show ¬ o.kd = 3 by omega)]
    by_cases g : gauCode o.sg = 0
    · rw [if_neg (fun q => q.2 g), if_neg (show ¬ (gauCode o.sg ≠ 0) from fun q => q g)]
    · rw [if_pos ⟨by omega, g⟩, if_pos g]
  have hX : (stgOf o a b).lx = filTo (gauOut o.sg) a.toNat := by show xLines o a = _; unfold xLines; rw [if_neg (by omega), hxo]
  have hY : (stgOf o a b).ly = filTo (gauOut o.sg) b.toNat := by show yLines o b = _; unfold yLines; rw [if_neg (by omega), hyo]
  have hlx := filTo_len (gauOut o.sg) a.toNat
  have hly := filTo_len (gauOut o.sg) b.toNat
  have hlen := fun e : gauCode o.sg = 0 => (gauOut_len e).2
  have h64 : All64 (gauOut o.sg) := gauOut_64 _
  have CX := fun (ad : Option Addr) (cap : Nat) (hl : (gauOut o.sg).length ≤ 1048576) (w : World) (hr : RowAt .i64 w ad (gauOut o.sg)) => reffilter_any (gauOut o.sg) ad cap a w hr h64 (by omega)
  have CY := fun (ad : Option Addr) (cap : Nat) (hl : (gauOut o.sg).length ≤ 1048576) (w : World) (hr : RowAt .i64 w ad (gauOut o.sg)) => reffilter_any (gauOut o.sg) ad cap b w hr h64 (by omega)
  rw [hcode]
  have HS := hide (fun (e : Ending) (w' : World) (x y : Value) (he : e = .returned (.tuple #[.agg #[x, y, .int .i64 a, .int .i64 b, .int .i64 o.bd], .int .i64 0])) (hx : OwnLs 100 w' w.heap.size x (filTo (gauOut o.sg) a.toNat)) (hy : OwnLs 100 w' w.heap.size y (filTo (gauOut o.sg) b.toNat)) => show MakeRef w.heap.size e w' 0 (stgOf o a b) from .inr ⟨rfl, x, y, he, by rw [hX]; exact hx, by rw [hY]; exact hy⟩)
  have HZ := hide (fun (w' : World) (k : Int) (hk : k ≠ 0) => show MakeRef w.heap.size (.returned (.tuple #[.agg #[.slice none 0 0, .slice none 0 0, .int .i64 0, .int .i64 0, .int .i64 0], .int .i64 k])) w' k (stgOf o a b) from .inl ⟨hk, rfl⟩)
  unfold opV
  clear hX hY hcode h
  clear hr hW hxo hyo h64
  generalize filTo (gauOut o.sg) a.toNat = LX at *
  generalize filTo (gauOut o.sg) b.toNat = LY at *
  generalize filCode (gauOut o.sg) a = kx at *
  generalize filCode (gauOut o.sg) b = ky at *
  generalize gauOut o.sg = WL at *
  generalize gauCode o.sg = kw at *
  generalize stgOf o a b = ST at *
  obtain ⟨kd, bd, sg, rd, xs, ys, fl, wd, ht⟩ := o
  simp only at *
  subst k3
  generalize xs.length = nx at *
  generalize ys.length = ny at *
  obtain ⟨nw, hnw⟩ : ∃ n, WL.length = n := ⟨_, rfl⟩
  rw [hnw] at hlen CX CY
  have NX : LX ≠ [] := fun e => by rw [e] at hlx; simp at hlx; omega
  have NY : LY ≠ [] := fun e => by rw [e] at hly; simp at hly; omega
  obtain ⟨n1, hn1⟩ : ∃ n, LX.length = n := ⟨_, rfl⟩
  obtain ⟨n2, hn2⟩ : ∃ n, LY.length = n := ⟨_, rfl⟩
  replace NX : ∀ {w : World} {base : Nat} {v : Value}, OwnLs 100 w base v LX → ∃ g cap, v = .slice (some ⟨g, 0, none⟩) n1 cap ∧ g < w.heap.size ∧ LinesAt w g LX := fun h => by rw [← hn1]; exact h.read NX
  replace NY : ∀ {w : World} {base : Nat} {v : Value}, OwnLs 100 w base v LY → ∃ g cap, v = .slice (some ⟨g, 0, none⟩) n2 cap ∧ g < w.heap.size ∧ LinesAt w g LY := fun h => by rw [← hn2]; exact h.read NY
  clear k0 k1 hlx hly h0 h1 a0 a1 hn1 hn2
  have HR3 := hide (show S5 (((w.alloc (.cells #[.int .i64 0, .int .i64 bd, .int .i64 sg, .int .i64 rd, .slice ax nx cx, .slice ay ny cy, .int .i64 fl, .int .i64 wd, .int .i64 ht] 119)).alloc (.cells #[.slice none 0 0, .slice none 0 0, .int .i64 0, .int .i64 0, .int .i64 0] 57)).alloc (.cells #[.slice none 0 0, .slice none 0 0, .int .i64 a, .int .i64 b, .int .i64 bd] 57)) (w.heap.size + 1) (.slice none 0 0) (.slice none 0 0) (.int .i64 0) (.int .i64 0) (.int .i64 0) from by simpa using (S5.new (w.alloc (.cells #[.int .i64 0, .int .i64 bd, .int .i64 sg, .int .i64 rd, .slice ax nx cx, .slice ay ny cy, .int .i64 fl, .int .i64 wd, .int .i64 ht] 119)) 57 (.slice none 0 0) (.slice none 0 0) (.int .i64 0) (.int .i64 0) (.int .i64 0)).below (below1 ((w.alloc (.cells #[.int .i64 0, .int .i64 bd, .int .i64 sg, .int .i64 rd, .slice ax nx cx, .slice ay ny cy, .int .i64 fl, .int .i64 wd, .int .i64 ht] 119)).alloc (.cells #[.slice none 0 0, .slice none 0 0, .int .i64 0, .int .i64 0, .int .i64 0] 57)) (.cells #[.slice none 0 0, .slice none 0 0, .int .i64 a, .int .i64 b, .int .i64 bd] 57)))
  have HS3 := hide (show S5 (((w.alloc (.cells #[.int .i64 0, .int .i64 bd, .int .i64 sg, .int .i64 rd, .slice ax nx cx, .slice ay ny cy, .int .i64 fl, .int .i64 wd, .int .i64 ht] 119)).alloc (.cells #[.slice none 0 0, .slice none 0 0, .int .i64 0, .int .i64 0, .int .i64 0] 57)).alloc (.cells #[.slice none 0 0, .slice none 0 0, .int .i64 a, .int .i64 b, .int .i64 bd] 57)) (w.heap.size + 2) (.slice none 0 0) (.slice none 0 0) (.int .i64 a) (.int .i64 b) (.int .i64 bd) from by simpa using S5.new ((w.alloc (.cells #[.int .i64 0, .int .i64 bd, .int .i64 sg, .int .i64 rd, .slice ax nx cx, .slice ay ny cy, .int .i64 fl, .int .i64 wd, .int .i64 ht] 119)).alloc (.cells #[.slice none 0 0, .slice none 0 0, .int .i64 0, .int .i64 0, .int .i64 0] 57)) 57 (.slice none 0 0) (.slice none 0 0) (.int .i64 a) (.int .i64 b) (.int .i64 bd))
  have HB3 := hide (show Below w.heap.size w (((w.alloc (.cells #[.int .i64 0, .int .i64 bd, .int .i64 sg, .int .i64 rd, .slice ax nx cx, .slice ay ny cy, .int .i64 fl, .int .i64 wd, .int .i64 ht] 119)).alloc (.cells #[.slice none 0 0, .slice none 0 0, .int .i64 0, .int .i64 0, .int .i64 0] 57)).alloc (.cells #[.slice none 0 0, .slice none 0 0, .int .i64 a, .int .i64 b, .int .i64 bd] 57)) from ba (ba (below1 _ _) _) _)
  by_cases zw : kw = 0
  case neg =>
    rw [if_pos zw]
    have qz : (kw != 0) = true := bne_iff_ne.2 zw
    go_enter Tryz.func75, Tryz.ntmps75
    go_wp2_with (first
      | (go_at_call 105; (with_reducible refine (S1 _).mono ?_); rintro e wz ⟨rfl, rfl⟩)
      | (go_at_call 105; (with_reducible refine (S2 _).mono ?_); rintro e wz ⟨rfl, rfl⟩)
      | (go_at_call 107; (with_reducible refine (CW _).mono ?_); rintro e wv ⟨v, rfl, hv, bv⟩; obtain ⟨av, cv, rfl, hrv⟩ := hv.formn hnw; have HRV := hide hrv; clear hv hrv; have RV := hide (HR3.out.below bv); have SVV := hide (HS3.out.below bv); have BV := hide (bt HB3.out bv); have s0 := bv.size; have rv := RV.out; obtain ⟨⟨fr0, fy0⟩, ⟨fr1, fy1⟩, ⟨fr2, fy2⟩, ⟨fr3, fy3⟩, ⟨fr4, fy4⟩⟩ := rv; have sv := SVV.out; obtain ⟨⟨gr0, gy0⟩, ⟨gr1, gy1⟩, ⟨gr2, gy2⟩, ⟨gr3, gy3⟩, ⟨gr4, gy4⟩⟩ := sv))
    have EN := hide (And.intro (S5.fill (R := w.heap.size + 1) (RV.out) (.slice none 0 0) (.slice none 0 0) (.int .i64 0) (.int .i64 0) (.int .i64 0)) (below_fill (R := w.heap.size + 1) (BV.out) (Nat.le_add_right _ 1) (.slice none 0 0) (.slice none 0 0) (.int .i64 0) (.int .i64 0) (.int .i64 0)))
    generalize (((((wv).setCell ⟨w.heap.size + 1, 0, none⟩ (.slice none 0 0)).setCell ⟨w.heap.size + 1, 1, none⟩ (.slice none 0 0)).setCell ⟨w.heap.size + 1, 2, none⟩ (.int .i64 0)).setCell ⟨w.heap.size + 1, 3, none⟩ (.int .i64 0)).setCell ⟨w.heap.size + 1, 4, none⟩ (.int .i64 0) = WE at EN ⊢
    obtain ⟨⟨er0, ey0⟩, ⟨er1, ey1⟩, ⟨er2, ey2⟩, ⟨er3, ey3⟩, ⟨er4, ey4⟩⟩ := EN.out.1
    exact bodyPost_ret (v := .tuple #[.agg #[.slice none 0 0, .slice none 0 0, .int .i64 0, .int .i64 0, .int .i64 0], .int .i64 kw]) (by simp [results, Tryz.results75, go_sem, er0, er1, er2, er3, er4]) rfl ⟨HZ.out _ _ zw, EN.out.2⟩
  subst zw
  rw [if_neg (by decide)]
  have HL := hlen rfl
  by_cases zx : kx = 0
  case neg =>
    rw [if_pos zx]
    have qz : (kx != 0) = true := bne_iff_ne.2 zx
    go_enter Tryz.func75, Tryz.ntmps75
    go_wp2_with (first
      | (go_at_call 105; (with_reducible refine (S1 _).mono ?_); rintro e wz ⟨rfl, rfl⟩)
      | (go_at_call 105; (with_reducible refine (S2 _).mono ?_); rintro e wz ⟨rfl, rfl⟩)
      | (go_at_call 107; (with_reducible refine (CW _).mono ?_); rintro e wv ⟨v, rfl, hv, bv⟩; obtain ⟨av, cv, rfl, hrv⟩ := hv.formn hnw; have HRV := hide hrv; clear hv hrv; have RV := hide (HR3.out.below bv); have SVV := hide (HS3.out.below bv); have BV := hide (bt HB3.out bv); have s0 := bv.size; have rv := RV.out; obtain ⟨⟨fr0, fy0⟩, ⟨fr1, fy1⟩, ⟨fr2, fy2⟩, ⟨fr3, fy3⟩, ⟨fr4, fy4⟩⟩ := rv; have sv := SVV.out; obtain ⟨⟨gr0, gy0⟩, ⟨gr1, gy1⟩, ⟨gr2, gy2⟩, ⟨gr3, gy3⟩, ⟨gr4, gy4⟩⟩ := sv)
      | (go_at_call 110; (with_reducible refine (CX _ _ HL _ HRV.out).mono ?_); rintro e wx ⟨x, rfl, ox, zv, bx⟩; have RA := hide ((RV.out).below bx); have SA := hide ((SVV.out).below bx); have BA := hide (bt (BV.out) bx); have s1 := bx.size; obtain rfl := zv zx; have ra := RA.out; obtain ⟨⟨ar0, ay0⟩, ⟨ar1, ay1⟩, ⟨ar2, ay2⟩, ⟨ar3, ay3⟩, ⟨ar4, ay4⟩⟩ := ra; have sa := SA.out; obtain ⟨⟨br0, by0⟩, ⟨br1, by1⟩, ⟨br2, by2⟩, ⟨br3, by3⟩, ⟨br4, by4⟩⟩ := sa))
    have EN := hide (And.intro (S5.fill (R := w.heap.size + 1) ((RA.out).other (b := w.heap.size + 2) (o := 0) (u := .slice none 0 0) (by omega)) (.slice none 0 0) (.slice none 0 0) (.int .i64 0) (.int .i64 0) (.int .i64 0)) (below_fill (R := w.heap.size + 1) (bs (BA.out) (b := w.heap.size + 2) (Nat.le_add_right _ 2) (o := 0) (.slice none 0 0)) (Nat.le_add_right _ 1) (.slice none 0 0) (.slice none 0 0) (.int .i64 0) (.int .i64 0) (.int .i64 0)))
    generalize ((((((wx.setCell ⟨w.heap.size + 2, 0, none⟩ (.slice none 0 0))).setCell ⟨w.heap.size + 1, 0, none⟩ (.slice none 0 0)).setCell ⟨w.heap.size + 1, 1, none⟩ (.slice none 0 0)).setCell ⟨w.heap.size + 1, 2, none⟩ (.int .i64 0)).setCell ⟨w.heap.size + 1, 3, none⟩ (.int .i64 0)).setCell ⟨w.heap.size + 1, 4, none⟩ (.int .i64 0) = WE at EN ⊢
    obtain ⟨⟨er0, ey0⟩, ⟨er1, ey1⟩, ⟨er2, ey2⟩, ⟨er3, ey3⟩, ⟨er4, ey4⟩⟩ := EN.out.1
    exact bodyPost_ret (v := .tuple #[.agg #[.slice none 0 0, .slice none 0 0, .int .i64 0, .int .i64 0, .int .i64 0], .int .i64 kx]) (by simp [results, Tryz.results75, go_sem, er0, er1, er2, er3, er4]) rfl ⟨HZ.out _ _ zx, EN.out.2⟩
  subst zx
  rw [if_neg (by decide)]
  by_cases zy : ky = 0
  case neg =>
    have qz : (ky != 0) = true := bne_iff_ne.2 zy
    go_enter Tryz.func75, Tryz.ntmps75
    go_wp2_with (first
      | (go_at_call 105; (with_reducible refine (S1 _).mono ?_); rintro e wz ⟨rfl, rfl⟩)
      | (go_at_call 105; (with_reducible refine (S2 _).mono ?_); rintro e wz ⟨rfl, rfl⟩)
      | (go_at_call 107; (with_reducible refine (CW _).mono ?_); rintro e wv ⟨v, rfl, hv, bv⟩; obtain ⟨av, cv, rfl, hrv⟩ := hv.formn hnw; have HRV := hide hrv; clear hv hrv; have RV := hide (HR3.out.below bv); have SVV := hide (HS3.out.below bv); have BV := hide (bt HB3.out bv); have s0 := bv.size; have rv := RV.out; obtain ⟨⟨fr0, fy0⟩, ⟨fr1, fy1⟩, ⟨fr2, fy2⟩, ⟨fr3, fy3⟩, ⟨fr4, fy4⟩⟩ := rv; have sv := SVV.out; obtain ⟨⟨gr0, gy0⟩, ⟨gr1, gy1⟩, ⟨gr2, gy2⟩, ⟨gr3, gy3⟩, ⟨gr4, gy4⟩⟩ := sv)
      | (go_at_call 110; (with_reducible refine (CX _ _ HL _ HRV.out).mono ?_); rintro e wx ⟨x, rfl, ox, zv, bx⟩; have RA := hide ((RV.out).below bx); have SA := hide ((SVV.out).below bx); have BA := hide (bt (BV.out) bx); have s1 := bx.size; obtain ⟨gx, px, rfl, _, _⟩ := NX (ox (by trivial)); have OX := hide (OwnLs.mono (ox (by trivial)) (base' := w.heap.size + 3) (by simp at s0 ⊢; omega)); have ra := RA.out; obtain ⟨⟨ar0, ay0⟩, ⟨ar1, ay1⟩, ⟨ar2, ay2⟩, ⟨ar3, ay3⟩, ⟨ar4, ay4⟩⟩ := ra; have sa := SA.out; obtain ⟨⟨br0, by0⟩, ⟨br1, by1⟩, ⟨br2, by2⟩, ⟨br3, by3⟩, ⟨br4, by4⟩⟩ := sa; clear ox)
      | (go_at_call 110; (with_reducible refine (CY _ _ HL _ (row_put_other (HRV.out.below bx) br0 (fun _ q => by cases q))).mono ?_); rintro e wy ⟨y, rfl, oy, zv2, by_⟩; have RB := hide (((RA.out).other (b := w.heap.size + 2) (o := 0) (u := .slice (some ⟨gx, 0, none⟩) n1 px) (by omega)).below by_); have SB := hide ((SA.out.set0 (.slice (some ⟨gx, 0, none⟩) n1 px)).below by_); have BB := hide (bt (bs (BA.out) (b := w.heap.size + 2) (Nat.le_add_right _ 2) (o := 0) (.slice (some ⟨gx, 0, none⟩) n1 px)) by_); have s2 := by_.size; obtain rfl := zv2 zy; have rb := RB.out; obtain ⟨⟨cr0, cy0⟩, ⟨cr1, cy1⟩, ⟨cr2, cy2⟩, ⟨cr3, cy3⟩, ⟨cr4, cy4⟩⟩ := rb; have sb := SB.out; obtain ⟨⟨dr0, dy0⟩, ⟨dr1, dy1⟩, ⟨dr2, dy2⟩, ⟨dr3, dy3⟩, ⟨dr4, dy4⟩⟩ := sb))
    have EN := hide (And.intro (S5.fill (R := w.heap.size + 1) ((RB.out).other (b := w.heap.size + 2) (o := 1) (u := .slice none 0 0) (by omega)) (.slice none 0 0) (.slice none 0 0) (.int .i64 0) (.int .i64 0) (.int .i64 0)) (below_fill (R := w.heap.size + 1) (bs (BB.out) (b := w.heap.size + 2) (Nat.le_add_right _ 2) (o := 1) (.slice none 0 0)) (Nat.le_add_right _ 1) (.slice none 0 0) (.slice none 0 0) (.int .i64 0) (.int .i64 0) (.int .i64 0)))
    generalize ((((((wy.setCell ⟨w.heap.size + 2, 1, none⟩ (.slice none 0 0))).setCell ⟨w.heap.size + 1, 0, none⟩ (.slice none 0 0)).setCell ⟨w.heap.size + 1, 1, none⟩ (.slice none 0 0)).setCell ⟨w.heap.size + 1, 2, none⟩ (.int .i64 0)).setCell ⟨w.heap.size + 1, 3, none⟩ (.int .i64 0)).setCell ⟨w.heap.size + 1, 4, none⟩ (.int .i64 0) = WE at EN ⊢
    obtain ⟨⟨er0, ey0⟩, ⟨er1, ey1⟩, ⟨er2, ey2⟩, ⟨er3, ey3⟩, ⟨er4, ey4⟩⟩ := EN.out.1
    exact bodyPost_ret (v := .tuple #[.agg #[.slice none 0 0, .slice none 0 0, .int .i64 0, .int .i64 0, .int .i64 0], .int .i64 ky]) (by simp [results, Tryz.results75, go_sem, er0, er1, er2, er3, er4]) rfl ⟨HZ.out _ _ zy, EN.out.2⟩
  subst zy
  go_enter Tryz.func75, Tryz.ntmps75
  go_wp2_with (first
    | (go_at_call 105; (with_reducible refine (S1 _).mono ?_); rintro e wz ⟨rfl, rfl⟩)
    | (go_at_call 105; (with_reducible refine (S2 _).mono ?_); rintro e wz ⟨rfl, rfl⟩)
    | (go_at_call 107; (with_reducible refine (CW _).mono ?_); rintro e wv ⟨v, rfl, hv, bv⟩; obtain ⟨av, cv, rfl, hrv⟩ := hv.formn hnw; have HRV := hide hrv; clear hv hrv; have RV := hide (HR3.out.below bv); have SVV := hide (HS3.out.below bv); have BV := hide (bt HB3.out bv); have s0 := bv.size; have rv := RV.out; obtain ⟨⟨fr0, fy0⟩, ⟨fr1, fy1⟩, ⟨fr2, fy2⟩, ⟨fr3, fy3⟩, ⟨fr4, fy4⟩⟩ := rv; have sv := SVV.out; obtain ⟨⟨gr0, gy0⟩, ⟨gr1, gy1⟩, ⟨gr2, gy2⟩, ⟨gr3, gy3⟩, ⟨gr4, gy4⟩⟩ := sv)
    | (go_at_call 110; (with_reducible refine (CX _ _ HL _ HRV.out).mono ?_); rintro e wx ⟨x, rfl, ox, zv, bx⟩; have RA := hide ((RV.out).below bx); have SA := hide ((SVV.out).below bx); have BA := hide (bt (BV.out) bx); have s1 := bx.size; obtain ⟨gx, px, rfl, _, _⟩ := NX (ox (by trivial)); have OX := hide (OwnLs.mono (ox (by trivial)) (base' := w.heap.size + 3) (by simp at s0 ⊢; omega)); have ra := RA.out; obtain ⟨⟨ar0, ay0⟩, ⟨ar1, ay1⟩, ⟨ar2, ay2⟩, ⟨ar3, ay3⟩, ⟨ar4, ay4⟩⟩ := ra; have sa := SA.out; obtain ⟨⟨br0, by0⟩, ⟨br1, by1⟩, ⟨br2, by2⟩, ⟨br3, by3⟩, ⟨br4, by4⟩⟩ := sa; clear ox)
    | (go_at_call 110; (with_reducible refine (CY _ _ HL _ (row_put_other (HRV.out.below bx) br0 (fun _ q => by cases q))).mono ?_); rintro e wy ⟨y, rfl, oy, zv2, by_⟩; have RB := hide (((RA.out).other (b := w.heap.size + 2) (o := 0) (u := .slice (some ⟨gx, 0, none⟩) n1 px) (by omega)).below by_); have SB := hide ((SA.out.set0 (.slice (some ⟨gx, 0, none⟩) n1 px)).below by_); have BB := hide (bt (bs (BA.out) (b := w.heap.size + 2) (Nat.le_add_right _ 2) (o := 0) (.slice (some ⟨gx, 0, none⟩) n1 px)) by_); have s2 := by_.size; obtain ⟨gy, py, rfl, _, _⟩ := NY (oy (by trivial)); have OY := hide (OwnLs.mono (oy (by trivial)) (base' := w.heap.size + 3) (by simp at s0 s1 ⊢; omega)); have OX2 := hide ((own_ls_set OX.out 0 (.slice (some ⟨gx, 0, none⟩) n1 px) (b := w.heap.size + 2) (by omega)).below by_); have rb := RB.out; obtain ⟨⟨cr0, cy0⟩, ⟨cr1, cy1⟩, ⟨cr2, cy2⟩, ⟨cr3, cy3⟩, ⟨cr4, cy4⟩⟩ := rb; have sb := SB.out; obtain ⟨⟨dr0, dy0⟩, ⟨dr1, dy1⟩, ⟨dr2, dy2⟩, ⟨dr3, dy3⟩, ⟨dr4, dy4⟩⟩ := sb; clear oy))
  have EN := hide (And.intro (S5.fill (R := w.heap.size + 1) ((RB.out).other (b := w.heap.size + 2) (o := 1) (u := .slice (some ⟨gy, 0, none⟩) n2 py) (by omega)) (.slice (some ⟨gx, 0, none⟩) n1 px) (.slice (some ⟨gy, 0, none⟩) n2 py) (.int .i64 a) (.int .i64 b) (.int .i64 bd)) (And.intro (below_fill (R := w.heap.size + 1) (bs (BB.out) (b := w.heap.size + 2) (Nat.le_add_right _ 2) (o := 1) (.slice (some ⟨gy, 0, none⟩) n2 py)) (Nat.le_add_right _ 1) (.slice (some ⟨gx, 0, none⟩) n1 px) (.slice (some ⟨gy, 0, none⟩) n2 py) (.int .i64 a) (.int .i64 b) (.int .i64 bd)) (And.intro (own_ls_fill (R := w.heap.size + 1) (own_ls_set OX2.out 1 (.slice (some ⟨gy, 0, none⟩) n2 py) (b := w.heap.size + 2) (by omega)) (.slice (some ⟨gx, 0, none⟩) n1 px) (.slice (some ⟨gy, 0, none⟩) n2 py) (.int .i64 a) (.int .i64 b) (.int .i64 bd) (by omega)) (own_ls_fill (R := w.heap.size + 1) (own_ls_set OY.out 1 (.slice (some ⟨gy, 0, none⟩) n2 py) (b := w.heap.size + 2) (by omega)) (.slice (some ⟨gx, 0, none⟩) n1 px) (.slice (some ⟨gy, 0, none⟩) n2 py) (.int .i64 a) (.int .i64 b) (.int .i64 bd) (by omega)))))
  generalize ((((((wy.setCell ⟨w.heap.size + 2, 1, none⟩ (.slice (some ⟨gy, 0, none⟩) n2 py))).setCell ⟨w.heap.size + 1, 0, none⟩ (.slice (some ⟨gx, 0, none⟩) n1 px)).setCell ⟨w.heap.size + 1, 1, none⟩ (.slice (some ⟨gy, 0, none⟩) n2 py)).setCell ⟨w.heap.size + 1, 2, none⟩ (.int .i64 a)).setCell ⟨w.heap.size + 1, 3, none⟩ (.int .i64 b)).setCell ⟨w.heap.size + 1, 4, none⟩ (.int .i64 bd) = WE at EN ⊢
  obtain ⟨⟨er0, ey0⟩, ⟨er1, ey1⟩, ⟨er2, ey2⟩, ⟨er3, ey3⟩, ⟨er4, ey4⟩⟩ := EN.out.1
  exact bodyPost_ret (v := .tuple #[.agg #[.slice (some ⟨gx, 0, none⟩) n1 px, .slice (some ⟨gy, 0, none⟩) n2 py, .int .i64 a, .int .i64 b, .int .i64 bd], .int .i64 0]) (by simp [results, Tryz.results75, go_sem, er0, er1, er2, er3, er4]) rfl ⟨HS.out _ _ _ _ rfl (EN.out.2.2.1.mono (by omega)) (EN.out.2.2.2.mono (by omega)), EN.out.2.1⟩
set_option maxHeartbeats 4000000 in
set_option maxRecDepth 100000 in
theorem dmake_one (o : Opr) (ax : Option Addr) (cx : Nat) (ay : Option Addr) (cy : Nat) (a b : Int) (w : World) (h : okO o a b = true) (k3 : o.kd = 1) :
    Calls Tryz.prog 75 #[opV o ax cx ay cy, .int .i64 a, .int .i64 b] w fun e w' => MakeRef w.heap.size e w' (opCode o a b) (stgOf o a b) ∧ Below w.heap.size w w' := by
  obtain ⟨⟨k0, k1⟩, ⟨b0, b1⟩, ⟨a0, a1⟩, ⟨h0, h1⟩, hr⟩ := (okO_iff o a b).1 h
  have S1 := dside12_yes a a0 a1
  have S2 := dside12_yes b h0 h1
  have CW := fun w => refblur_any o.rd w
  have hW : wCode o = blurCode o.rd := (if_neg (by omega)).trans (if_pos k3)
  have hxo : wX o = blurOut o.rd := (if_neg (by omega)).trans (if_pos k3)
  have hyo : wY o = blurOut o.rd := (if_neg (by omega)).trans (if_pos k3)
  have hcode : opCode o a b = if blurCode o.rd ≠ 0 then blurCode o.rd else if filCode (blurOut o.rd) a ≠ 0 then filCode (blurOut o.rd) a else filCode (blurOut o.rd) b := by
    unfold opCode xCode yCode
    rw [h, if_neg (by decide), hW, hxo, hyo, if_neg (show ¬ o.kd = 3 by omega), if_neg (show ¬ o.kd = 3 by omega)]
    by_cases g : blurCode o.rd = 0
    · rw [if_neg (fun q => q.2 g), if_neg (show ¬ (blurCode o.rd ≠ 0) from fun q => q g)]
    · rw [if_pos ⟨by omega, g⟩, if_pos g]
  have hX : (stgOf o a b).lx = filTo (blurOut o.rd) a.toNat := by show xLines o a = _; unfold xLines; rw [if_neg (by omega), hxo]
  have hY : (stgOf o a b).ly = filTo (blurOut o.rd) b.toNat := by show yLines o b = _; unfold yLines; rw [if_neg (by omega), hyo]
  have hlx := filTo_len (blurOut o.rd) a.toNat
  have hly := filTo_len (blurOut o.rd) b.toNat
  have hlen := fun e : blurCode o.rd = 0 => (blurOut_len e).2
  have h64 : All64 (blurOut o.rd) := blurOut_64 _
  have CX := fun (ad : Option Addr) (cap : Nat) (hl : (blurOut o.rd).length ≤ 1048576) (w : World) (hr : RowAt .i64 w ad (blurOut o.rd)) => reffilter_any (blurOut o.rd) ad cap a w hr h64 (by omega)
  have CY := fun (ad : Option Addr) (cap : Nat) (hl : (blurOut o.rd).length ≤ 1048576) (w : World) (hr : RowAt .i64 w ad (blurOut o.rd)) => reffilter_any (blurOut o.rd) ad cap b w hr h64 (by omega)
  rw [hcode]
  have HS := hide (fun (e : Ending) (w' : World) (x y : Value) (he : e = .returned (.tuple #[.agg #[x, y, .int .i64 a, .int .i64 b, .int .i64 o.bd], .int .i64 0])) (hx : OwnLs 100 w' w.heap.size x (filTo (blurOut o.rd) a.toNat)) (hy : OwnLs 100 w' w.heap.size y (filTo (blurOut o.rd) b.toNat)) => show MakeRef w.heap.size e w' 0 (stgOf o a b) from .inr ⟨rfl, x, y, he, by rw [hX]; exact hx, by rw [hY]; exact hy⟩)
  have HZ := hide (fun (w' : World) (k : Int) (hk : k ≠ 0) => show MakeRef w.heap.size (.returned (.tuple #[.agg #[.slice none 0 0, .slice none 0 0, .int .i64 0, .int .i64 0, .int .i64 0], .int .i64 k])) w' k (stgOf o a b) from .inl ⟨hk, rfl⟩)
  unfold opV
  clear hX hY hcode h
  clear hr hW hxo hyo h64
  generalize filTo (blurOut o.rd) a.toNat = LX at *
  generalize filTo (blurOut o.rd) b.toNat = LY at *
  generalize filCode (blurOut o.rd) a = kx at *
  generalize filCode (blurOut o.rd) b = ky at *
  generalize blurOut o.rd = WL at *
  generalize blurCode o.rd = kw at *
  generalize stgOf o a b = ST at *
  obtain ⟨kd, bd, sg, rd, xs, ys, fl, wd, ht⟩ := o
  simp only at *
  subst k3
  generalize xs.length = nx at *
  generalize ys.length = ny at *
  obtain ⟨nw, hnw⟩ : ∃ n, WL.length = n := ⟨_, rfl⟩
  rw [hnw] at hlen CX CY
  have NX : LX ≠ [] := fun e => by rw [e] at hlx; simp at hlx; omega
  have NY : LY ≠ [] := fun e => by rw [e] at hly; simp at hly; omega
  obtain ⟨n1, hn1⟩ : ∃ n, LX.length = n := ⟨_, rfl⟩
  obtain ⟨n2, hn2⟩ : ∃ n, LY.length = n := ⟨_, rfl⟩
  replace NX : ∀ {w : World} {base : Nat} {v : Value}, OwnLs 100 w base v LX → ∃ g cap, v = .slice (some ⟨g, 0, none⟩) n1 cap ∧ g < w.heap.size ∧ LinesAt w g LX := fun h => by rw [← hn1]; exact h.read NX
  replace NY : ∀ {w : World} {base : Nat} {v : Value}, OwnLs 100 w base v LY → ∃ g cap, v = .slice (some ⟨g, 0, none⟩) n2 cap ∧ g < w.heap.size ∧ LinesAt w g LY := fun h => by rw [← hn2]; exact h.read NY
  clear k0 k1 hlx hly h0 h1 a0 a1 hn1 hn2
  have HR3 := hide (show S5 (((w.alloc (.cells #[.int .i64 1, .int .i64 bd, .int .i64 sg, .int .i64 rd, .slice ax nx cx, .slice ay ny cy, .int .i64 fl, .int .i64 wd, .int .i64 ht] 119)).alloc (.cells #[.slice none 0 0, .slice none 0 0, .int .i64 0, .int .i64 0, .int .i64 0] 57)).alloc (.cells #[.slice none 0 0, .slice none 0 0, .int .i64 a, .int .i64 b, .int .i64 bd] 57)) (w.heap.size + 1) (.slice none 0 0) (.slice none 0 0) (.int .i64 0) (.int .i64 0) (.int .i64 0) from by simpa using (S5.new (w.alloc (.cells #[.int .i64 1, .int .i64 bd, .int .i64 sg, .int .i64 rd, .slice ax nx cx, .slice ay ny cy, .int .i64 fl, .int .i64 wd, .int .i64 ht] 119)) 57 (.slice none 0 0) (.slice none 0 0) (.int .i64 0) (.int .i64 0) (.int .i64 0)).below (below1 ((w.alloc (.cells #[.int .i64 1, .int .i64 bd, .int .i64 sg, .int .i64 rd, .slice ax nx cx, .slice ay ny cy, .int .i64 fl, .int .i64 wd, .int .i64 ht] 119)).alloc (.cells #[.slice none 0 0, .slice none 0 0, .int .i64 0, .int .i64 0, .int .i64 0] 57)) (.cells #[.slice none 0 0, .slice none 0 0, .int .i64 a, .int .i64 b, .int .i64 bd] 57)))
  have HS3 := hide (show S5 (((w.alloc (.cells #[.int .i64 1, .int .i64 bd, .int .i64 sg, .int .i64 rd, .slice ax nx cx, .slice ay ny cy, .int .i64 fl, .int .i64 wd, .int .i64 ht] 119)).alloc (.cells #[.slice none 0 0, .slice none 0 0, .int .i64 0, .int .i64 0, .int .i64 0] 57)).alloc (.cells #[.slice none 0 0, .slice none 0 0, .int .i64 a, .int .i64 b, .int .i64 bd] 57)) (w.heap.size + 2) (.slice none 0 0) (.slice none 0 0) (.int .i64 a) (.int .i64 b) (.int .i64 bd) from by simpa using S5.new ((w.alloc (.cells #[.int .i64 1, .int .i64 bd, .int .i64 sg, .int .i64 rd, .slice ax nx cx, .slice ay ny cy, .int .i64 fl, .int .i64 wd, .int .i64 ht] 119)).alloc (.cells #[.slice none 0 0, .slice none 0 0, .int .i64 0, .int .i64 0, .int .i64 0] 57)) 57 (.slice none 0 0) (.slice none 0 0) (.int .i64 a) (.int .i64 b) (.int .i64 bd))
  have HB3 := hide (show Below w.heap.size w (((w.alloc (.cells #[.int .i64 1, .int .i64 bd, .int .i64 sg, .int .i64 rd, .slice ax nx cx, .slice ay ny cy, .int .i64 fl, .int .i64 wd, .int .i64 ht] 119)).alloc (.cells #[.slice none 0 0, .slice none 0 0, .int .i64 0, .int .i64 0, .int .i64 0] 57)).alloc (.cells #[.slice none 0 0, .slice none 0 0, .int .i64 a, .int .i64 b, .int .i64 bd] 57)) from ba (ba (below1 _ _) _) _)
  by_cases zw : kw = 0
  case neg =>
    rw [if_pos zw]
    have qz : (kw != 0) = true := bne_iff_ne.2 zw
    go_enter Tryz.func75, Tryz.ntmps75
    go_wp2_with (first
      | (go_at_call 105; (with_reducible refine (S1 _).mono ?_); rintro e wz ⟨rfl, rfl⟩)
      | (go_at_call 105; (with_reducible refine (S2 _).mono ?_); rintro e wz ⟨rfl, rfl⟩)
      | (go_at_call 108; (with_reducible refine (CW _).mono ?_); rintro e wv ⟨v, rfl, hv, bv⟩; obtain ⟨av, cv, rfl, hrv⟩ := hv.formn hnw; have HRV := hide hrv; clear hv hrv; have RV := hide (HR3.out.below bv); have SVV := hide (HS3.out.below bv); have BV := hide (bt HB3.out bv); have s0 := bv.size; have rv := RV.out; obtain ⟨⟨fr0, fy0⟩, ⟨fr1, fy1⟩, ⟨fr2, fy2⟩, ⟨fr3, fy3⟩, ⟨fr4, fy4⟩⟩ := rv; have sv := SVV.out; obtain ⟨⟨gr0, gy0⟩, ⟨gr1, gy1⟩, ⟨gr2, gy2⟩, ⟨gr3, gy3⟩, ⟨gr4, gy4⟩⟩ := sv))
    have EN := hide (And.intro (S5.fill (R := w.heap.size + 1) (RV.out) (.slice none 0 0) (.slice none 0 0) (.int .i64 0) (.int .i64 0) (.int .i64 0)) (below_fill (R := w.heap.size + 1) (BV.out) (Nat.le_add_right _ 1) (.slice none 0 0) (.slice none 0 0) (.int .i64 0) (.int .i64 0) (.int .i64 0)))
    generalize (((((wv).setCell ⟨w.heap.size + 1, 0, none⟩ (.slice none 0 0)).setCell ⟨w.heap.size + 1, 1, none⟩ (.slice none 0 0)).setCell ⟨w.heap.size + 1, 2, none⟩ (.int .i64 0)).setCell ⟨w.heap.size + 1, 3, none⟩ (.int .i64 0)).setCell ⟨w.heap.size + 1, 4, none⟩ (.int .i64 0) = WE at EN ⊢
    obtain ⟨⟨er0, ey0⟩, ⟨er1, ey1⟩, ⟨er2, ey2⟩, ⟨er3, ey3⟩, ⟨er4, ey4⟩⟩ := EN.out.1
    exact bodyPost_ret (v := .tuple #[.agg #[.slice none 0 0, .slice none 0 0, .int .i64 0, .int .i64 0, .int .i64 0], .int .i64 kw]) (by simp [results, Tryz.results75, go_sem, er0, er1, er2, er3, er4]) rfl ⟨HZ.out _ _ zw, EN.out.2⟩
  subst zw
  rw [if_neg (by decide)]
  have HL := hlen rfl
  by_cases zx : kx = 0
  case neg =>
    rw [if_pos zx]
    have qz : (kx != 0) = true := bne_iff_ne.2 zx
    go_enter Tryz.func75, Tryz.ntmps75
    go_wp2_with (first
      | (go_at_call 105; (with_reducible refine (S1 _).mono ?_); rintro e wz ⟨rfl, rfl⟩)
      | (go_at_call 105; (with_reducible refine (S2 _).mono ?_); rintro e wz ⟨rfl, rfl⟩)
      | (go_at_call 108; (with_reducible refine (CW _).mono ?_); rintro e wv ⟨v, rfl, hv, bv⟩; obtain ⟨av, cv, rfl, hrv⟩ := hv.formn hnw; have HRV := hide hrv; clear hv hrv; have RV := hide (HR3.out.below bv); have SVV := hide (HS3.out.below bv); have BV := hide (bt HB3.out bv); have s0 := bv.size; have rv := RV.out; obtain ⟨⟨fr0, fy0⟩, ⟨fr1, fy1⟩, ⟨fr2, fy2⟩, ⟨fr3, fy3⟩, ⟨fr4, fy4⟩⟩ := rv; have sv := SVV.out; obtain ⟨⟨gr0, gy0⟩, ⟨gr1, gy1⟩, ⟨gr2, gy2⟩, ⟨gr3, gy3⟩, ⟨gr4, gy4⟩⟩ := sv)
      | (go_at_call 110; (with_reducible refine (CX _ _ HL _ HRV.out).mono ?_); rintro e wx ⟨x, rfl, ox, zv, bx⟩; have RA := hide ((RV.out).below bx); have SA := hide ((SVV.out).below bx); have BA := hide (bt (BV.out) bx); have s1 := bx.size; obtain rfl := zv zx; have ra := RA.out; obtain ⟨⟨ar0, ay0⟩, ⟨ar1, ay1⟩, ⟨ar2, ay2⟩, ⟨ar3, ay3⟩, ⟨ar4, ay4⟩⟩ := ra; have sa := SA.out; obtain ⟨⟨br0, by0⟩, ⟨br1, by1⟩, ⟨br2, by2⟩, ⟨br3, by3⟩, ⟨br4, by4⟩⟩ := sa))
    have EN := hide (And.intro (S5.fill (R := w.heap.size + 1) ((RA.out).other (b := w.heap.size + 2) (o := 0) (u := .slice none 0 0) (by omega)) (.slice none 0 0) (.slice none 0 0) (.int .i64 0) (.int .i64 0) (.int .i64 0)) (below_fill (R := w.heap.size + 1) (bs (BA.out) (b := w.heap.size + 2) (Nat.le_add_right _ 2) (o := 0) (.slice none 0 0)) (Nat.le_add_right _ 1) (.slice none 0 0) (.slice none 0 0) (.int .i64 0) (.int .i64 0) (.int .i64 0)))
    generalize ((((((wx.setCell ⟨w.heap.size + 2, 0, none⟩ (.slice none 0 0))).setCell ⟨w.heap.size + 1, 0, none⟩ (.slice none 0 0)).setCell ⟨w.heap.size + 1, 1, none⟩ (.slice none 0 0)).setCell ⟨w.heap.size + 1, 2, none⟩ (.int .i64 0)).setCell ⟨w.heap.size + 1, 3, none⟩ (.int .i64 0)).setCell ⟨w.heap.size + 1, 4, none⟩ (.int .i64 0) = WE at EN ⊢
    obtain ⟨⟨er0, ey0⟩, ⟨er1, ey1⟩, ⟨er2, ey2⟩, ⟨er3, ey3⟩, ⟨er4, ey4⟩⟩ := EN.out.1
    exact bodyPost_ret (v := .tuple #[.agg #[.slice none 0 0, .slice none 0 0, .int .i64 0, .int .i64 0, .int .i64 0], .int .i64 kx]) (by simp [results, Tryz.results75, go_sem, er0, er1, er2, er3, er4]) rfl ⟨HZ.out _ _ zx, EN.out.2⟩
  subst zx
  rw [if_neg (by decide)]
  by_cases zy : ky = 0
  case neg =>
    have qz : (ky != 0) = true := bne_iff_ne.2 zy
    go_enter Tryz.func75, Tryz.ntmps75
    go_wp2_with (first
      | (go_at_call 105; (with_reducible refine (S1 _).mono ?_); rintro e wz ⟨rfl, rfl⟩)
      | (go_at_call 105; (with_reducible refine (S2 _).mono ?_); rintro e wz ⟨rfl, rfl⟩)
      | (go_at_call 108; (with_reducible refine (CW _).mono ?_); rintro e wv ⟨v, rfl, hv, bv⟩; obtain ⟨av, cv, rfl, hrv⟩ := hv.formn hnw; have HRV := hide hrv; clear hv hrv; have RV := hide (HR3.out.below bv); have SVV := hide (HS3.out.below bv); have BV := hide (bt HB3.out bv); have s0 := bv.size; have rv := RV.out; obtain ⟨⟨fr0, fy0⟩, ⟨fr1, fy1⟩, ⟨fr2, fy2⟩, ⟨fr3, fy3⟩, ⟨fr4, fy4⟩⟩ := rv; have sv := SVV.out; obtain ⟨⟨gr0, gy0⟩, ⟨gr1, gy1⟩, ⟨gr2, gy2⟩, ⟨gr3, gy3⟩, ⟨gr4, gy4⟩⟩ := sv)
      | (go_at_call 110; (with_reducible refine (CX _ _ HL _ HRV.out).mono ?_); rintro e wx ⟨x, rfl, ox, zv, bx⟩; have RA := hide ((RV.out).below bx); have SA := hide ((SVV.out).below bx); have BA := hide (bt (BV.out) bx); have s1 := bx.size; obtain ⟨gx, px, rfl, _, _⟩ := NX (ox (by trivial)); have OX := hide (OwnLs.mono (ox (by trivial)) (base' := w.heap.size + 3) (by simp at s0 ⊢; omega)); have ra := RA.out; obtain ⟨⟨ar0, ay0⟩, ⟨ar1, ay1⟩, ⟨ar2, ay2⟩, ⟨ar3, ay3⟩, ⟨ar4, ay4⟩⟩ := ra; have sa := SA.out; obtain ⟨⟨br0, by0⟩, ⟨br1, by1⟩, ⟨br2, by2⟩, ⟨br3, by3⟩, ⟨br4, by4⟩⟩ := sa; clear ox)
      | (go_at_call 110; (with_reducible refine (CY _ _ HL _ (row_put_other (HRV.out.below bx) br0 (fun _ q => by cases q))).mono ?_); rintro e wy ⟨y, rfl, oy, zv2, by_⟩; have RB := hide (((RA.out).other (b := w.heap.size + 2) (o := 0) (u := .slice (some ⟨gx, 0, none⟩) n1 px) (by omega)).below by_); have SB := hide ((SA.out.set0 (.slice (some ⟨gx, 0, none⟩) n1 px)).below by_); have BB := hide (bt (bs (BA.out) (b := w.heap.size + 2) (Nat.le_add_right _ 2) (o := 0) (.slice (some ⟨gx, 0, none⟩) n1 px)) by_); have s2 := by_.size; obtain rfl := zv2 zy; have rb := RB.out; obtain ⟨⟨cr0, cy0⟩, ⟨cr1, cy1⟩, ⟨cr2, cy2⟩, ⟨cr3, cy3⟩, ⟨cr4, cy4⟩⟩ := rb; have sb := SB.out; obtain ⟨⟨dr0, dy0⟩, ⟨dr1, dy1⟩, ⟨dr2, dy2⟩, ⟨dr3, dy3⟩, ⟨dr4, dy4⟩⟩ := sb))
    have EN := hide (And.intro (S5.fill (R := w.heap.size + 1) ((RB.out).other (b := w.heap.size + 2) (o := 1) (u := .slice none 0 0) (by omega)) (.slice none 0 0) (.slice none 0 0) (.int .i64 0) (.int .i64 0) (.int .i64 0)) (below_fill (R := w.heap.size + 1) (bs (BB.out) (b := w.heap.size + 2) (Nat.le_add_right _ 2) (o := 1) (.slice none 0 0)) (Nat.le_add_right _ 1) (.slice none 0 0) (.slice none 0 0) (.int .i64 0) (.int .i64 0) (.int .i64 0)))
    generalize ((((((wy.setCell ⟨w.heap.size + 2, 1, none⟩ (.slice none 0 0))).setCell ⟨w.heap.size + 1, 0, none⟩ (.slice none 0 0)).setCell ⟨w.heap.size + 1, 1, none⟩ (.slice none 0 0)).setCell ⟨w.heap.size + 1, 2, none⟩ (.int .i64 0)).setCell ⟨w.heap.size + 1, 3, none⟩ (.int .i64 0)).setCell ⟨w.heap.size + 1, 4, none⟩ (.int .i64 0) = WE at EN ⊢
    obtain ⟨⟨er0, ey0⟩, ⟨er1, ey1⟩, ⟨er2, ey2⟩, ⟨er3, ey3⟩, ⟨er4, ey4⟩⟩ := EN.out.1
    exact bodyPost_ret (v := .tuple #[.agg #[.slice none 0 0, .slice none 0 0, .int .i64 0, .int .i64 0, .int .i64 0], .int .i64 ky]) (by simp [results, Tryz.results75, go_sem, er0, er1, er2, er3, er4]) rfl ⟨HZ.out _ _ zy, EN.out.2⟩
  subst zy
  go_enter Tryz.func75, Tryz.ntmps75
  go_wp2_with (first
    | (go_at_call 105; (with_reducible refine (S1 _).mono ?_); rintro e wz ⟨rfl, rfl⟩)
    | (go_at_call 105; (with_reducible refine (S2 _).mono ?_); rintro e wz ⟨rfl, rfl⟩)
    | (go_at_call 108; (with_reducible refine (CW _).mono ?_); rintro e wv ⟨v, rfl, hv, bv⟩; obtain ⟨av, cv, rfl, hrv⟩ := hv.formn hnw; have HRV := hide hrv; clear hv hrv; have RV := hide (HR3.out.below bv); have SVV := hide (HS3.out.below bv); have BV := hide (bt HB3.out bv); have s0 := bv.size; have rv := RV.out; obtain ⟨⟨fr0, fy0⟩, ⟨fr1, fy1⟩, ⟨fr2, fy2⟩, ⟨fr3, fy3⟩, ⟨fr4, fy4⟩⟩ := rv; have sv := SVV.out; obtain ⟨⟨gr0, gy0⟩, ⟨gr1, gy1⟩, ⟨gr2, gy2⟩, ⟨gr3, gy3⟩, ⟨gr4, gy4⟩⟩ := sv)
    | (go_at_call 110; (with_reducible refine (CX _ _ HL _ HRV.out).mono ?_); rintro e wx ⟨x, rfl, ox, zv, bx⟩; have RA := hide ((RV.out).below bx); have SA := hide ((SVV.out).below bx); have BA := hide (bt (BV.out) bx); have s1 := bx.size; obtain ⟨gx, px, rfl, _, _⟩ := NX (ox (by trivial)); have OX := hide (OwnLs.mono (ox (by trivial)) (base' := w.heap.size + 3) (by simp at s0 ⊢; omega)); have ra := RA.out; obtain ⟨⟨ar0, ay0⟩, ⟨ar1, ay1⟩, ⟨ar2, ay2⟩, ⟨ar3, ay3⟩, ⟨ar4, ay4⟩⟩ := ra; have sa := SA.out; obtain ⟨⟨br0, by0⟩, ⟨br1, by1⟩, ⟨br2, by2⟩, ⟨br3, by3⟩, ⟨br4, by4⟩⟩ := sa; clear ox)
    | (go_at_call 110; (with_reducible refine (CY _ _ HL _ (row_put_other (HRV.out.below bx) br0 (fun _ q => by cases q))).mono ?_); rintro e wy ⟨y, rfl, oy, zv2, by_⟩; have RB := hide (((RA.out).other (b := w.heap.size + 2) (o := 0) (u := .slice (some ⟨gx, 0, none⟩) n1 px) (by omega)).below by_); have SB := hide ((SA.out.set0 (.slice (some ⟨gx, 0, none⟩) n1 px)).below by_); have BB := hide (bt (bs (BA.out) (b := w.heap.size + 2) (Nat.le_add_right _ 2) (o := 0) (.slice (some ⟨gx, 0, none⟩) n1 px)) by_); have s2 := by_.size; obtain ⟨gy, py, rfl, _, _⟩ := NY (oy (by trivial)); have OY := hide (OwnLs.mono (oy (by trivial)) (base' := w.heap.size + 3) (by simp at s0 s1 ⊢; omega)); have OX2 := hide ((own_ls_set OX.out 0 (.slice (some ⟨gx, 0, none⟩) n1 px) (b := w.heap.size + 2) (by omega)).below by_); have rb := RB.out; obtain ⟨⟨cr0, cy0⟩, ⟨cr1, cy1⟩, ⟨cr2, cy2⟩, ⟨cr3, cy3⟩, ⟨cr4, cy4⟩⟩ := rb; have sb := SB.out; obtain ⟨⟨dr0, dy0⟩, ⟨dr1, dy1⟩, ⟨dr2, dy2⟩, ⟨dr3, dy3⟩, ⟨dr4, dy4⟩⟩ := sb; clear oy))
  have EN := hide (And.intro (S5.fill (R := w.heap.size + 1) ((RB.out).other (b := w.heap.size + 2) (o := 1) (u := .slice (some ⟨gy, 0, none⟩) n2 py) (by omega)) (.slice (some ⟨gx, 0, none⟩) n1 px) (.slice (some ⟨gy, 0, none⟩) n2 py) (.int .i64 a) (.int .i64 b) (.int .i64 bd)) (And.intro (below_fill (R := w.heap.size + 1) (bs (BB.out) (b := w.heap.size + 2) (Nat.le_add_right _ 2) (o := 1) (.slice (some ⟨gy, 0, none⟩) n2 py)) (Nat.le_add_right _ 1) (.slice (some ⟨gx, 0, none⟩) n1 px) (.slice (some ⟨gy, 0, none⟩) n2 py) (.int .i64 a) (.int .i64 b) (.int .i64 bd)) (And.intro (own_ls_fill (R := w.heap.size + 1) (own_ls_set OX2.out 1 (.slice (some ⟨gy, 0, none⟩) n2 py) (b := w.heap.size + 2) (by omega)) (.slice (some ⟨gx, 0, none⟩) n1 px) (.slice (some ⟨gy, 0, none⟩) n2 py) (.int .i64 a) (.int .i64 b) (.int .i64 bd) (by omega)) (own_ls_fill (R := w.heap.size + 1) (own_ls_set OY.out 1 (.slice (some ⟨gy, 0, none⟩) n2 py) (b := w.heap.size + 2) (by omega)) (.slice (some ⟨gx, 0, none⟩) n1 px) (.slice (some ⟨gy, 0, none⟩) n2 py) (.int .i64 a) (.int .i64 b) (.int .i64 bd) (by omega)))))
  generalize ((((((wy.setCell ⟨w.heap.size + 2, 1, none⟩ (.slice (some ⟨gy, 0, none⟩) n2 py))).setCell ⟨w.heap.size + 1, 0, none⟩ (.slice (some ⟨gx, 0, none⟩) n1 px)).setCell ⟨w.heap.size + 1, 1, none⟩ (.slice (some ⟨gy, 0, none⟩) n2 py)).setCell ⟨w.heap.size + 1, 2, none⟩ (.int .i64 a)).setCell ⟨w.heap.size + 1, 3, none⟩ (.int .i64 b)).setCell ⟨w.heap.size + 1, 4, none⟩ (.int .i64 bd) = WE at EN ⊢
  obtain ⟨⟨er0, ey0⟩, ⟨er1, ey1⟩, ⟨er2, ey2⟩, ⟨er3, ey3⟩, ⟨er4, ey4⟩⟩ := EN.out.1
  exact bodyPost_ret (v := .tuple #[.agg #[.slice (some ⟨gx, 0, none⟩) n1 px, .slice (some ⟨gy, 0, none⟩) n2 py, .int .i64 a, .int .i64 b, .int .i64 bd], .int .i64 0]) (by simp [results, Tryz.results75, go_sem, er0, er1, er2, er3, er4]) rfl ⟨HS.out _ _ _ _ rfl (EN.out.2.2.1.mono (by omega)) (EN.out.2.2.2.mono (by omega)), EN.out.2.1⟩
set_option maxHeartbeats 4000000 in
set_option maxRecDepth 100000 in
theorem dmake_two (o : Opr) (ax : Option Addr) (cx : Nat) (ay : Option Addr) (cy : Nat) (a b : Int) (w : World) (h : okO o a b = true) (k3 : o.kd = 2) (hA : OpAt w o ax cx ay cy) (hF : OpFits o) :
    Calls Tryz.prog 75 #[opV o ax cx ay cy, .int .i64 a, .int .i64 b] w fun e w' => MakeRef w.heap.size e w' (opCode o a b) (stgOf o a b) ∧ Below w.heap.size w w' := by
  obtain ⟨⟨k0, k1⟩, ⟨b0, b1⟩, ⟨a0, a1⟩, ⟨h0, h1⟩, hr⟩ := (okO_iff o a b).1 h
  have S1 := dside12_yes a a0 a1
  have S2 := dside12_yes b h0 h1
  have CW := fun w (hr : RowAt .i64 w ax o.xs) => refuser_any o.xs ax cx w hr hF.xs.all (by have := hF.lx; unfold maxLen at this; omega)
  have CV := fun w (hr : RowAt .i64 w ay o.ys) => refuser_any o.ys ay cy w hr hF.ys.all (by have := hF.ly; unfold maxLen at this; omega)
  have hW : wCode o = if userCode o.xs ≠ 0 then userCode o.xs else userCode o.ys := (if_neg (by omega)).trans (if_neg (by omega))
  have hxo : wX o = userOut o.xs := (if_neg (by omega)).trans (if_neg (by omega))
  have hyo : wY o = userOut o.ys := (if_neg (by omega)).trans (if_neg (by omega))
  have hcode : opCode o a b = if userCode o.xs ≠ 0 then userCode o.xs else if userCode o.ys ≠ 0 then userCode o.ys else if filCode (userOut o.xs) a ≠ 0 then filCode (userOut o.xs) a else filCode (userOut o.ys) b := by
    unfold opCode xCode yCode
    rw [h, if_neg (by decide), hW, hxo, hyo, if_neg (show ¬ o.kd = 3 by omega), if_neg (show ¬ o.kd = 3 by omega)]
    by_cases g : userCode o.xs = 0
    · rw [if_neg (show ¬ (userCode o.xs ≠ 0) from fun q => q g), if_neg (show ¬ (userCode o.xs ≠ 0) from fun q => q g)]
      by_cases g2 : userCode o.ys = 0
      · rw [if_neg (fun q => q.2 g2), if_neg (show ¬ (userCode o.ys ≠ 0) from fun q => q g2)]
      · rw [if_pos ⟨by omega, g2⟩, if_pos g2]
    · rw [if_pos g, if_pos ⟨by omega, g⟩, if_pos g]
  have hX : (stgOf o a b).lx = filTo (userOut o.xs) a.toNat := by show xLines o a = _; unfold xLines; rw [if_neg (by omega), hxo]
  have hY : (stgOf o a b).ly = filTo (userOut o.ys) b.toNat := by show yLines o b = _; unfold yLines; rw [if_neg (by omega), hyo]
  have hlx := filTo_len (userOut o.xs) a.toNat
  have hly := filTo_len (userOut o.ys) b.toNat
  have hlen := fun e : userCode o.xs = 0 => (userOut_lenO e).2
  have hlen2 := fun e : userCode o.ys = 0 => (userOut_lenO e).2
  have h64 := userOut_64 o.xs
  have h64' := userOut_64 o.ys
  have CX := fun (ad : Option Addr) (cap : Nat) (hl : (userOut o.xs).length ≤ 1048576) (w : World) (hr : RowAt .i64 w ad (userOut o.xs)) => reffilter_any (userOut o.xs) ad cap a w hr h64 (by omega)
  have CY := fun (ad : Option Addr) (cap : Nat) (hl : (userOut o.ys).length ≤ 1048576) (w : World) (hr : RowAt .i64 w ad (userOut o.ys)) => reffilter_any (userOut o.ys) ad cap b w hr h64' (by omega)
  have HAX := hide hA.1
  have HAY := hide hA.2.1
  rw [hcode]
  have HS := hide (fun (e : Ending) (w' : World) (x y : Value) (he : e = .returned (.tuple #[.agg #[x, y, .int .i64 a, .int .i64 b, .int .i64 o.bd], .int .i64 0])) (hx : OwnLs 100 w' w.heap.size x (filTo (userOut o.xs) a.toNat)) (hy : OwnLs 100 w' w.heap.size y (filTo (userOut o.ys) b.toNat)) => show MakeRef w.heap.size e w' 0 (stgOf o a b) from .inr ⟨rfl, x, y, he, by rw [hX]; exact hx, by rw [hY]; exact hy⟩)
  have HZ := hide (fun (w' : World) (k : Int) (hk : k ≠ 0) => show MakeRef w.heap.size (.returned (.tuple #[.agg #[.slice none 0 0, .slice none 0 0, .int .i64 0, .int .i64 0, .int .i64 0], .int .i64 k])) w' k (stgOf o a b) from .inl ⟨hk, rfl⟩)
  unfold opV
  clear hX hY hcode h
  clear hr hW hxo hyo h64 h64' hA hF
  generalize filTo (userOut o.xs) a.toNat = LX at *
  generalize filTo (userOut o.ys) b.toNat = LY at *
  generalize filCode (userOut o.xs) a = kx at *
  generalize filCode (userOut o.ys) b = ky at *
  generalize userOut o.xs = WL at *
  generalize userOut o.ys = WM at *
  generalize userCode o.xs = kw at *
  generalize userCode o.ys = kv at *
  generalize stgOf o a b = ST at *
  obtain ⟨kd, bd, sg, rd, xs, ys, fl, wd, ht⟩ := o
  simp only at *
  subst k3
  generalize xs.length = nx at *
  generalize ys.length = ny at *
  obtain ⟨nw, hnw⟩ : ∃ n, WL.length = n := ⟨_, rfl⟩
  obtain ⟨nm, hnm⟩ : ∃ n, WM.length = n := ⟨_, rfl⟩
  rw [hnw] at hlen CX
  rw [hnm] at hlen2 CY
  have NX : LX ≠ [] := fun e => by rw [e] at hlx; simp at hlx; omega
  have NY : LY ≠ [] := fun e => by rw [e] at hly; simp at hly; omega
  obtain ⟨n1, hn1⟩ : ∃ n, LX.length = n := ⟨_, rfl⟩
  obtain ⟨n2, hn2⟩ : ∃ n, LY.length = n := ⟨_, rfl⟩
  replace NX : ∀ {w : World} {base : Nat} {v : Value}, OwnLs 100 w base v LX → ∃ g cap, v = .slice (some ⟨g, 0, none⟩) n1 cap ∧ g < w.heap.size ∧ LinesAt w g LX := fun h => by rw [← hn1]; exact h.read NX
  replace NY : ∀ {w : World} {base : Nat} {v : Value}, OwnLs 100 w base v LY → ∃ g cap, v = .slice (some ⟨g, 0, none⟩) n2 cap ∧ g < w.heap.size ∧ LinesAt w g LY := fun h => by rw [← hn2]; exact h.read NY
  clear k0 k1 hlx hly h0 h1 a0 a1 hn1 hn2
  have HR3 := hide (show S5 (((w.alloc (.cells #[.int .i64 2, .int .i64 bd, .int .i64 sg, .int .i64 rd, .slice ax nx cx, .slice ay ny cy, .int .i64 fl, .int .i64 wd, .int .i64 ht] 119)).alloc (.cells #[.slice none 0 0, .slice none 0 0, .int .i64 0, .int .i64 0, .int .i64 0] 57)).alloc (.cells #[.slice none 0 0, .slice none 0 0, .int .i64 a, .int .i64 b, .int .i64 bd] 57)) (w.heap.size + 1) (.slice none 0 0) (.slice none 0 0) (.int .i64 0) (.int .i64 0) (.int .i64 0) from by simpa using (S5.new (w.alloc (.cells #[.int .i64 2, .int .i64 bd, .int .i64 sg, .int .i64 rd, .slice ax nx cx, .slice ay ny cy, .int .i64 fl, .int .i64 wd, .int .i64 ht] 119)) 57 (.slice none 0 0) (.slice none 0 0) (.int .i64 0) (.int .i64 0) (.int .i64 0)).below (below1 ((w.alloc (.cells #[.int .i64 2, .int .i64 bd, .int .i64 sg, .int .i64 rd, .slice ax nx cx, .slice ay ny cy, .int .i64 fl, .int .i64 wd, .int .i64 ht] 119)).alloc (.cells #[.slice none 0 0, .slice none 0 0, .int .i64 0, .int .i64 0, .int .i64 0] 57)) (.cells #[.slice none 0 0, .slice none 0 0, .int .i64 a, .int .i64 b, .int .i64 bd] 57)))
  have HS3 := hide (show S5 (((w.alloc (.cells #[.int .i64 2, .int .i64 bd, .int .i64 sg, .int .i64 rd, .slice ax nx cx, .slice ay ny cy, .int .i64 fl, .int .i64 wd, .int .i64 ht] 119)).alloc (.cells #[.slice none 0 0, .slice none 0 0, .int .i64 0, .int .i64 0, .int .i64 0] 57)).alloc (.cells #[.slice none 0 0, .slice none 0 0, .int .i64 a, .int .i64 b, .int .i64 bd] 57)) (w.heap.size + 2) (.slice none 0 0) (.slice none 0 0) (.int .i64 a) (.int .i64 b) (.int .i64 bd) from by simpa using S5.new ((w.alloc (.cells #[.int .i64 2, .int .i64 bd, .int .i64 sg, .int .i64 rd, .slice ax nx cx, .slice ay ny cy, .int .i64 fl, .int .i64 wd, .int .i64 ht] 119)).alloc (.cells #[.slice none 0 0, .slice none 0 0, .int .i64 0, .int .i64 0, .int .i64 0] 57)) 57 (.slice none 0 0) (.slice none 0 0) (.int .i64 a) (.int .i64 b) (.int .i64 bd))
  have HB3 := hide (show Below w.heap.size w (((w.alloc (.cells #[.int .i64 2, .int .i64 bd, .int .i64 sg, .int .i64 rd, .slice ax nx cx, .slice ay ny cy, .int .i64 fl, .int .i64 wd, .int .i64 ht] 119)).alloc (.cells #[.slice none 0 0, .slice none 0 0, .int .i64 0, .int .i64 0, .int .i64 0] 57)).alloc (.cells #[.slice none 0 0, .slice none 0 0, .int .i64 a, .int .i64 b, .int .i64 bd] 57)) from ba (ba (below1 _ _) _) _)
  by_cases zw : kw = 0
  case neg =>
    rw [if_pos zw]
    have qz : (kw != 0) = true := bne_iff_ne.2 zw
    have qy : (kw == 0) = false := beq_eq_false_iff_ne.2 zw
    go_enter Tryz.func75, Tryz.ntmps75
    go_wp2_with (first
      | (go_at_call 105; (with_reducible refine (S1 _).mono ?_); rintro e wz ⟨rfl, rfl⟩)
      | (go_at_call 105; (with_reducible refine (S2 _).mono ?_); rintro e wz ⟨rfl, rfl⟩)
      | (go_at_call 109; (with_reducible refine (CW _ (HAX.out.below HB3.out)).mono ?_); rintro e wu ⟨v, rfl, hv, bu⟩; obtain ⟨av, cv, rfl, hrv⟩ := hv.formn hnw; have HRU := hide hrv; clear hv hrv; have RU := hide (HR3.out.below bu); have SU := hide (HS3.out.below bu); have BU := hide (bt HB3.out bu); have s9 := bu.size; have ru := RU.out; obtain ⟨⟨hr0, hy0⟩, ⟨hr1, hy1⟩, ⟨hr2, hy2⟩, ⟨hr3, hy3⟩, ⟨hr4, hy4⟩⟩ := ru; have su := SU.out; obtain ⟨⟨kr0, ky0⟩, ⟨kr1, ky1⟩, ⟨kr2, ky2⟩, ⟨kr3, ky3⟩, ⟨kr4, ky4⟩⟩ := su; have p5 := cb bu (b := w.heap.size) (o := 5) (v := .slice ay ny cy) (by simp; omega) (by simp [go_sem]))
      | (go_at_call 109; (with_reducible refine (CV _ (HAY.out.below BU.out)).mono ?_); rintro e wv ⟨v2, rfl, hv, bv⟩; obtain ⟨av2, cv2, rfl, hrv⟩ := hv.formn hnm; have HRV := hide hrv; clear hv hrv; have RV := hide (RU.out.below bv); have SVV := hide (SU.out.below bv); have BV := hide (bt BU.out bv); have s0 := bv.size; have rv := RV.out; obtain ⟨⟨fr0, fy0⟩, ⟨fr1, fy1⟩, ⟨fr2, fy2⟩, ⟨fr3, fy3⟩, ⟨fr4, fy4⟩⟩ := rv; have sv := SVV.out; obtain ⟨⟨gr0, gy0⟩, ⟨gr1, gy1⟩, ⟨gr2, gy2⟩, ⟨gr3, gy3⟩, ⟨gr4, gy4⟩⟩ := sv))
    have EN := hide (And.intro (S5.fill (R := w.heap.size + 1) (RV.out) (.slice none 0 0) (.slice none 0 0) (.int .i64 0) (.int .i64 0) (.int .i64 0)) (below_fill (R := w.heap.size + 1) (BV.out) (Nat.le_add_right _ 1) (.slice none 0 0) (.slice none 0 0) (.int .i64 0) (.int .i64 0) (.int .i64 0)))
    generalize (((((wv).setCell ⟨w.heap.size + 1, 0, none⟩ (.slice none 0 0)).setCell ⟨w.heap.size + 1, 1, none⟩ (.slice none 0 0)).setCell ⟨w.heap.size + 1, 2, none⟩ (.int .i64 0)).setCell ⟨w.heap.size + 1, 3, none⟩ (.int .i64 0)).setCell ⟨w.heap.size + 1, 4, none⟩ (.int .i64 0) = WE at EN ⊢
    obtain ⟨⟨er0, ey0⟩, ⟨er1, ey1⟩, ⟨er2, ey2⟩, ⟨er3, ey3⟩, ⟨er4, ey4⟩⟩ := EN.out.1
    exact bodyPost_ret (v := .tuple #[.agg #[.slice none 0 0, .slice none 0 0, .int .i64 0, .int .i64 0, .int .i64 0], .int .i64 kw]) (by simp [results, Tryz.results75, go_sem, er0, er1, er2, er3, er4]) rfl ⟨HZ.out _ _ zw, EN.out.2⟩
  subst zw
  rw [if_neg (by decide)]
  by_cases zv : kv = 0
  case neg =>
    rw [if_pos zv]
    have qz : (kv != 0) = true := bne_iff_ne.2 zv
    go_enter Tryz.func75, Tryz.ntmps75
    go_wp2_with (first
      | (go_at_call 105; (with_reducible refine (S1 _).mono ?_); rintro e wz ⟨rfl, rfl⟩)
      | (go_at_call 105; (with_reducible refine (S2 _).mono ?_); rintro e wz ⟨rfl, rfl⟩)
      | (go_at_call 109; (with_reducible refine (CW _ (HAX.out.below HB3.out)).mono ?_); rintro e wu ⟨v, rfl, hv, bu⟩; obtain ⟨av, cv, rfl, hrv⟩ := hv.formn hnw; have HRU := hide hrv; clear hv hrv; have RU := hide (HR3.out.below bu); have SU := hide (HS3.out.below bu); have BU := hide (bt HB3.out bu); have s9 := bu.size; have ru := RU.out; obtain ⟨⟨hr0, hy0⟩, ⟨hr1, hy1⟩, ⟨hr2, hy2⟩, ⟨hr3, hy3⟩, ⟨hr4, hy4⟩⟩ := ru; have su := SU.out; obtain ⟨⟨kr0, ky0⟩, ⟨kr1, ky1⟩, ⟨kr2, ky2⟩, ⟨kr3, ky3⟩, ⟨kr4, ky4⟩⟩ := su; have p5 := cb bu (b := w.heap.size) (o := 5) (v := .slice ay ny cy) (by simp; omega) (by simp [go_sem]))
      | (go_at_call 109; (with_reducible refine (CV _ (HAY.out.below BU.out)).mono ?_); rintro e wv ⟨v2, rfl, hv, bv⟩; obtain ⟨av2, cv2, rfl, hrv⟩ := hv.formn hnm; have HRV := hide hrv; clear hv hrv; have RV := hide (RU.out.below bv); have SVV := hide (SU.out.below bv); have BV := hide (bt BU.out bv); have s0 := bv.size; have rv := RV.out; obtain ⟨⟨fr0, fy0⟩, ⟨fr1, fy1⟩, ⟨fr2, fy2⟩, ⟨fr3, fy3⟩, ⟨fr4, fy4⟩⟩ := rv; have sv := SVV.out; obtain ⟨⟨gr0, gy0⟩, ⟨gr1, gy1⟩, ⟨gr2, gy2⟩, ⟨gr3, gy3⟩, ⟨gr4, gy4⟩⟩ := sv))
    have EN := hide (And.intro (S5.fill (R := w.heap.size + 1) (RV.out) (.slice none 0 0) (.slice none 0 0) (.int .i64 0) (.int .i64 0) (.int .i64 0)) (below_fill (R := w.heap.size + 1) (BV.out) (Nat.le_add_right _ 1) (.slice none 0 0) (.slice none 0 0) (.int .i64 0) (.int .i64 0) (.int .i64 0)))
    generalize (((((wv).setCell ⟨w.heap.size + 1, 0, none⟩ (.slice none 0 0)).setCell ⟨w.heap.size + 1, 1, none⟩ (.slice none 0 0)).setCell ⟨w.heap.size + 1, 2, none⟩ (.int .i64 0)).setCell ⟨w.heap.size + 1, 3, none⟩ (.int .i64 0)).setCell ⟨w.heap.size + 1, 4, none⟩ (.int .i64 0) = WE at EN ⊢
    obtain ⟨⟨er0, ey0⟩, ⟨er1, ey1⟩, ⟨er2, ey2⟩, ⟨er3, ey3⟩, ⟨er4, ey4⟩⟩ := EN.out.1
    exact bodyPost_ret (v := .tuple #[.agg #[.slice none 0 0, .slice none 0 0, .int .i64 0, .int .i64 0, .int .i64 0], .int .i64 kv]) (by simp [results, Tryz.results75, go_sem, er0, er1, er2, er3, er4]) rfl ⟨HZ.out _ _ zv, EN.out.2⟩
  subst zv
  rw [if_neg (by decide)]
  have HL := hlen rfl
  have HL2 := hlen2 rfl
  by_cases zx : kx = 0
  case neg =>
    rw [if_pos zx]
    have qz : (kx != 0) = true := bne_iff_ne.2 zx
    go_enter Tryz.func75, Tryz.ntmps75
    go_wp2_with (first
      | (go_at_call 105; (with_reducible refine (S1 _).mono ?_); rintro e wz ⟨rfl, rfl⟩)
      | (go_at_call 105; (with_reducible refine (S2 _).mono ?_); rintro e wz ⟨rfl, rfl⟩)
      | (go_at_call 109; (with_reducible refine (CW _ (HAX.out.below HB3.out)).mono ?_); rintro e wu ⟨v, rfl, hv, bu⟩; obtain ⟨av, cv, rfl, hrv⟩ := hv.formn hnw; have HRU := hide hrv; clear hv hrv; have RU := hide (HR3.out.below bu); have SU := hide (HS3.out.below bu); have BU := hide (bt HB3.out bu); have s9 := bu.size; have ru := RU.out; obtain ⟨⟨hr0, hy0⟩, ⟨hr1, hy1⟩, ⟨hr2, hy2⟩, ⟨hr3, hy3⟩, ⟨hr4, hy4⟩⟩ := ru; have su := SU.out; obtain ⟨⟨kr0, ky0⟩, ⟨kr1, ky1⟩, ⟨kr2, ky2⟩, ⟨kr3, ky3⟩, ⟨kr4, ky4⟩⟩ := su; have p5 := cb bu (b := w.heap.size) (o := 5) (v := .slice ay ny cy) (by simp; omega) (by simp [go_sem]))
      | (go_at_call 109; (with_reducible refine (CV _ (HAY.out.below BU.out)).mono ?_); rintro e wv ⟨v2, rfl, hv, bv⟩; obtain ⟨av2, cv2, rfl, hrv⟩ := hv.formn hnm; have HRV := hide hrv; clear hv hrv; have RV := hide (RU.out.below bv); have SVV := hide (SU.out.below bv); have BV := hide (bt BU.out bv); have s0 := bv.size; have rv := RV.out; obtain ⟨⟨fr0, fy0⟩, ⟨fr1, fy1⟩, ⟨fr2, fy2⟩, ⟨fr3, fy3⟩, ⟨fr4, fy4⟩⟩ := rv; have sv := SVV.out; obtain ⟨⟨gr0, gy0⟩, ⟨gr1, gy1⟩, ⟨gr2, gy2⟩, ⟨gr3, gy3⟩, ⟨gr4, gy4⟩⟩ := sv)
      | (go_at_call 110; (with_reducible refine (CX _ _ HL _ (HRU.out.below bv)).mono ?_); rintro e wx ⟨x, rfl, ox, zv, bx⟩; have RA := hide ((RV.out).below bx); have SA := hide ((SVV.out).below bx); have BA := hide (bt (BV.out) bx); have s1 := bx.size; obtain rfl := zv zx; have ra := RA.out; obtain ⟨⟨ar0, ay0⟩, ⟨ar1, ay1⟩, ⟨ar2, ay2⟩, ⟨ar3, ay3⟩, ⟨ar4, ay4⟩⟩ := ra; have sa := SA.out; obtain ⟨⟨br0, by0⟩, ⟨br1, by1⟩, ⟨br2, by2⟩, ⟨br3, by3⟩, ⟨br4, by4⟩⟩ := sa))
    have EN := hide (And.intro (S5.fill (R := w.heap.size + 1) ((RA.out).other (b := w.heap.size + 2) (o := 0) (u := .slice none 0 0) (by omega)) (.slice none 0 0) (.slice none 0 0) (.int .i64 0) (.int .i64 0) (.int .i64 0)) (below_fill (R := w.heap.size + 1) (bs (BA.out) (b := w.heap.size + 2) (Nat.le_add_right _ 2) (o := 0) (.slice none 0 0)) (Nat.le_add_right _ 1) (.slice none 0 0) (.slice none 0 0) (.int .i64 0) (.int .i64 0) (.int .i64 0)))
    generalize ((((((wx.setCell ⟨w.heap.size + 2, 0, none⟩ (.slice none 0 0))).setCell ⟨w.heap.size + 1, 0, none⟩ (.slice none 0 0)).setCell ⟨w.heap.size + 1, 1, none⟩ (.slice none 0 0)).setCell ⟨w.heap.size + 1, 2, none⟩ (.int .i64 0)).setCell ⟨w.heap.size + 1, 3, none⟩ (.int .i64 0)).setCell ⟨w.heap.size + 1, 4, none⟩ (.int .i64 0) = WE at EN ⊢
    obtain ⟨⟨er0, ey0⟩, ⟨er1, ey1⟩, ⟨er2, ey2⟩, ⟨er3, ey3⟩, ⟨er4, ey4⟩⟩ := EN.out.1
    exact bodyPost_ret (v := .tuple #[.agg #[.slice none 0 0, .slice none 0 0, .int .i64 0, .int .i64 0, .int .i64 0], .int .i64 kx]) (by simp [results, Tryz.results75, go_sem, er0, er1, er2, er3, er4]) rfl ⟨HZ.out _ _ zx, EN.out.2⟩
  subst zx
  rw [if_neg (by decide)]
  by_cases zy : ky = 0
  case neg =>
    have qz : (ky != 0) = true := bne_iff_ne.2 zy
    go_enter Tryz.func75, Tryz.ntmps75
    go_wp2_with (first
      | (go_at_call 105; (with_reducible refine (S1 _).mono ?_); rintro e wz ⟨rfl, rfl⟩)
      | (go_at_call 105; (with_reducible refine (S2 _).mono ?_); rintro e wz ⟨rfl, rfl⟩)
      | (go_at_call 109; (with_reducible refine (CW _ (HAX.out.below HB3.out)).mono ?_); rintro e wu ⟨v, rfl, hv, bu⟩; obtain ⟨av, cv, rfl, hrv⟩ := hv.formn hnw; have HRU := hide hrv; clear hv hrv; have RU := hide (HR3.out.below bu); have SU := hide (HS3.out.below bu); have BU := hide (bt HB3.out bu); have s9 := bu.size; have ru := RU.out; obtain ⟨⟨hr0, hy0⟩, ⟨hr1, hy1⟩, ⟨hr2, hy2⟩, ⟨hr3, hy3⟩, ⟨hr4, hy4⟩⟩ := ru; have su := SU.out; obtain ⟨⟨kr0, ky0⟩, ⟨kr1, ky1⟩, ⟨kr2, ky2⟩, ⟨kr3, ky3⟩, ⟨kr4, ky4⟩⟩ := su; have p5 := cb bu (b := w.heap.size) (o := 5) (v := .slice ay ny cy) (by simp; omega) (by simp [go_sem]))
      | (go_at_call 109; (with_reducible refine (CV _ (HAY.out.below BU.out)).mono ?_); rintro e wv ⟨v2, rfl, hv, bv⟩; obtain ⟨av2, cv2, rfl, hrv⟩ := hv.formn hnm; have HRV := hide hrv; clear hv hrv; have RV := hide (RU.out.below bv); have SVV := hide (SU.out.below bv); have BV := hide (bt BU.out bv); have s0 := bv.size; have rv := RV.out; obtain ⟨⟨fr0, fy0⟩, ⟨fr1, fy1⟩, ⟨fr2, fy2⟩, ⟨fr3, fy3⟩, ⟨fr4, fy4⟩⟩ := rv; have sv := SVV.out; obtain ⟨⟨gr0, gy0⟩, ⟨gr1, gy1⟩, ⟨gr2, gy2⟩, ⟨gr3, gy3⟩, ⟨gr4, gy4⟩⟩ := sv)
      | (go_at_call 110; (with_reducible refine (CX _ _ HL _ (HRU.out.below bv)).mono ?_); rintro e wx ⟨x, rfl, ox, zv, bx⟩; have RA := hide ((RV.out).below bx); have SA := hide ((SVV.out).below bx); have BA := hide (bt (BV.out) bx); have s1 := bx.size; obtain ⟨gx, px, rfl, _, _⟩ := NX (ox (by trivial)); have OX := hide (OwnLs.mono (ox (by trivial)) (base' := w.heap.size + 3) (by simp at s0 s9 ⊢; omega)); have ra := RA.out; obtain ⟨⟨ar0, ay0⟩, ⟨ar1, ay1⟩, ⟨ar2, ay2⟩, ⟨ar3, ay3⟩, ⟨ar4, ay4⟩⟩ := ra; have sa := SA.out; obtain ⟨⟨br0, by0⟩, ⟨br1, by1⟩, ⟨br2, by2⟩, ⟨br3, by3⟩, ⟨br4, by4⟩⟩ := sa; clear ox)
      | (go_at_call 110; (with_reducible refine (CY _ _ HL2 _ (row_put_other (HRV.out.below bx) br0 (fun _ q => by cases q))).mono ?_); rintro e wy ⟨y, rfl, oy, zv2, by_⟩; have RB := hide (((RA.out).other (b := w.heap.size + 2) (o := 0) (u := .slice (some ⟨gx, 0, none⟩) n1 px) (by omega)).below by_); have SB := hide ((SA.out.set0 (.slice (some ⟨gx, 0, none⟩) n1 px)).below by_); have BB := hide (bt (bs (BA.out) (b := w.heap.size + 2) (Nat.le_add_right _ 2) (o := 0) (.slice (some ⟨gx, 0, none⟩) n1 px)) by_); have s2 := by_.size; obtain rfl := zv2 zy; have rb := RB.out; obtain ⟨⟨cr0, cy0⟩, ⟨cr1, cy1⟩, ⟨cr2, cy2⟩, ⟨cr3, cy3⟩, ⟨cr4, cy4⟩⟩ := rb; have sb := SB.out; obtain ⟨⟨dr0, dy0⟩, ⟨dr1, dy1⟩, ⟨dr2, dy2⟩, ⟨dr3, dy3⟩, ⟨dr4, dy4⟩⟩ := sb))
    have EN := hide (And.intro (S5.fill (R := w.heap.size + 1) ((RB.out).other (b := w.heap.size + 2) (o := 1) (u := .slice none 0 0) (by omega)) (.slice none 0 0) (.slice none 0 0) (.int .i64 0) (.int .i64 0) (.int .i64 0)) (below_fill (R := w.heap.size + 1) (bs (BB.out) (b := w.heap.size + 2) (Nat.le_add_right _ 2) (o := 1) (.slice none 0 0)) (Nat.le_add_right _ 1) (.slice none 0 0) (.slice none 0 0) (.int .i64 0) (.int .i64 0) (.int .i64 0)))
    generalize ((((((wy.setCell ⟨w.heap.size + 2, 1, none⟩ (.slice none 0 0))).setCell ⟨w.heap.size + 1, 0, none⟩ (.slice none 0 0)).setCell ⟨w.heap.size + 1, 1, none⟩ (.slice none 0 0)).setCell ⟨w.heap.size + 1, 2, none⟩ (.int .i64 0)).setCell ⟨w.heap.size + 1, 3, none⟩ (.int .i64 0)).setCell ⟨w.heap.size + 1, 4, none⟩ (.int .i64 0) = WE at EN ⊢
    obtain ⟨⟨er0, ey0⟩, ⟨er1, ey1⟩, ⟨er2, ey2⟩, ⟨er3, ey3⟩, ⟨er4, ey4⟩⟩ := EN.out.1
    exact bodyPost_ret (v := .tuple #[.agg #[.slice none 0 0, .slice none 0 0, .int .i64 0, .int .i64 0, .int .i64 0], .int .i64 ky]) (by simp [results, Tryz.results75, go_sem, er0, er1, er2, er3, er4]) rfl ⟨HZ.out _ _ zy, EN.out.2⟩
  subst zy
  go_enter Tryz.func75, Tryz.ntmps75
  go_wp2_with (first
    | (go_at_call 105; (with_reducible refine (S1 _).mono ?_); rintro e wz ⟨rfl, rfl⟩)
    | (go_at_call 105; (with_reducible refine (S2 _).mono ?_); rintro e wz ⟨rfl, rfl⟩)
    | (go_at_call 109; (with_reducible refine (CW _ (HAX.out.below HB3.out)).mono ?_); rintro e wu ⟨v, rfl, hv, bu⟩; obtain ⟨av, cv, rfl, hrv⟩ := hv.formn hnw; have HRU := hide hrv; clear hv hrv; have RU := hide (HR3.out.below bu); have SU := hide (HS3.out.below bu); have BU := hide (bt HB3.out bu); have s9 := bu.size; have ru := RU.out; obtain ⟨⟨hr0, hy0⟩, ⟨hr1, hy1⟩, ⟨hr2, hy2⟩, ⟨hr3, hy3⟩, ⟨hr4, hy4⟩⟩ := ru; have su := SU.out; obtain ⟨⟨kr0, ky0⟩, ⟨kr1, ky1⟩, ⟨kr2, ky2⟩, ⟨kr3, ky3⟩, ⟨kr4, ky4⟩⟩ := su; have p5 := cb bu (b := w.heap.size) (o := 5) (v := .slice ay ny cy) (by simp; omega) (by simp [go_sem]))
    | (go_at_call 109; (with_reducible refine (CV _ (HAY.out.below BU.out)).mono ?_); rintro e wv ⟨v2, rfl, hv, bv⟩; obtain ⟨av2, cv2, rfl, hrv⟩ := hv.formn hnm; have HRV := hide hrv; clear hv hrv; have RV := hide (RU.out.below bv); have SVV := hide (SU.out.below bv); have BV := hide (bt BU.out bv); have s0 := bv.size; have rv := RV.out; obtain ⟨⟨fr0, fy0⟩, ⟨fr1, fy1⟩, ⟨fr2, fy2⟩, ⟨fr3, fy3⟩, ⟨fr4, fy4⟩⟩ := rv; have sv := SVV.out; obtain ⟨⟨gr0, gy0⟩, ⟨gr1, gy1⟩, ⟨gr2, gy2⟩, ⟨gr3, gy3⟩, ⟨gr4, gy4⟩⟩ := sv)
    | (go_at_call 110; (with_reducible refine (CX _ _ HL _ (HRU.out.below bv)).mono ?_); rintro e wx ⟨x, rfl, ox, zv, bx⟩; have RA := hide ((RV.out).below bx); have SA := hide ((SVV.out).below bx); have BA := hide (bt (BV.out) bx); have s1 := bx.size; obtain ⟨gx, px, rfl, _, _⟩ := NX (ox (by trivial)); have OX := hide (OwnLs.mono (ox (by trivial)) (base' := w.heap.size + 3) (by simp at s0 s9 ⊢; omega)); have ra := RA.out; obtain ⟨⟨ar0, ay0⟩, ⟨ar1, ay1⟩, ⟨ar2, ay2⟩, ⟨ar3, ay3⟩, ⟨ar4, ay4⟩⟩ := ra; have sa := SA.out; obtain ⟨⟨br0, by0⟩, ⟨br1, by1⟩, ⟨br2, by2⟩, ⟨br3, by3⟩, ⟨br4, by4⟩⟩ := sa; clear ox)
    | (go_at_call 110; (with_reducible refine (CY _ _ HL2 _ (row_put_other (HRV.out.below bx) br0 (fun _ q => by cases q))).mono ?_); rintro e wy ⟨y, rfl, oy, zv2, by_⟩; have RB := hide (((RA.out).other (b := w.heap.size + 2) (o := 0) (u := .slice (some ⟨gx, 0, none⟩) n1 px) (by omega)).below by_); have SB := hide ((SA.out.set0 (.slice (some ⟨gx, 0, none⟩) n1 px)).below by_); have BB := hide (bt (bs (BA.out) (b := w.heap.size + 2) (Nat.le_add_right _ 2) (o := 0) (.slice (some ⟨gx, 0, none⟩) n1 px)) by_); have s2 := by_.size; obtain ⟨gy, py, rfl, _, _⟩ := NY (oy (by trivial)); have OY := hide (OwnLs.mono (oy (by trivial)) (base' := w.heap.size + 3) (by simp at s0 s9 s1 ⊢; omega)); have OX2 := hide ((own_ls_set OX.out 0 (.slice (some ⟨gx, 0, none⟩) n1 px) (b := w.heap.size + 2) (by omega)).below by_); have rb := RB.out; obtain ⟨⟨cr0, cy0⟩, ⟨cr1, cy1⟩, ⟨cr2, cy2⟩, ⟨cr3, cy3⟩, ⟨cr4, cy4⟩⟩ := rb; have sb := SB.out; obtain ⟨⟨dr0, dy0⟩, ⟨dr1, dy1⟩, ⟨dr2, dy2⟩, ⟨dr3, dy3⟩, ⟨dr4, dy4⟩⟩ := sb; clear oy))
  have EN := hide (And.intro (S5.fill (R := w.heap.size + 1) ((RB.out).other (b := w.heap.size + 2) (o := 1) (u := .slice (some ⟨gy, 0, none⟩) n2 py) (by omega)) (.slice (some ⟨gx, 0, none⟩) n1 px) (.slice (some ⟨gy, 0, none⟩) n2 py) (.int .i64 a) (.int .i64 b) (.int .i64 bd)) (And.intro (below_fill (R := w.heap.size + 1) (bs (BB.out) (b := w.heap.size + 2) (Nat.le_add_right _ 2) (o := 1) (.slice (some ⟨gy, 0, none⟩) n2 py)) (Nat.le_add_right _ 1) (.slice (some ⟨gx, 0, none⟩) n1 px) (.slice (some ⟨gy, 0, none⟩) n2 py) (.int .i64 a) (.int .i64 b) (.int .i64 bd)) (And.intro (own_ls_fill (R := w.heap.size + 1) (own_ls_set OX2.out 1 (.slice (some ⟨gy, 0, none⟩) n2 py) (b := w.heap.size + 2) (by omega)) (.slice (some ⟨gx, 0, none⟩) n1 px) (.slice (some ⟨gy, 0, none⟩) n2 py) (.int .i64 a) (.int .i64 b) (.int .i64 bd) (by omega)) (own_ls_fill (R := w.heap.size + 1) (own_ls_set OY.out 1 (.slice (some ⟨gy, 0, none⟩) n2 py) (b := w.heap.size + 2) (by omega)) (.slice (some ⟨gx, 0, none⟩) n1 px) (.slice (some ⟨gy, 0, none⟩) n2 py) (.int .i64 a) (.int .i64 b) (.int .i64 bd) (by omega)))))
  generalize ((((((wy.setCell ⟨w.heap.size + 2, 1, none⟩ (.slice (some ⟨gy, 0, none⟩) n2 py))).setCell ⟨w.heap.size + 1, 0, none⟩ (.slice (some ⟨gx, 0, none⟩) n1 px)).setCell ⟨w.heap.size + 1, 1, none⟩ (.slice (some ⟨gy, 0, none⟩) n2 py)).setCell ⟨w.heap.size + 1, 2, none⟩ (.int .i64 a)).setCell ⟨w.heap.size + 1, 3, none⟩ (.int .i64 b)).setCell ⟨w.heap.size + 1, 4, none⟩ (.int .i64 bd) = WE at EN ⊢
  obtain ⟨⟨er0, ey0⟩, ⟨er1, ey1⟩, ⟨er2, ey2⟩, ⟨er3, ey3⟩, ⟨er4, ey4⟩⟩ := EN.out.1
  exact bodyPost_ret (v := .tuple #[.agg #[.slice (some ⟨gx, 0, none⟩) n1 px, .slice (some ⟨gy, 0, none⟩) n2 py, .int .i64 a, .int .i64 b, .int .i64 bd], .int .i64 0]) (by simp [results, Tryz.results75, go_sem, er0, er1, er2, er3, er4]) rfl ⟨HS.out _ _ _ _ rfl (EN.out.2.2.1.mono (by omega)) (EN.out.2.2.2.mono (by omega)), EN.out.2.1⟩
end Go.Proofs.YtaafhjngnjjcmaaGreatDoor
