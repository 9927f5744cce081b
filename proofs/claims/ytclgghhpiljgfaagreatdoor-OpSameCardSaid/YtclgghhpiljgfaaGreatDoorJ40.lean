/- Parts, joined. -/
import Derived.Test.YtclgghhpiljgfaaGreatDoorJ31
import Derived.Test.YtclgghhpiljgfaaGreatDoorJ36
import Derived.Test.YtclgghhpiljgfaaGreatDoorJ37
import Derived.Test.YtclgghhpiljgfaaGreatDoorJ15
import Derived.Test.YtclgghhpiljgfaaGreatDoorJ34
import Derived.Test.YtclgghhpiljgfaaGreatDoorJ39
import Derived.Test.YtclgghhpiljgfaaGreatDoorRows
/- Operations: the law on one operation, out of what the program's calls answer. -/
namespace Go.Proofs.YtclgghhpiljgfaaGreatDoor
open Go.RowKit


set_option maxHeartbeats 2000000 in
set_option maxRecDepth 100000 in
theorem makes_far {K : World → Prop} (hKB : ∀ w w', K w → Below w.heap.size w w' → K w') (CL : ∀ w, K w → Calls Tryz.prog 8 #[] w fun e w' => e = .returned (.bool true) ∧ Below w.heap.size w w') (o : Opr) (ax : Option Addr) (cx : Nat) (ay : Option Addr) (cy : Nat) (a b : Int) (w : World) (hk : K w) (hA : OpAt w o ax cx ay cy)
    (h : bigB 30 [o] 1 = true ∨ (30 < a ∧ a ≤ 65536) ∨ (30 < b ∧ b ≤ 65536)) :
    Calls Tryz.prog 4 #[opV o ax cx ay cy, .int .i64 a, .int .i64 b] w fun e w' => e = .returned (.bool true) ∧ Below w.heap.size w w' := by
  have CLT : ∀ w', Below w.heap.size w w' → Calls Tryz.prog 12 #[.slice (some ⟨w'.heap.size, 0, none⟩) 1 1, .int .i64 30] (w'.alloc (.cells #[.int .i64 o.kd, .int .i64 o.bd, .int .i64 o.sg, .int .i64 o.rd, .slice ax o.xs.length cx, .slice ay o.ys.length cy, .int .i64 o.fl, .int .i64 o.wd, .int .i64 o.ht] 28)) fun e w'' => e = .returned (.bool (!bigB 30 [o] 1)) ∧ Below (w'.alloc (.cells #[.int .i64 o.kd, .int .i64 o.bd, .int .i64 o.sg, .int .i64 o.rd, .slice ax o.xs.length cx, .slice ay o.ys.length cy, .int .i64 o.fl, .int .i64 o.wd, .int .i64 o.ht] 28)).heap.size (w'.alloc (.cells #[.int .i64 o.kd, .int .i64 o.bd, .int .i64 o.sg, .int .i64 o.rd, .slice ax o.xs.length cx, .slice ay o.ys.length cy, .int .i64 o.fl, .int .i64 o.wd, .int .i64 o.ht] 28)) w'' :=
    fun w' b => little_any [o] 1 rfl (by unfold maxLen; omega) 30 (some ⟨w'.heap.size, 0, none⟩) 1 _ (ops_one w' 28 o ax cx ay cy (hA.below b))
  have CK : ∀ w', Below w.heap.size w w' → K w' := fun w' b => hKB w w' hk b
  have P0 := hide (P9.new w 28 o.kd o.bd o.sg o.rd (.slice ax o.xs.length cx) (.slice ay o.ys.length cy) o.fl o.wd o.ht)
  have hab : bigB 30 [o] 1 = true ∨ (bigB 30 [o] 1 = false ∧ ((30 < a ∧ a ≤ 65536) ∨ (a ≤ 30 ∧ 30 < b ∧ b ≤ 65536) ∨ ((30 < a ∧ 65536 < a) ∧ 30 < b ∧ b ≤ 65536))) := by
    cases e : bigB 30 [o] 1 with
    | true => exact .inl rfl
    | false =>
      rw [e] at h
      refine .inr ⟨rfl, ?_⟩
      rcases h with h | h | h
      · cases h
      · exact .inl h
      · omega
  unfold opV
  generalize bigB 30 [o] 1 = bb at *
  obtain ⟨kd, bd, sg, rd, xs, ys, fl, wd, ht⟩ := o
  simp only at CLT P0 ⊢
  clear hA h hk
  generalize xs.length = nx at *
  generalize ys.length = ny at *
  rcases hab with rfl | ⟨rfl, ⟨c1, c2⟩ | ⟨c1, c2, c3⟩ | ⟨⟨c1, c2⟩, c3, c4⟩⟩
  all_goals
    go_enter Tryz.func4, Tryz.ntmps4
    go_wp2_with (first
      | (go_at_call 8; (with_reducible refine (CL _ (CK _ (below1 _ _))).mono ?_); rintro e w1 ⟨rfl, b1⟩; have P1 := hide ((P0.out).below b1); have B1 := hide (bt (below1 _ _) b1); have p1 := P1.out; obtain ⟨a0, a1, a2, a3, a4, a5, a6, a7, a8⟩ := p1)
      | (go_at_call 12; (with_reducible refine (CLT _ B1.out).mono ?_); rintro e w2 ⟨rfl, b2⟩; have P2 := hide (((P1.out).below (below1 _ _)).below b2); have B2 := hide (bt (ba B1.out _) b2); have p2 := P2.out; obtain ⟨b0, b1, b2, b3, b4, b5, b6, b7, b8⟩ := p2)
      | (go_at_call 8; (with_reducible refine (CL _ (CK _ B2.out)).mono ?_); rintro e wz ⟨rfl, bz⟩; skip))
    go_ret
    exact ⟨rfl, bt B2.out bz⟩
set_option maxHeartbeats 4000000 in
set_option maxRecDepth 100000 in
theorem of_OpMakes {K : World → Prop} (hKB : ∀ w w', K w → Below w.heap.size w w' → K w') (hKK : ∀ w, K w → Kinds w) (CM : OMakeC K) (CS : OSizeC K) (o : Opr) (ax : Option Addr) (cx : Nat) (ay : Option Addr) (cy : Nat) (a b : Int) (w : World) (hk : K w) (hA : OpAt w o ax cx ay cy) (hF : OpFits o) (ha : In64 a) (hb : In64 b) :
    Calls Tryz.prog 4 #[opV o ax cx ay cy, .int .i64 a, .int .i64 b] w fun e w' => e = .returned (.bool true) ∧ Below w.heap.size w w' := by
  have CL : ∀ w, K w → Calls Tryz.prog 8 #[] w fun e w' => e = .returned (.bool true) ∧ Below w.heap.size w w' := fun w hk => olives hKB hKK CM w hk
  by_cases hfar : bigB 30 [o] 1 = true ∨ (30 < a ∧ a ≤ 65536) ∨ (30 < b ∧ b ≤ 65536)
  · exact makes_far hKB CL o ax cx ay cy a b w hk hA hfar
  have hbb : bigB 30 [o] 1 = false := by
    cases e : bigB 30 [o] 1 with
    | false => rfl
    | true => exact absurd (.inl e) hfar
  have hab : (a ≤ 30 ∨ (30 < a ∧ 65536 < a)) ∧ (b ≤ 30 ∨ (30 < b ∧ 65536 < b)) := by
    constructor
    · by_cases g : a ≤ 30
      · exact .inl g
      · exact .inr ⟨by omega, by
          by_cases g2 : a ≤ 65536
          · exact absurd (.inr (.inl ⟨by omega, g2⟩)) hfar
          · omega⟩
    · by_cases g : b ≤ 30
      · exact .inl g
      · exact .inr ⟨by omega, by
          by_cases g2 : b ≤ 65536
          · exact absurd (.inr (.inr ⟨by omega, g2⟩)) hfar
          · omega⟩
  have CLT : ∀ w', Below w.heap.size w w' → Calls Tryz.prog 12 #[.slice (some ⟨w'.heap.size, 0, none⟩) 1 1, .int .i64 30] (w'.alloc (.cells #[.int .i64 o.kd, .int .i64 o.bd, .int .i64 o.sg, .int .i64 o.rd, .slice ax o.xs.length cx, .slice ay o.ys.length cy, .int .i64 o.fl, .int .i64 o.wd, .int .i64 o.ht] 28)) fun e w'' => e = .returned (.bool (!bigB 30 [o] 1)) ∧ Below (w'.alloc (.cells #[.int .i64 o.kd, .int .i64 o.bd, .int .i64 o.sg, .int .i64 o.rd, .slice ax o.xs.length cx, .slice ay o.ys.length cy, .int .i64 o.fl, .int .i64 o.wd, .int .i64 o.ht] 28)).heap.size (w'.alloc (.cells #[.int .i64 o.kd, .int .i64 o.bd, .int .i64 o.sg, .int .i64 o.rd, .slice ax o.xs.length cx, .slice ay o.ys.length cy, .int .i64 o.fl, .int .i64 o.wd, .int .i64 o.ht] 28)) w'' :=
    fun w' b => little_any [o] 1 rfl (by unfold maxLen; omega) 30 (some ⟨w'.heap.size, 0, none⟩) 1 _ (ops_one w' 28 o ax cx ay cy (hA.below b))
  have CK : ∀ w', Below w.heap.size w w' → K w' := fun w' b => hKB w w' hk b
  have P0 := hide (P9.new w 28 o.kd o.bd o.sg o.rd (.slice ax o.xs.length cx) (.slice ay o.ys.length cy) o.fl o.wd o.ht)
  rw [hbb] at CLT
  have CZ := fun w' (b' : Below w.heap.size w w') => CS o ax cx ay cy a b w' (CK w' b')
  have CZ2 := fun w' => dsize12_any o ax cx ay cy a b w'
  have CR := fun w' => ref12_any o ax cx ay cy w'
  have CM1 := fun w' (b' : Below w.heap.size w w') => CM o ax cx ay cy a b w' (CK w' b') (hA.below b') hF ha hb
  have CD1 := fun w' (b' : Below w.heap.size w w') => dmake_any o ax cx ay cy a b w' (hA.below b') hF
  have qa : (toW o a != toW o a) = false := by simp
  have qb : (toH o b != toH o b) = false := by simp
  unfold opV at CZ CZ2 CR CM1 CD1 ⊢
  obtain ⟨ca, cb'⟩ := hab
  clear CM CS hA hF ha hb hk hfar hbb
  by_cases hz : opCode o a b = 0
  · rw [hz] at CM1 CD1
    have CM2 : ∀ w', Below w.heap.size w w' → Calls Tryz.prog 9 #[.agg #[.int .i64 o.kd, .int .i64 o.bd, .int .i64 o.sg, .int .i64 o.rd, .slice ax o.xs.length cx, .slice ay o.ys.length cy, .int .i64 o.fl, .int .i64 o.wd, .int .i64 o.ht], .int .i64 a, .int .i64 b] w' fun e w'' => (∃ x y, e = .returned (.tuple #[.agg #[.pointer (some x), .pointer (some y), .int .i64 (stgOf o a b).sb], .int .i64 0]) ∧ Tab w'' (.pointer (some x)) (stgOf o a b).fx (stgOf o a b).lx ∧ Tab w'' (.pointer (some y)) (stgOf o a b).fy (stgOf o a b).ly) ∧ Below w'.heap.size w' w'' := fun w' b' =>
      (CM1 w' b').mono fun e w'' ⟨hA, hB⟩ => by
        rcases hA with ⟨h0, _⟩ | ⟨_, x, y, he, tx, ty⟩
        · exact absurd rfl h0
        · obtain ⟨ax', rfl⟩ := tx.ptr
          obtain ⟨ay', rfl⟩ := ty.ptr
          exact ⟨⟨ax', ay', he, tx, ty⟩, hB⟩
    have CD2 : ∀ w', Below w.heap.size w w' → (stgOf o a b).lx ≠ [] → (stgOf o a b).ly ≠ [] → Calls Tryz.prog 13 #[.agg #[.int .i64 o.kd, .int .i64 o.bd, .int .i64 o.sg, .int .i64 o.rd, .slice ax o.xs.length cx, .slice ay o.ys.length cy, .int .i64 o.fl, .int .i64 o.wd, .int .i64 o.ht], .int .i64 a, .int .i64 b] w' fun e w'' => (∃ gx px gy py, e = .returned (.tuple #[.agg #[.slice (some ⟨gx, 0, none⟩) (stgOf o a b).lx.length px, .slice (some ⟨gy, 0, none⟩) (stgOf o a b).ly.length py, .int .i64 (stgOf o a b).fx, .int .i64 (stgOf o a b).fy, .int .i64 (stgOf o a b).sb], .int .i64 0]) ∧ LinesAt w'' gx (stgOf o a b).lx ∧ LinesAt w'' gy (stgOf o a b).ly) ∧ Below w'.heap.size w' w'' := fun w' b' n1 n2 =>
      (CD1 w' b').mono fun e w'' ⟨hA, hB⟩ => by
        rcases hA with ⟨h0, _⟩ | ⟨_, x, y, he, ox, oy⟩
        · exact absurd rfl h0
        · obtain ⟨gx, px, rfl, _, rx⟩ := ox.read n1
          obtain ⟨gy, py, rfl, _, ry⟩ := oy.read n2
          exact ⟨⟨gx, px, gy, py, he, rx, ry⟩, hB⟩
    clear CM1 CD1 hz
    generalize toW o a = ta at *
    generalize toH o b = tb at *
    generalize stgOf o a b = S at *
    generalize bigB 30 [o] 1 = bb at *
    obtain ⟨kd, bd, sg, rd, xs, ys, fl, wd, ht⟩ := o
    simp only at CLT P0 CZ CZ2 CR CM2 CD2 ⊢
    generalize xs.length = nx at *
    generalize ys.length = ny at *
    have CSM := fun (x y : Value) (nx ny : Nat) (hx : S.lx.length = nx) (hy : S.ly.length = ny) (gx cx gy cy : Nat) (w : World) tx ty rx ry => same12_any S x y nx ny hx hy gx cx gy cy w tx ty rx ry
    obtain ⟨lx, ly, fx, fy, sb⟩ := S
    simp only at CM2 CD2 CSM
    obtain ⟨n1, hn1⟩ : ∃ n, lx.length = n := ⟨_, rfl⟩
    obtain ⟨n2, hn2⟩ : ∃ n, ly.length = n := ⟨_, rfl⟩
    rw [hn1, hn2] at CD2
    have CSM := CSM
    rcases ca with ca | ⟨ca, ca'⟩ <;> rcases cb' with cb' | ⟨cb', cb''⟩
    all_goals
      go_enter Tryz.func4, Tryz.ntmps4
      go_wp2_with (first
        | (go_at_call 8; (with_reducible refine (CL _ (CK _ (below1 _ _))).mono ?_); rintro e w1 ⟨rfl, b1⟩; have P1 := hide ((P0.out).below b1); have B1 := hide (bt (below1 _ _) b1); have p1 := P1.out; obtain ⟨a0, a1, a2, a3, a4, a5, a6, a7, a8⟩ := p1)
        | (go_at_call 12; (with_reducible refine (CLT _ B1.out).mono ?_); rintro e w2 ⟨rfl, b2⟩; have P2 := hide (((P1.out).below (below1 _ _)).below b2); have B2 := hide (bt (ba B1.out _) b2); have p2 := P2.out; obtain ⟨b0, b1, b2, b3, b4, b5, b6, b7, b8⟩ := p2)
        | (go_at_call 9; (with_reducible refine (CM2 _ B2.out).mono ?_); rintro e w3 ⟨⟨x, y, rfl, tx, ty⟩, b3⟩; have HX := hide tx; have HY := hide ty; have NX : lx ≠ [] := fun e => (by have := tx.ok.2.1; rw [e] at this; exact absurd this (by decide)); have NY : ly ≠ [] := fun e => (by have := ty.ok.2.1; rw [e] at this; exact absurd this (by decide)); clear tx ty; have P3 := hide ((P2.out).below b3); have B3 := hide (bt B2.out b3); have p3 := P3.out.below (below1 w3 (.cells #[.pointer (some x), .pointer (some y), .int .i64 sb] 32)); obtain ⟨c0, c1, c2, c3, c4, c5, c6, c7, c8⟩ := p3)
        | (go_at_call 14; (with_reducible refine (CR _).mono ?_); rintro e w4 ⟨rfl, b4⟩; have P4 := hide (((P3.out).below (below1 _ _)).below b4); have B4 := hide (bt (ba B3.out _) b4); have S4 := hide (t3_below (S3new w3 32 (.pointer (some x)) (.pointer (some y)) (.int .i64 sb)) b4); have p4 := P4.out; obtain ⟨d0, d1, d2, d3, d4, d5, d6, d7, d8⟩ := p4; have s4 := S4.out; obtain ⟨e0, e1, e2⟩ := s4)
        | (go_at_call 13; (with_reducible refine (CD2 _ B4.out NX NY).mono ?_); rintro e w5 ⟨⟨gx, px, gy, py, rfl, rx, ry⟩, b5⟩; have RX := hide rx; have RY := hide ry; clear rx ry; have P5 := hide ((P4.out).below b5); have B5 := hide (bt B4.out b5); have S5' := hide (t3_below S4.out b5); have p5 := P5.out.below (below1 w5 (.cells #[.slice (some ⟨gx, 0, none⟩) n1 px, .slice (some ⟨gy, 0, none⟩) n2 py, .int .i64 fx, .int .i64 fy, .int .i64 sb] 44)); obtain ⟨f0, f1, f2, f3, f4, f5, f6, f7, f8⟩ := p5; have s5 := S5'.out; obtain ⟨g0, g1, g2⟩ := s5)
        | (go_at_call 15; (with_reducible refine (CZ _ (ba B5.out _)).mono ?_); rintro e w6 ⟨rfl, b6⟩; have P6 := hide (((P5.out).below (below1 _ _)).below b6); have B6 := hide (bt (ba B5.out _) b6); have S6 := hide (t3_below (t3_below S5'.out (below1 _ _)) b6); have T6 := hide (S5.below (S5.new w5 44 (.slice (some ⟨gx, 0, none⟩) n1 px) (.slice (some ⟨gy, 0, none⟩) n2 py) (.int .i64 fx) (.int .i64 fy) (.int .i64 sb)) b6); have p6 := P6.out; obtain ⟨h0, h1, h2, h3, h4, h5, h6, h7, h8⟩ := p6; have s6 := S6.out; obtain ⟨i0, i1, i2⟩ := s6; have t6 := T6.out; obtain ⟨⟨j0, _⟩, ⟨j1, _⟩, ⟨j2, _⟩, ⟨j3, _⟩, ⟨j4, _⟩⟩ := t6)
        | (go_at_call 14; (with_reducible refine (CR _).mono ?_); rintro e w7 ⟨rfl, b7⟩; have B7 := hide (bt B6.out b7); have S7 := hide (t3_below S6.out b7); have T7 := hide (S5.below T6.out b7); have s7 := S7.out; obtain ⟨k0, k1, k2⟩ := s7; have t7 := T7.out; obtain ⟨⟨l0, _⟩, ⟨l1, _⟩, ⟨l2, _⟩, ⟨l3, _⟩, ⟨l4, _⟩⟩ := t7)
        | (go_at_call 16; (with_reducible refine (CZ2 _).mono ?_); rintro e w8 ⟨rfl, b8⟩; have B8 := hide (bt B7.out b8); have S8 := hide (t3_below S7.out b8); have T8 := hide (S5.below T7.out b8); have s8 := S8.out; obtain ⟨mm0, mm1, mm2⟩ := s8; have t8 := T8.out; obtain ⟨⟨tt0, _⟩, ⟨tt1, _⟩, ⟨tt2, _⟩, ⟨tt3, _⟩, ⟨tt4, _⟩⟩ := t8)
        | (go_at_call 17; (with_reducible refine (CSM _ _ n1 n2 hn1 hn2 _ _ _ _ _ ((((((((HX.out).below (below1 _ _)).below b4).below b5).below (below1 _ _)).below b6).below b7).below b8) ((((((((HY.out).below (below1 _ _)).below b4).below b5).below (below1 _ _)).below b6).below b7).below b8) (((((RX.out).below (below1 _ _)).below b6).below b7).below b8) (((((RY.out).below (below1 _ _)).below b6).below b7).below b8)).mono ?_); rintro e w9 ⟨rfl, b9⟩; skip))
      go_ret
      exact ⟨rfl, bt B8.out b9⟩
  · have CM2 : ∀ w', Below w.heap.size w w' → Calls Tryz.prog 9 #[.agg #[.int .i64 o.kd, .int .i64 o.bd, .int .i64 o.sg, .int .i64 o.rd, .slice ax o.xs.length cx, .slice ay o.ys.length cy, .int .i64 o.fl, .int .i64 o.wd, .int .i64 o.ht], .int .i64 a, .int .i64 b] w' fun e w'' => e = .returned (.tuple #[.agg #[.pointer none, .pointer none, .int .i64 0], .int .i64 (opCode o a b)]) ∧ Below w'.heap.size w' w'' := fun w' b' =>
      (CM1 w' b').mono fun e w'' ⟨hA, hB⟩ => by
        rcases hA with ⟨_, he⟩ | ⟨h0, _⟩
        · exact ⟨he, hB⟩
        · exact absurd h0 hz
    have CD2 : ∀ w', Below w.heap.size w w' → Calls Tryz.prog 13 #[.agg #[.int .i64 o.kd, .int .i64 o.bd, .int .i64 o.sg, .int .i64 o.rd, .slice ax o.xs.length cx, .slice ay o.ys.length cy, .int .i64 o.fl, .int .i64 o.wd, .int .i64 o.ht], .int .i64 a, .int .i64 b] w' fun e w'' => e = .returned (.tuple #[.agg #[.slice none 0 0, .slice none 0 0, .int .i64 0, .int .i64 0, .int .i64 0], .int .i64 (opCode o a b)]) ∧ Below w'.heap.size w' w'' := fun w' b' =>
      (CD1 w' b').mono fun e w'' ⟨hA, hB⟩ => by
        rcases hA with ⟨_, he⟩ | ⟨h0, _⟩
        · exact ⟨he, hB⟩
        · exact absurd h0 hz
    have qk : (opCode o a b != opCode o a b) = false := by simp
    have qz : (opCode o a b != 0) = true := bne_iff_ne.2 hz
    have q1 : ∀ w : World, (binOp .eql 30 (.pointer none) (.pointer none)).run Tryz.prog w = .ok (.bool true) w := fun w => by kernel_rfl
    clear CM1 CD1 hz
    generalize opCode o a b = kc at *
    generalize toW o a = ta at *
    generalize toH o b = tb at *
    generalize bigB 30 [o] 1 = bb at *
    obtain ⟨kd, bd, sg, rd, xs, ys, fl, wd, ht⟩ := o
    simp only at CLT P0 CZ CZ2 CR CM2 CD2 ⊢
    generalize xs.length = nx at *
    generalize ys.length = ny at *
    rcases ca with ca | ⟨ca, ca'⟩ <;> rcases cb' with cb' | ⟨cb', cb''⟩
    all_goals
      go_enter Tryz.func4, Tryz.ntmps4
      go_wp2_with (first
        | (go_at_call 8; (with_reducible refine (CL _ (CK _ (below1 _ _))).mono ?_); rintro e w1 ⟨rfl, b1⟩; have P1 := hide ((P0.out).below b1); have B1 := hide (bt (below1 _ _) b1); have p1 := P1.out; obtain ⟨a0, a1, a2, a3, a4, a5, a6, a7, a8⟩ := p1)
        | (go_at_call 12; (with_reducible refine (CLT _ B1.out).mono ?_); rintro e w2 ⟨rfl, b2⟩; have P2 := hide (((P1.out).below (below1 _ _)).below b2); have B2 := hide (bt (ba B1.out _) b2); have p2 := P2.out; obtain ⟨b0, b1, b2, b3, b4, b5, b6, b7, b8⟩ := p2)
        | (go_at_call 9; (with_reducible refine (CM2 _ B2.out).mono ?_); rintro e w3 ⟨rfl, b3⟩; have P3 := hide ((P2.out).below b3); have B3 := hide (bt B2.out b3); have p3 := P3.out.below (below1 w3 (.cells #[.pointer none, .pointer none, .int .i64 0] 32)); obtain ⟨c0, c1, c2, c3, c4, c5, c6, c7, c8⟩ := p3)
        | (go_at_call 14; (with_reducible refine (CR _).mono ?_); rintro e w4 ⟨rfl, b4⟩; have P4 := hide (((P3.out).below (below1 _ _)).below b4); have B4 := hide (bt (ba B3.out _) b4); have S4 := hide (t3_below (S3new w3 32 (.pointer none) (.pointer none) (.int .i64 0)) b4); have p4 := P4.out; obtain ⟨d0, d1, d2, d3, d4, d5, d6, d7, d8⟩ := p4; have s4 := S4.out; obtain ⟨e0, e1, e2⟩ := s4)
        | (go_at_call 13; (with_reducible refine (CD2 _ B4.out).mono ?_); rintro e w5 ⟨rfl, b5⟩; have P5 := hide ((P4.out).below b5); have B5 := hide (bt B4.out b5); have S5' := hide (t3_below S4.out b5); have p5 := P5.out.below (below1 w5 (.cells #[.slice none 0 0, .slice none 0 0, .int .i64 0, .int .i64 0, .int .i64 0] 44)); obtain ⟨f0, f1, f2, f3, f4, f5, f6, f7, f8⟩ := p5; have s5 := S5'.out; obtain ⟨g0, g1, g2⟩ := s5)
        | (go_at_call 15; (with_reducible refine (CZ _ (ba B5.out _)).mono ?_); rintro e w6 ⟨rfl, b6⟩; have P6 := hide (((P5.out).below (below1 _ _)).below b6); have B6 := hide (bt (ba B5.out _) b6); have S6 := hide (t3_below (t3_below S5'.out (below1 _ _)) b6); have T6 := hide (S5.below (S5.new w5 44 (.slice none 0 0) (.slice none 0 0) (.int .i64 0) (.int .i64 0) (.int .i64 0)) b6); have p6 := P6.out; obtain ⟨h0, h1, h2, h3, h4, h5, h6, h7, h8⟩ := p6; have s6 := S6.out; obtain ⟨i0, i1, i2⟩ := s6; have t6 := T6.out; obtain ⟨⟨j0, _⟩, ⟨j1, _⟩, ⟨j2, _⟩, ⟨j3, _⟩, ⟨j4, _⟩⟩ := t6)
        | (go_at_call 14; (with_reducible refine (CR _).mono ?_); rintro e w7 ⟨rfl, b7⟩; have B7 := hide (bt B6.out b7); have S7 := hide (t3_below S6.out b7); have T7 := hide (S5.below T6.out b7); have s7 := S7.out; obtain ⟨k0, k1, k2⟩ := s7; have t7 := T7.out; obtain ⟨⟨l0, _⟩, ⟨l1, _⟩, ⟨l2, _⟩, ⟨l3, _⟩, ⟨l4, _⟩⟩ := t7)
        | (go_at_call 16; (with_reducible refine (CZ2 _).mono ?_); rintro e w8 ⟨rfl, b8⟩; have B8 := hide (bt B7.out b8); have S8 := hide (t3_below S7.out b8); have T8 := hide (S5.below T7.out b8); have s8 := S8.out; obtain ⟨mm0, mm1, mm2⟩ := s8; have t8 := T8.out; obtain ⟨⟨tt0, _⟩, ⟨tt1, _⟩, ⟨tt2, _⟩, ⟨tt3, _⟩, ⟨tt4, _⟩⟩ := t8))
      go_ret
      exact ⟨rfl, B8.out⟩
end Go.Proofs.YtclgghhpiljgfaaGreatDoor

/- Operations: the tables out of what the rows list; the laws, of memory that holds these. -/
namespace Go.Proofs.YtclgghhpiljgfaaGreatDoor
open Go.ChangeShapes Go.WideShapes Go.ChangeAt Go.WideMaps Go.WideElems Go.RowKit


theorem gNamesO : Tryz.prog.globalNamed "smalto/op.names" = some 0 := by kernel_rfl
theorem tNamesO : (Tryz.prog.globals[0]?).map (·.type) = some 83 := by kernel_rfl
theorem cellsNamesO : Tryz.prog.cellsOf 83 = 4 := by kernel_rfl
def dLaid12 {H : Type} : List (String × DataW H) := [("smalto/border.names", Rows.laid_smalto_border_names), ("smalto/raw.kinds", Rows.laid_smalto_raw_kinds)]
def dLaid12N {H : Type} : List (String × DataW H) := [("smalto/border.names", Rows.laid_smalto_border_names), ("smalto/raw.kinds", Rows.laid_smalto_raw_kinds), ("smalto/op.names", Rows.laid_smalto_op_names)]
theorem door_met12 (os : Os) (args : Array Value) : laidMetH Tryz.prog dLaid12 ((World.doorLaid Tryz.prog 400 os).forCall (fun _ _ => 0) ⟨#[], args, []⟩).memory :=
  laidMetH_of_parts3 (fuel := 8) (laidMet_of_run' 8 (by kernel_rfl) (by kernel_rfl)) (by kernel_rfl) (by kernel_rfl)
theorem door_met12N (os : Os) (args : Array Value) : laidMetH Tryz.prog dLaid12N ((World.doorLaid Tryz.prog 400 os).forCall (fun _ _ => 0) ⟨#[], args, []⟩).memory :=
  laidMetH_of_parts3 (fuel := 8) (laidMet_of_run' 8 (by kernel_rfl) (by kernel_rfl)) (by kernel_rfl) (by kernel_rfl)
set_option maxRecDepth 100000 in
theorem namesO_cells {H : Type} {enc : TypeId × Value → H} {w : World} {base : Nat} {sp : Nat → Bool} {held : Bool} {fuel : Nat} {cs : Array Value} {p : List MemPlace}
    (h : DataW.trod enc Tryz.prog w base sp held fuel 83 cs.toList = some (Rows.laid_smalto_op_names, p)) :
    cs = #[.string oNGauss, .string oNBlur, .string oNKernel, .string oNResize] := by
  obtain ⟨l⟩ := cs
  obtain ⟨xs, m, rfl, hx, hl, hn, he⟩ := DataW.trod_array Tryz.underlying83 h
  rw [cellsNamesO] at hl
  rw [cellsStrE] at he
  obtain ⟨c0, c1, c2, c3, rfl⟩ : ∃ c0 c1 c2 c3, l = [c0, c1, c2, c3] := by
    match l, hl with
    | [a, b, c, d], _ => exact ⟨a, b, c, d, rfl⟩
  obtain ⟨y0, y1, y2, y3, rfl⟩ : ∃ y0 y1 y2 y3, xs = [y0, y1, y2, y3] := by
    match xs, hn with
    | [a, b, c, d], _ => exact ⟨a, b, c, d, rfl⟩
  have h0 := he 0 (by omega)
  have h1 := he 1 (by omega)
  have h2 := he 2 (by omega)
  have h3 := he 3 (by omega)
  simp at h0 h1 h2 h3
  simp [Rows.laid_smalto_op_names] at hx
  obtain ⟨⟨g0, g1, g2, g3⟩, _⟩ := hx
  obtain rfl := str_cell h0 g0.symm
  obtain rfl := str_cell h1 g1.symm
  obtain rfl := str_cell h2 g2.symm
  obtain rfl := str_cell h3 g3.symm
  rfl
theorem opk_of_laid {W : World} (h : laidMetH Tryz.prog dLaid12 W) : OpK W := by
  rw [MakeChecks.laidMetH_plain _ _ _ (by kernel_rfl)] at h
  obtain ⟨ps, ⟨g0, t0, cs0, f0, p0, q0, hg0, ht0, hv0, hd0, ⟨g1, t1, cs1, f1, p1, q1, hg1, ht1, hv1, hd1, _, _⟩, _⟩, _, _⟩ := h
  obtain rfl := Option.some.inj (gNamesE.symm.trans hg0)
  obtain rfl := Option.some.inj (tNamesE.symm.trans ht0)
  obtain rfl := names_cells hd0
  obtain rfl := Option.some.inj (gKinds.symm.trans hg1)
  obtain rfl := Option.some.inj (tKinds.symm.trans ht1)
  obtain rfl := kinds_cells hd1
  exact ⟨⟨World.var?_cell hg1 hv1 0, World.var?_cell hg1 hv1 1, World.var?_cell hg1 hv1 2, World.var?_cell hg1 hv1 3, World.var?_cell hg1 hv1 4, World.var?_cell hg1 hv1 5⟩, World.var?_cell hg0 hv0 0, World.var?_cell hg0 hv0 1, World.var?_cell hg0 hv0 2⟩
theorem opkn_of_laid {W : World} (h : laidMetH Tryz.prog dLaid12N W) : OpK W ∧ NamesO W := by
  rw [MakeChecks.laidMetH_plain _ _ _ (by kernel_rfl)] at h
  obtain ⟨ps, ⟨g0, t0, cs0, f0, p0, q0, hg0, ht0, hv0, hd0, ⟨g1, t1, cs1, f1, p1, q1, hg1, ht1, hv1, hd1, ⟨g2, t2, cs2, f2, p2, q2, hg2, ht2, hv2, hd2, _, _⟩, _⟩, _⟩, _, _⟩ := h
  obtain rfl := Option.some.inj (gNamesE.symm.trans hg0)
  obtain rfl := Option.some.inj (tNamesE.symm.trans ht0)
  obtain rfl := names_cells hd0
  obtain rfl := Option.some.inj (gKinds.symm.trans hg1)
  obtain rfl := Option.some.inj (tKinds.symm.trans ht1)
  obtain rfl := kinds_cells hd1
  obtain rfl := Option.some.inj (gNamesO.symm.trans hg2)
  obtain rfl := Option.some.inj (tNamesO.symm.trans ht2)
  obtain rfl := namesO_cells hd2
  exact ⟨⟨⟨World.var?_cell hg1 hv1 0, World.var?_cell hg1 hv1 1, World.var?_cell hg1 hv1 2, World.var?_cell hg1 hv1 3, World.var?_cell hg1 hv1 4, World.var?_cell hg1 hv1 5⟩, World.var?_cell hg0 hv0 0, World.var?_cell hg0 hv0 1, World.var?_cell hg0 hv0 2⟩, World.var?_cell hg2 hv2 0, World.var?_cell hg2 hv2 1, World.var?_cell hg2 hv2 2, World.var?_cell hg2 hv2 3⟩
/-- Operations in memory that may be. -/
def OpsBoth (w : World) (ad : Option Addr) (L : List Opr) : Prop := OpsAt w ad L ∧ OpsFit L
theorem law_OpNames (k : Int) (w : World) (hk : OpK w ∧ NamesO w) (h : -9223372036854775808 ≤ k ∧ k ≤ 9223372036854775807) :
    Calls Tryz.prog 7 #[.int .i64 k] w fun e w' => e = .returned (.bool true) ∧ Below w.heap.size w w' := names_law12 k w hk.1 hk.2 h
theorem law_OpMakes (o : Opr) (ax : Option Addr) (cx : Nat) (ay : Option Addr) (cy : Nat) (a b : Int) (w : World) (hk : OpK w) (hA : OpAt w o ax cx ay cy ∧ OpFits o) (ha : -9223372036854775808 ≤ a ∧ a ≤ 9223372036854775807) (hb : -9223372036854775808 ≤ b ∧ b ≤ 9223372036854775807) :
    Calls Tryz.prog 4 #[opV o ax cx ay cy, .int .i64 a, .int .i64 b] w fun e w' => e = .returned (.bool true) ∧ Below w.heap.size w w' :=
  of_OpMakes opk_below (fun _ h => h.1) omake_any osize_c o ax cx ay cy a b w hk hA.1 hA.2 ha hb
theorem law_OpAll (L : List Opr) (ad : Option Addr) (cap : Nat) (a b c : Int) (w : World) (hk : OpK w) (hr : OpsBoth w ad L) (h1 : L.length ≤ maxLen) (hz : ad = none → cap = 0) (ha : -9223372036854775808 ≤ a ∧ a ≤ 9223372036854775807) (hb : -9223372036854775808 ≤ b ∧ b ≤ 9223372036854775807) (hc : -9223372036854775808 ≤ c ∧ c ≤ 9223372036854775807) :
    Calls Tryz.prog 5 #[.slice ad L.length cap, .int .i64 a, .int .i64 b, .int .i64 c] w fun e w' => e = .returned (.bool true) ∧ Below w.heap.size w w' :=
  of_OpAll opk_below (fun _ h => h.1) omake_any oall_any L L.length rfl h1 ad cap a b c w hk hr.1 hr.2 hz ha hb hc
theorem law_OpChains (L : List Opr) (ad : Option Addr) (cap : Nat) (a b : Int) (w : World) (hk : OpK w) (hr : OpsBoth w ad L) (h1 : L.length ≤ maxLen) (hz : ad = none → cap = 0) (ha : 0 ≤ a ∧ a ≤ 255) (hb : 0 ≤ b ∧ b ≤ 255) :
    Calls Tryz.prog 6 #[.slice ad L.length cap, .int .u8 a, .int .u8 b] w fun e w' => e = .returned (.bool true) ∧ Below w.heap.size w w' :=
  of_OpChains opk_below (fun _ h => h.1) omake_any osize_c oall_any L L.length rfl h1 ad cap a b w hk hr.1 hr.2 hz ha hb
end Go.Proofs.YtclgghhpiljgfaaGreatDoor
