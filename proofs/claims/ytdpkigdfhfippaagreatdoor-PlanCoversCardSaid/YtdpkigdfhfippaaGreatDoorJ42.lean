/- Parts, joined. -/
import Derived.Test.YtdpkigdfhfippaaGreatDoorJ40
/- Plans: the law on what tiles take. Written by gen_XS14K.py. -/
namespace Go.Proofs.YtdpkigdfhfippaaGreatDoor
open Go.RowKit


set_option maxHeartbeats 8000000 in
set_option maxRecDepth 100000 in
theorem of_PlanReaches {K : World → Prop} {PT : World → Value → Value → Value → Stg → Int → Int → Prop} (hKB : ∀ w w', K w → Below w.heap.size w w' → K w') (CM : OMakeC K) (PC : PlanC K PT) (CL : ∀ w, K w → Calls Tryz.prog 23 #[] w fun e w' => e = .returned (.bool true) ∧ Below w.heap.size w w') (o : Opr) (ax : Option Addr) (cx : Nat) (ay : Option Addr) (cy : Nat) (a b c d : Int) (w : World) (hk : K w) (hA : OpAt w o ax cx ay cy) (hF : OpFits o) (ha : 0 ≤ a ∧ a ≤ 255) (hb : 0 ≤ b ∧ b ≤ 255) (hc : 0 ≤ c ∧ c ≤ 255) (hd : 0 ≤ d ∧ d ≤ 255) (ch : Int) :
    Calls Tryz.prog 6 #[opV o ax cx ay cy, .int .u8 a, .int .u8 b, .int .u8 c, .int .u8 d, .int .i64 ch] w fun e w' => e = .returned (.bool true) ∧ Below w.heap.size w w' := by
  have CLV := fun w' (b' : Below w.heap.size w w') => lives14 hKB CM PC CL w' (hKB w w' hk b')
  have CST := fun w' (b' : Below w.heap.size w w') => stage14_any hKB CM o ax cx ay cy a b w' (hKB w w' hk b') (hA.below b') hF ha.1 ha.2 hb.1 hb.2
  have CK : ∀ w', Below w.heap.size w w' → K w' := fun w' b' => hKB w w' hk b'
  obtain ⟨p, hp, p0, p1⟩ : ∃ p, c % 24 = p ∧ 0 ≤ p ∧ p ≤ 23 := ⟨_, rfl, by omega, by omega⟩
  obtain ⟨q, hq, q0, q1⟩ : ∃ q, d % 24 = q ∧ 0 ≤ q ∧ q ≤ 23 := ⟨_, rfl, by omega, by omega⟩
  have P0 := hide (P9.new w 27 o.kd o.bd o.sg o.rd (.slice ax o.xs.length cx) (.slice ay o.ys.length cy) o.fl o.wd o.ht)
  obtain ⟨c0, c1⟩ := hc
  obtain ⟨d0, d1⟩ := hd
  generalize stgOf o (1 + a % 20) (1 + b % 20) = S at CST
  unfold opV at CST ⊢
  clear hA hF ha hb CM CL hk
  cases hs : stB 20 o (1 + a % 20) (1 + b % 20) with
  | false =>
    rw [hs] at CST
    have CST2 : ∀ w', Below w.heap.size w w' → Calls Tryz.prog 9 #[.agg #[.int .i64 o.kd, .int .i64 o.bd, .int .i64 o.sg, .int .i64 o.rd, .slice ax o.xs.length cx, .slice ay o.ys.length cy, .int .i64 o.fl, .int .i64 o.wd, .int .i64 o.ht], .int .u8 a, .int .u8 b] w' fun e w'' => e = .returned (.tuple #[.agg #[.pointer none, .pointer none, .int .i64 0], .agg #[.slice none 0 0, .slice none 0 0, .int .i64 0, .int .i64 0, .int .i64 0], .bool false]) ∧ Below w'.heap.size w' w'' := fun w' b' =>
      (CST w' b').mono fun e w'' ⟨hA, hB⟩ => by
        rcases hA with ⟨_, he⟩ | ⟨h0, _⟩
        · exact ⟨he, hB⟩
        · cases h0
    clear CST hs
    go_enter Tryz.func6, Tryz.ntmps6
    go_wp2_with (first
      | (go_at_call 8; (with_reducible refine (CLV _ (below1 _ _)).mono ?_); rintro e w1 ⟨rfl, b1⟩; have B1 := hide (bt (below1 _ _) b1); have P1 := P0.out.below b1; obtain ⟨g0, g1, g2, g3, g4, g5, g6, g7, g8⟩ := P1)
      | (go_at_call 9; (with_reducible refine (CST2 _ B1.out).mono ?_); rintro e w2 ⟨rfl, b2⟩; have B2 := hide (bt B1.out b2)))
    go_ret
    exact ⟨rfl, ba (ba B2.out _) _⟩
  | true =>
    rw [hs] at CST
    have CST2 : ∀ w', Below w.heap.size w w' → Calls Tryz.prog 9 #[.agg #[.int .i64 o.kd, .int .i64 o.bd, .int .i64 o.sg, .int .i64 o.rd, .slice ax o.xs.length cx, .slice ay o.ys.length cy, .int .i64 o.fl, .int .i64 o.wd, .int .i64 o.ht], .int .u8 a, .int .u8 b] w' fun e w'' => (∃ sx sy gx px gy py, e = .returned (.tuple #[.agg #[.pointer (some sx), .pointer (some sy), .int .i64 S.sb], .agg #[.slice (some ⟨gx, 0, none⟩) S.lx.length px, .slice (some ⟨gy, 0, none⟩) S.ly.length py, .int .i64 S.fx, .int .i64 S.fy, .int .i64 S.sb], .bool true]) ∧ Tab w'' (.pointer (some sx)) S.fx S.lx ∧ Tab w'' (.pointer (some sy)) S.fy S.ly) ∧ Below w'.heap.size w' w'' := fun w' b' =>
      (CST w' b').mono fun e w'' ⟨hA, hB⟩ => by
        rcases hA with ⟨h0, _⟩ | ⟨_, sx, sy, gx, px, gy, py, he, tx, ty, _, _⟩
        · cases h0
        · exact ⟨⟨sx, sy, gx, px, gy, py, he, tx, ty⟩, hB⟩
    clear CST hs
    have CN : ∀ (x y : Value) (w' : World), K w' → Tab w' x S.fx S.lx → Tab w' y S.fy S.ly → Calls Tryz.prog 10 #[.agg #[x, y, .int .i64 S.sb], .int .i64 (1 + p), .int .i64 (1 + q)] w' fun e w'' => (∃ v, e = .returned (.tuple #[.pointer (some v), .int .i64 0]) ∧ PT w'' (.pointer (some v)) x y S (1 + p) (1 + q)) ∧ Below w'.heap.size w' w'' := fun x y w' k tx ty =>
      (PC.new x y S (1 + p) (1 + q) w' k tx ty (by unfold In64; omega) (by unfold In64; omega)).mono fun e w'' ⟨hA, hB⟩ => by
        rcases hA with ⟨_, v, he, hp⟩ | ⟨h0, _⟩
        · obtain ⟨v, rfl⟩ := PC.ptr hp
          exact ⟨⟨v, he, hp⟩, hB⟩
        · exact absurd ((tileB_iff (a := 1 + p) (b := 1 + q)).2 ⟨by omega, by omega, by omega, by omega⟩) (by rw [h0]; decide)
    have CA : ∀ (v x y : Value) (w' : World), PT w' v x y S (1 + p) (1 + q) → _ := fun v x y w' h => PC.all h
    have CSC : ∀ (v x y : Value) (w' : World), PT w' v x y S (1 + p) (1 + q) → ∀ c : Int, -1 ≤ c → c ≤ 3 → _ := fun v x y w' h c h0 h1 => PC.scratch h c h0 h1
    have PB : ∀ {w w' : World} {v x y : Value}, PT w v x y S (1 + p) (1 + q) → Below w.heap.size w w' → PT w' v x y S (1 + p) (1 + q) := fun h b => PC.below h b
    obtain ⟨A, hAA⟩ : ∃ A, 1 + p = A := ⟨_, rfl⟩
    obtain ⟨B, hBB⟩ : ∃ B, 1 + q = B := ⟨_, rfl⟩
    have hAp := hAA
    have hBq := hBB
    rw [hAA, hBB] at CN CA CSC PB
    have A0 : 1 ≤ A ∧ A ≤ 24 := by omega
    have B0 : 1 ≤ B ∧ B ≤ 24 := by omega
    obtain ⟨A0, A1⟩ := A0
    obtain ⟨B0, B1⟩ := B0
    obtain ⟨lx, ly, fx, fy, sb⟩ := S
    simp only at CST2 CN CA CSC PB
    obtain ⟨N, hN⟩ : ∃ N, (countF lx ly A B).toNat = N := ⟨_, rfl⟩
    simp only [hN] at CA
    have HNN := hide hN
    clear PC hN
    have q1 := plan_ptr_ne
    go_enter Tryz.func6, Tryz.ntmps6
    go_wp2_with (first
      | (go_at_call 8; (with_reducible refine (CLV _ (below1 _ _)).mono ?_); rintro e w1 ⟨rfl, b1⟩; have D1 := hide (bt (below1 _ _) b1); have P1 := P0.out.below b1; obtain ⟨g0, g1, g2, g3, g4, g5, g6, g7, g8⟩ := P1)
      | (go_at_call 9; (with_reducible refine (CST2 _ D1.out).mono ?_); rintro e w2 ⟨⟨sx, sy, gx, px, gy, py, rfl, tx, ty⟩, b2⟩; have HX := hide (((tx.below (below1 _ (.cells #[.pointer (some sx), .pointer (some sy), .int .i64 sb] 31))).below (below1 _ (.cells #[.slice (some ⟨gx, 0, none⟩) lx.length px, .slice (some ⟨gy, 0, none⟩) ly.length py, .int .i64 fx, .int .i64 fy, .int .i64 sb] 34)))); have HY := hide (((ty.below (below1 _ (.cells #[.pointer (some sx), .pointer (some sy), .int .i64 sb] 31))).below (below1 _ (.cells #[.slice (some ⟨gx, 0, none⟩) lx.length px, .slice (some ⟨gy, 0, none⟩) ly.length py, .int .i64 fx, .int .i64 fy, .int .i64 sb] 34)))); have S2 := hide ((S3.new w2 31 (.pointer (some sx)) (.pointer (some sy)) (.int .i64 sb)).below (below1 _ (.cells #[.slice (some ⟨gx, 0, none⟩) lx.length px, .slice (some ⟨gy, 0, none⟩) ly.length py, .int .i64 fx, .int .i64 fy, .int .i64 sb] 34))); have D2 := hide (ba (ba (bt D1.out b2) (.cells #[.pointer (some sx), .pointer (some sy), .int .i64 sb] 31)) (.cells #[.slice (some ⟨gx, 0, none⟩) lx.length px, .slice (some ⟨gy, 0, none⟩) ly.length py, .int .i64 fx, .int .i64 fy, .int .i64 sb] 34)); clear tx ty)
      | (go_at_call 10; (with_reducible refine (CN _ _ _ (CK _ D2.out) HX.out HY.out).mono ?_); rintro e w3 ⟨⟨v, rfl, hp⟩, b3⟩; have HP := hide hp; have D3 := hide (bt D2.out b3); have HX3 := hide (HX.out.below b3); have HY3 := hide (HY.out.below b3); have S3' := hide (S2.out.below b3); clear hp)
      | (go_at_call 11; (with_reducible refine (CA _ _ _ _ HP.out).mono ?_); rintro e w4 ⟨⟨ad, cap, rfl, ht, hz⟩, b4⟩; have HT := hide ht; have HP4 := hide (PB HP.out b4); have D4 := hide (bt D3.out b4); have HX4 := hide (HX3.out.below b4); have HY4 := hide (HY3.out.below b4); have S4 := hide (S3'.out.below b4); clear ht hz))
    have HXO := hide (tab_in HX4.out)
    have HYO := hide (tab_in HY4.out)
    clear CLV CST2 CN CA HP HX HY HX3 HY3 S2 S3' D1 D2 D3 P0 b1 b2 b3 b4 q1 CK hKB
    obtain ⟨nx, hnx⟩ : ∃ nx, lx.length = nx := ⟨_, rfl⟩
    obtain ⟨ny, hny⟩ : ∃ ny, ly.length = ny := ⟨_, rfl⟩
    obtain ⟨Ac, hAc⟩ : ∃ Ac, acrossF lx A = Ac := ⟨_, rfl⟩
    obtain ⟨Dn, hDn⟩ : ∃ Dn, acrossF ly B = Dn := ⟨_, rfl⟩
    have hN := HNN.out
    have X1 : 1 ≤ nx ∧ nx ≤ 65536 := by rw [← hnx]; exact HXO.out.2
    have Y1 : 1 ≤ ny ∧ ny ≤ 65536 := by rw [← hny]; exact HYO.out.2
    obtain ⟨X1, X2⟩ := X1
    obtain ⟨Y1, Y2⟩ := Y1
    have Ac1 : 1 ≤ Ac := by rw [← hAc]; exact steps_pos (by omega) A0
    have Dn1 : 1 ≤ Dn := by rw [← hDn]; exact steps_pos (by omega) B0
    have cin := count_in (LX := lx) (LY := ly) A0 B0
    have hC : countF lx ly A B = Ac * Dn := by unfold countF; rw [hAc, hDn]
    have hNi : (N : Int) = Ac * Dn := by rw [← hN, ← hC]; exact Int.toNat_of_nonneg cin.2.2.2.2.1
    have NB : N ≤ 4294967296 := by
      have h1 := cin.2.2.2.2.2
      rw [hC, ← hNi, hnx, hny] at h1
      have h2 : (nx : Int) * (ny : Int) ≤ 65536 * 65536 := Int.mul_le_mul (by omega) (by omega) (by omega) (by omega)
      omega
    have HTL := hide (fun (k : Nat) (hk : k < N) => show ∃ X Y W H f1 f2 f3 f4, tilF lx ly A B (k : Int) = ⟨(k : Int), X, Y, W, H, f1, f2, f3, f4, mostF ly⟩ ∧ TilOk lx ly ⟨(k : Int), X, Y, W, H, f1, f2, f3, f4, mostF ly⟩ ∧ (f1 = (reachF lx X (X + W)).1 ∧ f1 + f3 = (reachF lx X (X + W)).2.1) ∧ f2 = (reachF ly Y (Y + H)).1 ∧ f2 + f4 = (reachF ly Y (Y + H)).2.1 by
      have ok := tilF_ok (LX := lx) (LY := ly) HXO.out.1 HYO.out.1 (by rw [hnx]; exact X1) A0 B0 (k := (k : Int)) (by omega) (by rw [hC, ← hNi]; omega)
      exact ⟨_, _, _, _, _, _, _, _, rfl, ok, ⟨rfl, by omega⟩, rfl, by omega⟩)
    have MIN := mostTo_in HYO.out.1 ly.length (Nat.le_refl _)
    rw [show mostTo ly ly.length = mostF ly from rfl] at MIN
    obtain ⟨M, hM⟩ : ∃ M, mostF ly = M := ⟨_, rfl⟩
    obtain ⟨m0, m1⟩ := MIN
    have HMO := hide hM
    have HNX := hide hnx
    have HNY := hide hny
    rw [hM] at m0 m1
    have HMO2 := hide hM
    clear hnx hny hAc hDn hN hC hNi hM cin hAA hBB
    go_loopg [59] N (fun r i wr => ∃ k : Nat, k + r = N ∧ i = .int .i64 (k : Int) ∧ Below w4.heap.size w4 wr)
    case atStart => exact ⟨0, by omega, rfl, Below.refl _ _⟩
    case round =>
      obtain ⟨k, hk, rfl, hb⟩ := hrel
      obtain ⟨G, hG⟩ : ∃ G, G = gk := ⟨_, rfl⟩
      subst hG
      obtain ⟨W0, hW0⟩ : ∃ W0, W0 = wr := ⟨_, rfl⟩
      subst hW0
      have HK := hide hk
      have HB := hide hb
      clear hk
      by_cases hlt : k < N
      · obtain ⟨b', off, rfl, ht⟩ := (HT.out.below hb).get hlt
        obtain ⟨X, Y, W, H, f1, f2, f3, f4, he, hok, hxr, hyr⟩ := HTL.out k hlt
        rw [HMO2.out] at he hok
        simp only [he] at ht
        obtain ⟨⟨X0, _⟩, ⟨Y0, _⟩, ⟨Wp, XW⟩, ⟨Hp, YH⟩, ⟨f10, f11⟩, ⟨f20, f21⟩, ⟨f30, f31⟩, ⟨f40, f41⟩, _⟩ := hok
        simp only at X0 Y0 Wp XW Hp YH f10 f11 f20 f21 f30 f31 f40 f41
        obtain ⟨Xn, hXn⟩ : ∃ Xn : Nat, (Xn : Int) = X := ⟨_, Int.toNat_of_nonneg X0⟩
        obtain ⟨Yn, hYn⟩ : ∃ Yn : Nat, (Yn : Int) = Y := ⟨_, Int.toNat_of_nonneg Y0⟩
        obtain ⟨Wn, hWn⟩ : ∃ Wn : Nat, (Wn : Int) = W := ⟨_, Int.toNat_of_nonneg (by omega)⟩
        obtain ⟨Hn, hHn⟩ : ∃ Hn : Nat, (Hn : Int) = H := ⟨_, Int.toNat_of_nonneg (by omega)⟩
        subst hWn hHn
        have XW2 : X + (Wn : Int) ≤ 65536 := by have := HNX.out; omega
        have YH2 : Y + (Hn : Int) ≤ 65536 := by have := HNY.out; omega
        have HXN := hide hXn
        have HYN := hide hYn
        have hxR := hide hxr
        have hyR := hide hyr
        clear hXn hYn hxr hyr
        obtain ⟨t0, t1, t2, t3, t4, t5, t6, t7, t8, t9⟩ := ht
        simp only at t0 t1 t2 t3 t4 t5 t6 t7 t8 t9
        obtain ⟨W1, hW1⟩ : ∃ W1, W0.alloc (.cells #[.int .i64 (k : Int), .int .i64 X, .int .i64 Y, .int .i64 (Wn : Int), .int .i64 (Hn : Int), .int .i64 f1, .int .i64 f2, .int .i64 f3, .int .i64 f4, .int .i64 M] 46) = W1 := ⟨_, rfl⟩
        have B1 := hide (show Below W0.heap.size W0 W1 by rw [← hW1]; exact below1 _ _)
        have P1 := hide (show P10 W1 W0.heap.size ⟨(k : Int), X, Y, (Wn : Int), (Hn : Int), f1, f2, f3, f4, M⟩ by rw [← hW1]; exact P10.new W0 46 ⟨(k : Int), X, Y, (Wn : Int), (Hn : Int), f1, f2, f3, f4, M⟩)
        have BA := hide (bt HB.out B1.out)
        have HXQ1 := hide (HX4.out.below BA.out)
        have HYQ1 := hide (HY4.out.below BA.out)
        have HXQO := HXO.out.1
        have HYQO := HYO.out.1
        obtain ⟨u0, u1, u2, u3, u4, u5, u6, u7, u8, u9⟩ := P1.out
        simp only at u0 u1 u2 u3 u4 u5 u6 u7 u8 u9
        clear he hb
        go_wp2
        clear t0 t1 t2 t3 t4 t5 t6 t7 t8 t9 u0 u1 u2 u3 u4 u5 u6 u7 u8 u9
        go_loopg [66] Wn (fun r i wr => ∃ n : Nat, n + r = Wn ∧ i = .int .i64 (n : Int) ∧ Below W1.heap.size W1 wr)
        case atStart => exact ⟨0, by omega, rfl, Below.refl _ _⟩
        case round =>
          obtain ⟨n, hn, rfl, hb2⟩ := hrel
          have HN2 := hide hn
          have HB2 := hide hb2
          clear hn
          by_cases hlt2 : n < Wn
          · have hqn := HXN.out
            have hqx := HNX.out
            have hqy := HNY.out
            obtain ⟨m, hm, f0, hf0⟩ : ∃ m, (lnAt lx (Xn + n)).2.length = m ∧ ∃ f0, (lnAt lx (Xn + n)).1 = f0 := ⟨_, rfl, _, rfl⟩
            have hln : Xn + n < lx.length := by omega
            have TK := til_takes (L := lx) (i := X) (k := X + (Wn : Int)) (o := Xn + n) (by omega) (by omega) hln
            rw [hm, hf0, ← hxR.out.1, ← hxR.out.2] at TK
            obtain ⟨TK1, TK2⟩ := TK
            have LO := HXQO (Xn + n) hln
            obtain ⟨l0, l1, l2, l3, _⟩ := LO
            rw [hf0] at l0 l1
            rw [hm] at l2 l3
            have HM2 := hide hm
            have CLN : ∀ w', Below W1.heap.size W1 w' → Calls Tryz.prog 20 #[.pointer (some sx), .int .i64 (X + (n : Int))] w' fun e w'' => (∃ u, e = .returned (.agg #[.int .i64 f0, u]) ∧ OwnI .i64 2 w'' w'.heap.size u (lnAt lx (Xn + n)).2) ∧ Below w'.heap.size w' w'' := fun w' b' => by
              have := tab_line (HXQ1.out.below b') (Xn + n) hln
              rw [hf0, show ((Xn + n : Nat) : Int) = X + (n : Int) by omega] at this
              exact this.mono fun e w'' ⟨u, he, ho, hB⟩ => ⟨⟨u, he, ho⟩, hB⟩
            obtain ⟨u0, u1, u2, u3, u4, u5, u6, u7, u8, u9⟩ := P1.out.below hb2
            obtain ⟨⟨s0, _⟩, ⟨s1, _⟩, ⟨s2, _⟩⟩ := (S4.out.below BA.out).below hb2
            simp only at u0 u1 u2 u3 u4 u5 u6 u7 u8 u9
            clear hb2 hm hf0 hqn hqx hqy
            go_upto_region 16 with (go_at_call 20; (with_reducible refine (CLN _ HB2.out).mono ?_); rintro e w7 ⟨⟨uu, rfl, ou⟩, b7⟩; obtain ⟨ad7, cap7, rfl, _⟩ := ou.formn HM2.out; have D7 := hide (bt HB2.out b7))
            have E7 := hide (ba D7.out (.cells #[.int .i64 f0, .slice ad7 m cap7] 63))
            obtain ⟨x0, x1, x2, x3, x4, x5, x6, x7, x8, x9⟩ := (P1.out.below D7.out).below (below1 w7 (.cells #[.int .i64 f0, .slice ad7 m cap7] 63))
            simp only at x0 x1 x2 x3 x4 x5 x6 x7 x8 x9
            clear ou b7 D7 CLN u0 u1 u2 u3 u4 u5 u6 u7 u8 u9
            go_wp2
            go_roundg (gk - 1)
            case measure => have := HN2.out; omega
            case rel => exact ⟨n + 1, by have := HN2.out; omega, by go_num, E7.out⟩
          · obtain rfl : Wn = n := by have := HN2.out; omega
            clear hlt2
            obtain ⟨u0, u1, u2, u3, u4, u5, u6, u7, u8, u9⟩ := P1.out.below hb2
            simp only at u0 u1 u2 u3 u4 u5 u6 u7 u8 u9
            have HB1 := HB2
            clear hb2 HB2 HN2
            go_wp2
            clear u0 u1 u2 u3 u4 u5 u6 u7 u8 u9
            go_loopg [100] Hn (fun r i wr => ∃ n : Nat, n + r = Hn ∧ i = .int .i64 (n : Int) ∧ Below W1.heap.size W1 wr)
            case atStart => exact ⟨0, by omega, rfl, HB1.out⟩
            case round =>
              obtain ⟨n, hn, rfl, hb2⟩ := hrel
              have HN2 := hide hn
              have HB2 := hide hb2
              clear hn
              by_cases hlt2 : n < Hn
              · have hqn := HYN.out
                have hqx := HNX.out
                have hqy := HNY.out
                obtain ⟨m, hm, f0, hf0⟩ : ∃ m, (lnAt ly (Yn + n)).2.length = m ∧ ∃ f0, (lnAt ly (Yn + n)).1 = f0 := ⟨_, rfl, _, rfl⟩
                have hln : Yn + n < ly.length := by omega
                have TK := til_takes (L := ly) (i := Y) (k := Y + (Hn : Int)) (o := Yn + n) (by omega) (by omega) hln
                rw [hm, hf0, ← hyR.out.1, ← hyR.out.2] at TK
                obtain ⟨TK1, TK2⟩ := TK
                have TM := most_has (L := ly) hln
                rw [hm, HMO2.out] at TM
                have LO := HYQO (Yn + n) hln
                obtain ⟨l0, l1, l2, l3, _⟩ := LO
                rw [hf0] at l0 l1
                rw [hm] at l2 l3
                have HM2 := hide hm
                have CLN : ∀ w', Below W1.heap.size W1 w' → Calls Tryz.prog 20 #[.pointer (some sy), .int .i64 (Y + (n : Int))] w' fun e w'' => (∃ u, e = .returned (.agg #[.int .i64 f0, u]) ∧ OwnI .i64 2 w'' w'.heap.size u (lnAt ly (Yn + n)).2) ∧ Below w'.heap.size w' w'' := fun w' b' => by
                  have := tab_line (HYQ1.out.below b') (Yn + n) hln
                  rw [hf0, show ((Yn + n : Nat) : Int) = Y + (n : Int) by omega] at this
                  exact this.mono fun e w'' ⟨u, he, ho, hB⟩ => ⟨⟨u, he, ho⟩, hB⟩
                obtain ⟨u0, u1, u2, u3, u4, u5, u6, u7, u8, u9⟩ := P1.out.below hb2
                obtain ⟨⟨s0, _⟩, ⟨s1, _⟩, ⟨s2, _⟩⟩ := (S4.out.below BA.out).below hb2
                simp only at u0 u1 u2 u3 u4 u5 u6 u7 u8 u9
                clear hb2 hm hf0 hqn hqx hqy
                go_upto_region 23 with (go_at_call 20; (with_reducible refine (CLN _ HB2.out).mono ?_); rintro e w7 ⟨⟨uu, rfl, ou⟩, b7⟩; obtain ⟨ad7, cap7, rfl, _⟩ := ou.formn HM2.out; have D7 := hide (bt HB2.out b7))
                have E7 := hide (ba D7.out (.cells #[.int .i64 f0, .slice ad7 m cap7] 63))
                obtain ⟨x0, x1, x2, x3, x4, x5, x6, x7, x8, x9⟩ := (P1.out.below D7.out).below (below1 w7 (.cells #[.int .i64 f0, .slice ad7 m cap7] 63))
                simp only at x0 x1 x2 x3 x4 x5 x6 x7 x8 x9
                clear ou b7 D7 CLN u0 u1 u2 u3 u4 u5 u6 u7 u8 u9
                go_wp2
                go_roundg (gk - 1)
                case measure => have := HN2.out; omega
                case rel => exact ⟨n + 1, by have := HN2.out; omega, by go_num, E7.out⟩
              · obtain rfl : Hn = n := by have := HN2.out; omega
                clear hlt2
                go_wp2
                go_roundg (G - 1)
                case measure => have := HK.out; omega
                case rel => exact ⟨k + 1, by have := HK.out; omega, by go_num, bt BA.out HB2.out⟩
      · obtain rfl : N = k := by have := HK.out; omega
        have HPE := hide (PB HP4.out hb)
        obtain ⟨C, hC, C0, C1⟩ : ∃ C, min (max 0 ch) 3 = C ∧ 0 ≤ C ∧ C ≤ 3 := ⟨_, rfl, by omega, by omega⟩
        obtain ⟨Q, hQ, Q0, Q1⟩ : ∃ Q, min A (nx : Int) = Q ∧ 1 ≤ Q ∧ Q ≤ 24 := ⟨_, rfl, by omega, by omega⟩
        have MQ0 : 0 ≤ M * Q := Int.mul_nonneg m0 (by omega)
        have MQ1 : M * Q ≤ 1048576 * 24 := Int.mul_le_mul m1 Q1 (by omega) (by omega)
        have MC0 : 0 ≤ M * Q * C := Int.mul_nonneg MQ0 C0
        have MC1 : M * Q * C ≤ 1048576 * 24 * 3 := Int.mul_le_mul MQ1 C1 C0 (by omega)
        have wr1 : IntKind.i64.wrap (M * Q) = M * Q := by rw [IntKind.wrap_i64]; omega
        have wr2 : IntKind.i64.wrap (M * Q * C) = M * Q * C := by rw [IntKind.wrap_i64]; omega
        have CS1 : ∀ w', Below W0.heap.size W0 w' → Calls Tryz.prog 21 #[.pointer (some v), .int .i64 C] w' fun e w'' => e = .returned (.int .i64 (M * Q * C)) ∧ Below w'.heap.size w' w'' := fun w' b' => by
          have := CSC _ _ _ _ (PB HPE.out b') C (by omega) C1
          rw [HMO2.out, HNX.out, hQ] at this
          rw [show (if C < 1 then (0 : Int) else M * Q * C) = M * Q * C from by
            split
            · rw [show C = 0 by omega, Int.mul_zero]
            · rfl] at this
          exact this
        have CS2 : ∀ w', Below W0.heap.size W0 w' → Calls Tryz.prog 21 #[.pointer (some v), .int .i64 (-1)] w' fun e w'' => e = .returned (.int .i64 0) ∧ Below w'.heap.size w' w'' := fun w' b' =>
          CSC _ _ _ _ (PB HPE.out b') (-1) (by omega) (by omega)
        have CM1 : ∀ w', Below W0.heap.size W0 w' → Calls Tryz.prog 13 #[.pointer (some sy)] w' fun e w'' => e = .returned (.int .i64 M) ∧ Below w'.heap.size w' w'' := fun w' b' => by
          have := tab_most ((HY4.out.below hb).below b')
          rw [HMO2.out] at this
          exact this
        have CT1 : ∀ w', Below W0.heap.size W0 w' → Calls Tryz.prog 12 #[.pointer (some sx)] w' fun e w'' => e = .returned (.int .i64 (nx : Int)) ∧ Below w'.heap.size w' w'' := fun w' b' => by
          have := tab_to ((HX4.out.below hb).below b')
          rw [HNX.out] at this
          exact this
        have wr3 : IntKind.i64.wrap p = p := by rw [IntKind.wrap_i64]; omega
        have wr4 : IntKind.i64.wrap (1 + p) = A := by rw [IntKind.wrap_i64]; omega
        have wr5 : IntKind.i64.wrap A = A := by rw [IntKind.wrap_i64]; omega
        have hpt : c.tmod 24 = p := by rw [Int.tmod_eq_emod_of_nonneg c0]; exact hp
        have SE := hide (S4.out.below hb)
        obtain ⟨⟨s0, _⟩, ⟨s1, _⟩, ⟨s2, _⟩⟩ := SE.out
        clear hb CSC PB HTL
        go_upto_region 28 with fail
        go_region_held3 (fun w' => w'.cell? ⟨w2.heap.size, 0, none⟩ = some (.pointer (some sx)) ∧ w'.cell? ⟨w2.heap.size, 1, none⟩ = some (.pointer (some sy))) (first | assumption | go_keep)
          (first
            | (go_at_call 21; (with_reducible refine (CS1 _ (bd (Below.refl _ _))).mono ?_); rintro e w7 ⟨rfl, b7⟩; have D7 := hide (bt (bd (Below.refl W0.heap.size W0)) b7); have y7 := SE.out.below D7.out; obtain ⟨⟨y0, _⟩, ⟨y1, _⟩, _⟩ := y7)
            | (go_at_call 13; (with_reducible refine (CM1 _ D7.out).mono ?_); rintro e w8 ⟨rfl, b8⟩; have D8 := hide (bt D7.out b8); have y8 := SE.out.below D8.out; obtain ⟨⟨z0, _⟩, ⟨z1, _⟩, _⟩ := y8)
            | (go_at_call 12; (with_reducible refine (CT1 _ D8.out).mono ?_); rintro e w9 ⟨rfl, b9⟩; have D9 := hide (bt D8.out b9); have y9 := SE.out.below D9.out; obtain ⟨⟨x0, _⟩, ⟨x1, _⟩, _⟩ := y9)
            | (go_at_call 21; (with_reducible refine (CS2 _ D9.out).mono ?_); rintro e w10 ⟨rfl, b10⟩; have D10 := hide (bt D9.out b10); have y10 := SE.out.below D10.out; obtain ⟨⟨y0, _⟩, ⟨y1, _⟩, _⟩ := y10))
        all_goals
          have BZ := hide (bt D4.out (bt HB.out D10.out))
          go_wp2
          go_ret
          exact ⟨rfl, BZ.out⟩
end Go.Proofs.YtdpkigdfhfippaaGreatDoor
