/- Parts, joined. -/
import Derived.Test.YtdpkigdfhfippaaGreatDoorJ42
import Derived.Test.YtdpkigdfhfippaaGreatDoorJ43
import Derived.DeepKeys4
/- Plans: the law on pixels and tiles. Written by gen_XS14N.py. -/
namespace Go.Proofs.YtdpkigdfhfippaaGreatDoor
open Go.RowKit Go.Maps

theorem P10.grown {w w' : World} {b : Nat} {t : Til} {row : Option Nat} (h : P10 w b t) (g : w.grownBy w' row) (ne : some b ≠ row) : P10 w' b t := by
  obtain ⟨h0, h1, h2, h3, h4, h5, h6, h7, h8, h9⟩ := h
  exact ⟨cg g ne h0, cg g ne h1, cg g ne h2, cg g ne h3, cg g ne h4, cg g ne h5, cg g ne h6, cg g ne h7, cg g ne h8, cg g ne h9⟩
theorem TilIn.grown {w w' : World} {b q : Nat} {t : Til} {row : Option Nat} (h : TilIn w b q t) (g : w.grownBy w' row) (ne : some b ≠ row) : TilIn w' b q t := by
  obtain ⟨h0, h1, h2, h3, h4, h5, h6, h7, h8, h9⟩ := h
  exact ⟨cg g ne h0, cg g ne h1, cg g ne h2, cg g ne h3, cg g ne h4, cg g ne h5, cg g ne h6, cg g ne h7, cg g ne h8, cg g ne h9⟩
theorem laid14 : laidOutB Tryz.prog = true := by kernel_rfl
theorem rect_law : WideMaps.KeyLaw Tryz.prog 44 := deep_law_laid laid14 (m := Tryz.prog.types.size + 1) (by decide +kernel) (of_decide_eq_true (by kernel_rfl)) (by kernel_rfl) (by rw [Tryz.underlying44])
theorem rect_zero (u : World) : (zeroValue 3).run Tryz.prog u = .ok (.int .i64 0) u := by kernel_rfl
theorem rect_key (x y : Int) (x0 : 0 ≤ x) (x1 : x ≤ 65536) (y0 : 0 ≤ y) (y1 : y ≤ 65536) : keyOf Tryz.prog 44 (.agg #[.int .i64 x, .int .i64 y, .int .i64 0, .int .i64 0]) = some (pxK x y) := by
  have hkt : Tryz.prog.keyType 44 = true := by kernel_rfl
  have hc : Tryz.prog.cellsOf 44 = 4 := by kernel_rfl
  have hi : Tryz.prog.cellsOf 3 = 1 := by kernel_rfl
  obtain ⟨m, hm⟩ : ∃ m, Tryz.prog.types.size = m + 1 := ⟨Tryz.prog.types.size - 1, by decide +kernel⟩
  have wx : (Lit.int .i64 x).wf = true := by simp [Lit.wf, IntKind.min, IntKind.max, IntKind.signed, IntKind.bits]; omega
  have wy : (Lit.int .i64 y).wf = true := by simp [Lit.wf, IntKind.min, IntKind.max, IntKind.signed, IntKind.bits]; omega
  have w0 : (Lit.int .i64 0).wf = true := by decide
  unfold keyOf
  simp only [Tryz.underlying44]
  rw [if_pos (by simp [hkt, Value.formed, Tryz.underlying44, hc]), hm]
  unfold Program.keyLits
  simp only [Tryz.underlying44, Value.cells]
  rw [if_pos (by simp [hc])]
  simp [Program.keyLits, hi, Tryz.underlying3, wx, wy, w0, List.mapM_cons, pxK]
theorem rect_inj {x y u v : Int} (h : pxK x y = pxK u v) (x0 : 0 ≤ x) (x1 : x ≤ 65536) (y0 : 0 ≤ y) (y1 : y ≤ 65536) (u0 : 0 ≤ u) (u1 : u ≤ 65536) (v0 : 0 ≤ v) (v1 : v ≤ 65536) : x = u ∧ y = v := by
  have a := rect_key x y x0 x1 y0 y1
  have b := rect_key u v u0 u1 v0 v1
  rw [h] at a
  have e := rect_law.inj a b
  simpa using e
set_option maxHeartbeats 8000000 in
set_option maxRecDepth 100000 in
theorem of_PlanCovers {K : World → Prop} {PT : World → Value → Value → Value → Stg → Int → Int → Prop} (hKB : ∀ w w', K w → Below w.heap.size w w' → K w') (CM : OMakeC K) (PC : PlanC K PT) (CL : ∀ w, K w → Calls Tryz.prog 23 #[] w fun e w' => e = .returned (.bool true) ∧ Below w.heap.size w w') (o : Opr) (ax : Option Addr) (cx : Nat) (ay : Option Addr) (cy : Nat) (a b c d : Int) (w : World) (hk : K w) (hA : OpAt w o ax cx ay cy) (hF : OpFits o) (ha : 0 ≤ a ∧ a ≤ 255) (hb : 0 ≤ b ∧ b ≤ 255) (hc : 0 ≤ c ∧ c ≤ 255) (hd : 0 ≤ d ∧ d ≤ 255) (u v : Int) (hu : In64 u) (hv : In64 v) :
    Calls Tryz.prog 5 #[opV o ax cx ay cy, .int .u8 a, .int .u8 b, .int .u8 c, .int .u8 d, .int .i64 u, .int .i64 v] w fun e w' => e = .returned (.bool true) ∧ Below w.heap.size w w' := by
  have CLV := fun w' (b' : Below w.heap.size w w') => lives14 hKB CM PC CL w' (hKB w w' hk b')
  have CST := fun w' (b' : Below w.heap.size w w') => stage14_any hKB CM o ax cx ay cy a b w' (hKB w w' hk b') (hA.below b') hF ha.1 ha.2 hb.1 hb.2
  have CK : ∀ w', Below w.heap.size w w' → K w' := fun w' b' => hKB w w' hk b'
  obtain ⟨p, hp, p0, p1⟩ : ∃ p, c % 24 = p ∧ 0 ≤ p ∧ p ≤ 23 := ⟨_, rfl, by omega, by omega⟩
  obtain ⟨q, hq, q0, q1⟩ : ∃ q, d % 24 = q ∧ 0 ≤ q ∧ q ≤ 23 := ⟨_, rfl, by omega, by omega⟩
  have P0 := hide (P9.new w 27 o.kd o.bd o.sg o.rd (.slice ax o.xs.length cx) (.slice ay o.ys.length cy) o.fl o.wd o.ht)
  obtain ⟨c0, c1⟩ := hc
  obtain ⟨d0, d1⟩ := hd
  generalize stgOf o (1 + a % 20) (1 + b % 20) = S at CST
  unfold opV at CST ⊢
  clear hA hF ha hb CM CL hk
  cases hs : stB 20 o (1 + a % 20) (1 + b % 20) with
  | false =>
    rw [hs] at CST
    have CST2 : ∀ w', Below w.heap.size w w' → Calls Tryz.prog 9 #[.agg #[.int .i64 o.kd, .int .i64 o.bd, .int .i64 o.sg, .int .i64 o.rd, .slice ax o.xs.length cx, .slice ay o.ys.length cy, .int .i64 o.fl, .int .i64 o.wd, .int .i64 o.ht], .int .u8 a, .int .u8 b] w' fun e w'' => e = .returned (.tuple #[.agg #[.pointer none, .pointer none, .int .i64 0], .agg #[.slice none 0 0, .slice none 0 0, .int .i64 0, .int .i64 0, .int .i64 0], .bool false]) ∧ Below w'.heap.size w' w'' := fun w' b' =>
      (CST w' b').mono fun e w'' ⟨hA, hB⟩ => by
        rcases hA with ⟨_, he⟩ | ⟨h0, _⟩
        · exact ⟨he, hB⟩
        · cases h0
    clear CST hs
    go_enter Tryz.func5, Tryz.ntmps5
    go_wp2_with (first
      | (go_at_call 8; (with_reducible refine (CLV _ (below1 _ _)).mono ?_); rintro e w1 ⟨rfl, b1⟩; have B1 := hide (bt (below1 _ _) b1); have P1 := P0.out.below b1; obtain ⟨g0, g1, g2, g3, g4, g5, g6, g7, g8⟩ := P1)
      | (go_at_call 9; (with_reducible refine (CST2 _ B1.out).mono ?_); rintro e w2 ⟨rfl, b2⟩; have B2 := hide (bt B1.out b2)))
    go_ret
    exact ⟨rfl, ba (ba B2.out _) _⟩
  | true =>
    rw [hs] at CST
    have CST2 : ∀ w', Below w.heap.size w w' → Calls Tryz.prog 9 #[.agg #[.int .i64 o.kd, .int .i64 o.bd, .int .i64 o.sg, .int .i64 o.rd, .slice ax o.xs.length cx, .slice ay o.ys.length cy, .int .i64 o.fl, .int .i64 o.wd, .int .i64 o.ht], .int .u8 a, .int .u8 b] w' fun e w'' => (∃ sx sy gx px gy py, e = .returned (.tuple #[.agg #[.pointer (some sx), .pointer (some sy), .int .i64 S.sb], .agg #[.slice (some ⟨gx, 0, none⟩) S.lx.length px, .slice (some ⟨gy, 0, none⟩) S.ly.length py, .int .i64 S.fx, .int .i64 S.fy, .int .i64 S.sb], .bool true]) ∧ Tab w'' (.pointer (some sx)) S.fx S.lx ∧ Tab w'' (.pointer (some sy)) S.fy S.ly) ∧ Below w'.heap.size w' w'' := fun w' b' =>
      (CST w' b').mono fun e w'' ⟨hA, hB⟩ => by
        rcases hA with ⟨h0, _⟩ | ⟨_, sx, sy, gx, px, gy, py, he, tx, ty, _, _⟩
        · cases h0
        · exact ⟨⟨sx, sy, gx, px, gy, py, he, tx, ty⟩, hB⟩
    clear CST hs
    have CN : ∀ (x y : Value) (w' : World), K w' → Tab w' x S.fx S.lx → Tab w' y S.fy S.ly → Calls Tryz.prog 10 #[.agg #[x, y, .int .i64 S.sb], .int .i64 (1 + p), .int .i64 (1 + q)] w' fun e w'' => (∃ v, e = .returned (.tuple #[.pointer (some v), .int .i64 0]) ∧ PT w'' (.pointer (some v)) x y S (1 + p) (1 + q)) ∧ Below w'.heap.size w' w'' := fun x y w' k tx ty =>
      (PC.new x y S (1 + p) (1 + q) w' k tx ty (by unfold In64; omega) (by unfold In64; omega)).mono fun e w'' ⟨hA, hB⟩ => by
        rcases hA with ⟨_, v, he, hp⟩ | ⟨h0, _⟩
        · obtain ⟨v, rfl⟩ := PC.ptr hp
          exact ⟨⟨v, he, hp⟩, hB⟩
        · exact absurd ((tileB_iff (a := 1 + p) (b := 1 + q)).2 ⟨by omega, by omega, by omega, by omega⟩) (by rw [h0]; decide)
    have CA : ∀ (v x y : Value) (w' : World), PT w' v x y S (1 + p) (1 + q) → _ := fun v x y w' h => PC.all h
    have CFI : ∀ (v x y : Value) (w' : World), PT w' v x y S (1 + p) (1 + q) → ∀ i j : Int, In64 i → In64 j → _ := fun v x y w' h i j h0 h1 => PC.find h i j h0 h1
    have PB : ∀ {w w' : World} {v x y : Value}, PT w v x y S (1 + p) (1 + q) → Below w.heap.size w w' → PT w' v x y S (1 + p) (1 + q) := fun h b => PC.below h b
    obtain ⟨A, hAA⟩ : ∃ A, 1 + p = A := ⟨_, rfl⟩
    obtain ⟨B, hBB⟩ : ∃ B, 1 + q = B := ⟨_, rfl⟩
    have hAp := hAA
    have hBq := hBB
    rw [hAA, hBB] at CN CA CFI PB
    have A0 : 1 ≤ A ∧ A ≤ 24 := by omega
    have B0 : 1 ≤ B ∧ B ≤ 24 := by omega
    obtain ⟨A0, A1⟩ := A0
    obtain ⟨B0, B1⟩ := B0
    obtain ⟨lx, ly, fx, fy, sb⟩ := S
    simp only at CST2 CN CA CFI PB
    obtain ⟨N, hN⟩ : ∃ N, (countF lx ly A B).toNat = N := ⟨_, rfl⟩
    simp only [hN] at CA
    have HNN := hide hN
    clear PC hN
    have q1 := plan_ptr_ne
    have hmm := @run_makeMap Tryz.prog
    obtain ⟨nx, hnx⟩ : ∃ nx, lx.length = nx := ⟨_, rfl⟩
    obtain ⟨ny, hny⟩ : ∃ ny, ly.length = ny := ⟨_, rfl⟩
    simp only [hnx, hny] at CST2
    have HNX := hide hnx
    have HNY := hide hny
    clear hnx hny
    go_enter Tryz.func5, Tryz.ntmps5
    go_wp2_with (first
      | (go_at_call 8; (with_reducible refine (CLV _ (below1 _ _)).mono ?_); rintro e w1 ⟨rfl, b1⟩; have D1 := hide (bt (below1 _ _) b1); have P1 := P0.out.below b1; obtain ⟨g0, g1, g2, g3, g4, g5, g6, g7, g8⟩ := P1)
      | (go_at_call 9; (with_reducible refine (CST2 _ D1.out).mono ?_); rintro e w2 ⟨⟨sx, sy, gx, px, gy, py, rfl, tx, ty⟩, b2⟩; have HX := hide (((tx.below (below1 _ (.cells #[.pointer (some sx), .pointer (some sy), .int .i64 sb] 31))).below (below1 _ (.cells #[.slice (some ⟨gx, 0, none⟩) nx px, .slice (some ⟨gy, 0, none⟩) ny py, .int .i64 fx, .int .i64 fy, .int .i64 sb] 34)))); have HY := hide (((ty.below (below1 _ (.cells #[.pointer (some sx), .pointer (some sy), .int .i64 sb] 31))).below (below1 _ (.cells #[.slice (some ⟨gx, 0, none⟩) nx px, .slice (some ⟨gy, 0, none⟩) ny py, .int .i64 fx, .int .i64 fy, .int .i64 sb] 34)))); have S2 := hide ((S3.new w2 31 (.pointer (some sx)) (.pointer (some sy)) (.int .i64 sb)).below (below1 _ (.cells #[.slice (some ⟨gx, 0, none⟩) nx px, .slice (some ⟨gy, 0, none⟩) ny py, .int .i64 fx, .int .i64 fy, .int .i64 sb] 34))); have D2 := hide (ba (ba (bt D1.out b2) (.cells #[.pointer (some sx), .pointer (some sy), .int .i64 sb] 31)) (.cells #[.slice (some ⟨gx, 0, none⟩) nx px, .slice (some ⟨gy, 0, none⟩) ny py, .int .i64 fx, .int .i64 fy, .int .i64 sb] 34)); clear tx ty)
      | (go_at_call 10; (with_reducible refine (CN _ _ _ (CK _ D2.out) HX.out HY.out).mono ?_); rintro e w3 ⟨⟨vp, rfl, hp⟩, b3⟩; have HP := hide hp; have D3 := hide (bt D2.out b3); have HX3 := hide (HX.out.below b3); have HY3 := hide (HY.out.below b3); have S3' := hide (S2.out.below b3); clear hp))
    have CTX := fun n => tab_to_d (HX3.out.below (bdN (Below.refl _ w3) n))
    have CTY := fun n => tab_to_d (HY3.out.below (bdN (Below.refl _ w3) n))
    simp only [HNX.out] at CTX
    simp only [HNY.out] at CTY
    obtain ⟨⟨s0, _⟩, ⟨s1, _⟩, ⟨s2, _⟩⟩ := S3'.out
    go_quiet ((first
      | (go_at_call 12; with_reducible exact calmD (CTX _))
      | (go_at_call 12; with_reducible exact calmD (CTY _))))
    clear CTX CTY s0 s1 s2
    go_wp2_with (go_at_call 11; (with_reducible refine (CA _ _ _ _ (PB HP.out (ba (bdN (Below.refl _ _) _) _))).mono ?_); rintro e w4 ⟨⟨ad, cap, rfl, ht, hz⟩, b4⟩; have HT := hide ht; have B34 := hide (bt (ba (bdN (Below.refl _ w3) nq) (.map #[] 0)) b4); have M4 := hide (show w4.ownsMap Tryz.prog 44 (plainElem (H := Unit) Tryz.prog 3) w3.heap.size 0 (.map []) from (World.ownsMap_made (w3.drewN nq) Tryz.prog 44 (plainElem (H := Unit) Tryz.prog 3)).kept (grown_below b4 none) (by simp)); have Z4 := hide (show w3.heap.size < w4.heap.size from Nat.lt_of_lt_of_le (by simp) b4.size); clear ht hz)
    have HXO := hide (tab_in HX3.out)
    have HYO := hide (tab_in HY3.out)
    clear CLV CST2 CN CA HX HY S2 S3' D1 D2 P0 b1 b2 b3 b4 q1 CK hKB hmm
    have hnx := HNX.out
    have hny := HNY.out
    obtain ⟨Ac, hAc⟩ : ∃ Ac, acrossF lx A = Ac := ⟨_, rfl⟩
    obtain ⟨Dn, hDn⟩ : ∃ Dn, acrossF ly B = Dn := ⟨_, rfl⟩
    have hN := HNN.out
    have X1 : 1 ≤ nx ∧ nx ≤ 65536 := by rw [← hnx]; exact HXO.out.2
    have Y1 : 1 ≤ ny ∧ ny ≤ 65536 := by rw [← hny]; exact HYO.out.2
    obtain ⟨X1, X2⟩ := X1
    obtain ⟨Y1, Y2⟩ := Y1
    have Ac1 : 1 ≤ Ac := by rw [← hAc]; exact steps_pos (by omega) A0
    have Dn1 : 1 ≤ Dn := by rw [← hDn]; exact steps_pos (by omega) B0
    have cin := count_in (LX := lx) (LY := ly) A0 B0
    have hC : countF lx ly A B = Ac * Dn := by unfold countF; rw [hAc, hDn]
    have hNi : (N : Int) = Ac * Dn := by rw [← hN, ← hC]; exact Int.toNat_of_nonneg cin.2.2.2.2.1
    have NB : N ≤ 4294967296 := by
      have h1 := cin.2.2.2.2.2
      rw [hC, ← hNi, hnx, hny] at h1
      have h2 : (nx : Int) * (ny : Int) ≤ 65536 * 65536 := Int.mul_le_mul (by omega) (by omega) (by omega) (by omega)
      omega
    have HTL := hide (fun (k : Nat) (hk : k < N) => show ∃ X Y W H f1 f2 f3 f4, tilF lx ly A B (k : Int) = ⟨(k : Int), X, Y, W, H, f1, f2, f3, f4, mostF ly⟩ ∧ (0 ≤ X ∧ 1 ≤ W ∧ X + W ≤ (nx : Int) ∧ W ≤ A) ∧ (0 ≤ Y ∧ 1 ≤ H ∧ Y + H ≤ (ny : Int) ∧ H ≤ B) ∧ (∀ i j, 0 ≤ i → i < W → 0 ≤ j → j < H → findF lx A B (X + i) (Y + j) = (k : Int)) ∧ areaF nx ny A B Ac ((k : Int) + 1) = areaF nx ny A B Ac (k : Int) + W * H ∧ 0 ≤ areaF nx ny A B Ac (k : Int) by
      have ok := tilF_ok (LX := lx) (LY := ly) HXO.out.1 HYO.out.1 (by rw [hnx]; exact X1) A0 B0 (k := (k : Int)) (by omega) (by rw [hC, ← hNi]; omega)
      obtain ⟨⟨x0, x1⟩, ⟨y0, y1⟩, ⟨w0, w1⟩, ⟨h0, h1⟩, _⟩ := ok
      obtain ⟨i0, i1, j0, j1, _⟩ := plc_in (A := Ac) (D := Dn) (k := (k : Int)) Ac1 (by omega) (by rw [← hNi]; omega)
      have XL := (steps_lt (n := (nx : Int)) (i := (k : Int) % Ac) A0).1 (by rw [← hnx]; show _ < acrossF lx A; omega)
      have YL := (steps_lt (n := (ny : Int)) (i := (k : Int) / Ac) B0).1 (by rw [← hny]; show _ < acrossF ly B; omega)
      unfold tilF tilAt at x0 x1 y0 y1 w0 w1 h0 h1 ⊢
      simp only [hAc, hnx, hny] at x0 x1 y0 y1 w0 w1 h0 h1 ⊢
      refine ⟨_, _, _, _, _, _, _, _, rfl, ⟨x0, w0, w1, by omega⟩, ⟨y0, h0, h1, by omega⟩, fun i j i2 i3 j2 j3 => ?_, ?_, ?_⟩
      · have := find_til (LX := lx) (a := A) (b := B) (k := (k : Int)) (i := i) (j := j) i2 (by omega) j2 (by omega)
        rw [hAc] at this
        exact this
      · refine area_step Ac1 YL (fun e => ?_) (fun e => ?_)
        · have h1 : ¬ ((k : Int) % Ac + 1) * A < (nx : Int) := fun h => by
            have h2 := (steps_lt (n := (nx : Int)) (i := (k : Int) % Ac + 1) A0).2 h
            rw [← hnx] at h2
            have h3 : (k : Int) % Ac + 1 < acrossF lx A := h2
            omega
          rw [Int.add_mul] at h1
          omega
        · exact (steps_lt (n := (nx : Int)) A0).1 (by rw [← hnx]; show _ < acrossF lx A; omega)
      · exact area_nonneg Ac1 A0 B0 (by omega) (by omega) YL)
    have HAL := hide (fun (k : Nat) (hk : k ≤ N) => show areaF nx ny A B Ac (k : Int) ≤ (nx : Int) * (ny : Int) by
      refine area_le Ac1 A0 ?_
      have h1 := Int.emod_lt_of_pos (k : Int) (show 0 < Ac by omega)
      have h2 := (steps_lt (n := (nx : Int)) (i := (k : Int) % Ac) A0).1 (by rw [← hnx]; show _ < acrossF lx A; omega)
      omega)
    have HEND := hide (show areaF nx ny A B Ac (N : Int) = (nx : Int) * (ny : Int) by
      have p := plc_of (A := Ac) (i := 0) (j := Dn) (by omega) (by omega)
      rw [show Dn * Ac + 0 = (N : Int) by rw [hNi, Int.mul_comm]; omega] at p
      unfold areaF
      rw [p.1, p.2, Int.zero_mul, Int.zero_mul, Int.add_zero, Int.min_eq_right]
      rw [← hny]
      exact steps_back B0 (by show acrossF ly B ≤ Dn; omega))
    have HZE := hide (area_zero (nx := nx) (ny := ny) (a := A) (b := B) (A := Ac) (by omega))
    have NXY : (nx : Int) * (ny : Int) ≤ 65536 * 65536 := Int.mul_le_mul (by omega) (by omega) (by omega) (by omega)
    have NXY0 : 0 ≤ (nx : Int) * (ny : Int) := Int.mul_nonneg (by omega) (by omega)
    obtain ⟨M, hM⟩ : ∃ M, mostF ly = M := ⟨_, rfl⟩
    simp only [hM] at HTL
    clear hnx hny hAc hDn hN hC hNi hM cin hAA hBB hAp hBq HXO HYO HNN
    go_loopg [75] N (fun r i wr => ∃ (k n : Nat) (D : DataW Unit), k + r = N ∧ i = .int .i64 (k : Int) ∧ wr.ownsMap Tryz.prog 44 (plainElem (H := Unit) Tryz.prog 3) w3.heap.size n D ∧ CovD D (Met lx nx ny A B k 0 0) n ∧ (n : Int) = areaF nx ny A B Ac (k : Int) ∧ Below w3.heap.size w3 wr ∧ w4.grownBy wr (some w3.heap.size))
    case atStart => exact ⟨0, 0, .map [], by omega, rfl, M4.out, CovD.nil _, HZE.out.symm, B34.out, grown_below (Below.refl _ _) _⟩
    case round =>
      obtain ⟨k, n, D, hk, rfl, ho, hd, hn, hb, hg⟩ := hrel
      obtain ⟨G, hG⟩ : ∃ G, G = gk := ⟨_, rfl⟩
      subst hG
      obtain ⟨W0, hW0⟩ : ∃ W0, W0 = wr := ⟨_, rfl⟩
      subst hW0
      have HK := hide hk
      have HB := hide hb
      have HO := hide ho
      have HD := hide hd
      have HN := hide hn
      have HG := hide hg
      have z0 : w3.heap.size < W0.heap.size := Nat.lt_of_lt_of_le Z4.out hg.size
      clear hk hn hd
      by_cases hlt : k < N
      · obtain ⟨b', off, rfl, ht⟩ := HT.out.get hlt
        replace ht := ht.grown hg (map_apart M4.out ht.1)
        obtain ⟨X, Y, W, H, f1, f2, f3, f4, he, ⟨X0, Wp, XW, _⟩, ⟨Y0, Hp, YH, _⟩, hfi, hst, ha0⟩ := HTL.out k hlt
        simp only [he] at ht
        obtain ⟨Wn, hWn⟩ : ∃ Wn : Nat, (Wn : Int) = W := ⟨_, Int.toNat_of_nonneg (by omega)⟩
        obtain ⟨Hn, hHn⟩ : ∃ Hn : Nat, (Hn : Int) = H := ⟨_, Int.toNat_of_nonneg (by omega)⟩
        subst hWn hHn
        have HFI := hide hfi
        have HST := hide hst
        have HA0 := hide ha0
        obtain ⟨t0, t1, t2, t3, t4, t5, t6, t7, t8, t9⟩ := ht
        simp only at t0 t1 t2 t3 t4 t5 t6 t7 t8 t9
        obtain ⟨W1, hW1⟩ : ∃ W1, W0.alloc (.cells #[.int .i64 (k : Int), .int .i64 X, .int .i64 Y, .int .i64 (Wn : Int), .int .i64 (Hn : Int), .int .i64 f1, .int .i64 f2, .int .i64 f3, .int .i64 f4, .int .i64 M] 46) = W1 := ⟨_, rfl⟩
        have B1 := hide (show Below W0.heap.size W0 W1 by rw [← hW1]; exact below1 _ _)
        have z1 : W0.heap.size < W1.heap.size := by rw [← hW1]; simp
        have P1 := hide (show P10 W1 W0.heap.size ⟨(k : Int), X, Y, (Wn : Int), (Hn : Int), f1, f2, f3, f4, M⟩ by rw [← hW1]; exact P10.new W0 46 ⟨(k : Int), X, Y, (Wn : Int), (Hn : Int), f1, f2, f3, f4, M⟩)
        have BA := hide (bt HB.out B1.out)
        have O1 := hide (HO.out.kept (grown_below B1.out none) (by simp))
        obtain ⟨u0, u1, u2, u3, u4, u5, u6, u7, u8, u9⟩ := P1.out
        simp only at u0 u1 u2 u3 u4 u5 u6 u7 u8 u9
        clear he hb ho hg hfi hst ha0
        go_wp2
        clear t0 t1 t2 t3 t4 t5 t6 t7 t8 t9 u0 u1 u2 u3 u4 u5 u6 u7 u8 u9
        go_loopg [92] Wn (fun r i wr => ∃ (p n : Nat) (D : DataW Unit), p + r = Wn ∧ i = .int .i64 (p : Int) ∧ wr.ownsMap Tryz.prog 44 (plainElem (H := Unit) Tryz.prog 3) w3.heap.size n D ∧ CovD D (Met lx nx ny A B k (X + (p : Int)) Y) n ∧ (n : Int) = areaF nx ny A B Ac (k : Int) + (p : Int) * (Hn : Int) ∧ Below w3.heap.size w3 wr ∧ W1.grownBy wr (some w3.heap.size))
        case atStart => exact ⟨0, n, D, by omega, rfl, O1.out, HD.out.mono (fun x y h => by
          obtain ⟨h0, h1, h2, h3, h⟩ := h
          refine ⟨h0, h1, h2, h3, ?_⟩
          rcases h with h | ⟨_, h⟩
          · exact .inl h
          · omega), by rw [HN.out]; simp, BA.out, grown_below (Below.refl _ _) _⟩
        case round =>
          obtain ⟨p, n2, D2, hp, rfl, ho2, hd2, hn2, hb2, hg2⟩ := hrel
          obtain ⟨G2, hG2⟩ : ∃ G2, G2 = gk := ⟨_, rfl⟩
          subst hG2
          have HP2 := hide hp
          have HB2 := hide hb2
          have HO2 := hide ho2
          have HD2 := hide hd2
          have HN2 := hide hn2
          have HG2 := hide hg2
          obtain ⟨W2, hW2⟩ : ∃ W2, W2 = wr := ⟨_, rfl⟩
          subst hW2
          have PN2 := hide (P1.out.grown hg2 (by intro e; have := Option.some.inj e; omega))
          clear hp hd2 hn2
          by_cases hlt2 : p < Wn
          · obtain ⟨u0, u1, u2, u3, u4, u5, u6, u7, u8, u9⟩ := PN2.out
            simp only at u0 u1 u2 u3 u4 u5 u6 u7 u8 u9
            clear hb2 ho2 hg2
            go_wp2
            clear u0 u1 u2 u3 u4 u5 u6 u7 u8 u9
            go_loopg [98] Hn (fun r i wr => ∃ (q n : Nat) (D : DataW Unit), q + r = Hn ∧ i = .int .i64 (q : Int) ∧ wr.ownsMap Tryz.prog 44 (plainElem (H := Unit) Tryz.prog 3) w3.heap.size n D ∧ CovD D (Met lx nx ny A B k (X + (p : Int)) (Y + (q : Int))) n ∧ (n : Int) = areaF nx ny A B Ac (k : Int) + (p : Int) * (Hn : Int) + (q : Int) ∧ Below w3.heap.size w3 wr ∧ W1.grownBy wr (some w3.heap.size))
            case atStart => exact ⟨0, n2, D2, by omega, rfl, HO2.out, by simpa using HD2.out, by rw [HN2.out]; simp, HB2.out, HG2.out⟩
            case round =>
              obtain ⟨q, n3, D3, hq, rfl, ho3, hd3, hn3, hb3, hg3⟩ := hrel
              have HQ3 := hide hq
              have HB3 := hide hb3
              have HO3 := hide ho3
              have HD3 := hide hd3
              have HN3 := hide hn3
              have HG3 := hide hg3
              have PN3 := hide (P1.out.grown hg3 (by intro e; have := Option.some.inj e; omega))
              clear hq hd3 hn3
              by_cases hlt3 : q < Hn
              · obtain ⟨u0, u1, u2, u3, u4, u5, u6, u7, u8, u9⟩ := PN3.out
                simp only at u0 u1 u2 u3 u4 u5 u6 u7 u8 u9
                have hfp := HFI.out (p : Int) (q : Int) (by omega) (by omega) (by omega) (by omega)
                have CF1 : ∀ w', Below w3.heap.size w3 w' → Calls Tryz.prog 19 #[.pointer (some vp), .int .i64 (X + (p : Int)), .int .i64 (Y + (q : Int))] w' fun e w'' => e = .returned (.tuple #[.int .i64 (k : Int), .bool true]) ∧ Below w'.heap.size w' w'' := fun w' b' => by
                  have := CFI _ _ _ _ (PB HP.out b') (X + (p : Int)) (Y + (q : Int)) (by unfold In64; omega) (by unfold In64; omega)
                  rw [HNX.out, HNY.out, hfp, show inB (nx : Int) (X + (p : Int)) = true from inB_iff.2 ⟨by omega, by omega⟩, show inB (ny : Int) (Y + (q : Int)) = true from inB_iff.2 ⟨by omega, by omega⟩] at this
                  exact this
                have HFP := hide hfp
                clear hb3 ho3 hg3 hfp
                have xl : X + (p : Int) < (nx : Int) := by omega
                have yl : Y + (q : Int) < (ny : Int) := by omega
                have x0 : 0 ≤ X + (p : Int) := by omega
                have y0 : 0 ≤ Y + (q : Int) := by omega
                have z3 : w3.heap.size < wr.heap.size := Nat.lt_of_lt_of_le (by omega) HG3.out.size
                go_upto_region 26 with (go_at_call 19; (with_reducible refine (CF1 _ (ba HB3.out _)).mono ?_); rintro e w7 ⟨rfl, b7⟩; have D7 := hide (bt (ba HB3.out _) b7); have G7 := hide (HG3.out.trans ((grown_below (below1 wr (.cells #[.int .i64 (X + (p : Int)), .int .i64 (Y + (q : Int)), .int .i64 0, .int .i64 0] 44)) (some w3.heap.size)).trans (grown_below b7 (some w3.heap.size)))); have O7 := hide ((HO3.out.alloc (.cells #[.int .i64 (X + (p : Int)), .int .i64 (Y + (q : Int)), .int .i64 0, .int .i64 0] 44)).kept (grown_below b7 none) (by simp)); obtain ⟨x0, x1, x2, x3, x4, x5, x6, x7, x8, x9⟩ := (P1.out.grown G7.out (by intro e; have := Option.some.inj e; omega)); simp only at x0 x1 x2 x3 x4 x5 x6 x7 x8 x9; have r0 := cb b7 (b := wr.heap.size) (o := 0) (v := .int .i64 (X + (p : Int))) (by simp) (by simp); have r1 := cb b7 (b := wr.heap.size) (o := 1) (v := .int .i64 (Y + (q : Int))) (by simp) (by simp); have r2 := cb b7 (b := wr.heap.size) (o := 2) (v := .int .i64 0) (by simp) (by simp); have r3 := cb b7 (b := wr.heap.size) (o := 3) (v := .int .i64 0) (by simp) (by simp))
                clear u0 u1 u2 u3 u4 u5 u6 u7 u8 u9 x0 x1 x2 x3 x4 x5 x6 x7 x8 x9 b7 CF1
                have hkey := rect_key (X + (p : Int)) (Y + (q : Int)) (by omega) (by omega) (by omega) (by omega)
                have hno := HD3.out.lacks (x := X + (p : Int)) (y := Y + (q : Int)) (fun a b h e => rect_inj e (by omega) (by omega) (by omega) (by omega) h.1 (by have := h.2.1; omega) h.2.2.1 (by have := h.2.2.2.1; omega)) (Met.new x0 xl y0 yl HFP.out).2
                have hmax : n3 < maxLen := by
                  have h1 := HN3.out
                  have h2 := HAL.out (k + 1) (by omega)
                  have h3 := HST.out
                  have h4 : (p : Int) * (Hn : Int) + (q : Int) ≤ (Wn : Int) * (Hn : Int) := by
                    have : ((p : Int) + 1) * (Hn : Int) ≤ (Wn : Int) * (Hn : Int) := Int.mul_le_mul_of_nonneg_right (by omega) (by omega)
                    rw [Int.add_mul] at this
                    omega
                  rw [Int.natCast_add, show ((1 : Nat) : Int) = 1 from rfl, h3] at h2
                  unfold maxLen
                  omega
                obtain ⟨st, wa, wb, e1, e2, e3, e4, o4, ga, gb⟩ := map_fresh rect_law Tryz.underlying58 Tryz.underlying3 rect_zero (O7.out.drew) hmax hkey hno 1 (by decide)
                have ra0 := cg ga (by intro e; have := Option.some.inj e; omega) (show w7.drew.cell? ⟨wr.heap.size, 0, none⟩ = some (.int .i64 (X + (p : Int))) from r0)
                have ra1 := cg ga (by intro e; have := Option.some.inj e; omega) (show w7.drew.cell? ⟨wr.heap.size, 1, none⟩ = some (.int .i64 (Y + (q : Int))) from r1)
                have ra2 := cg ga (by intro e; have := Option.some.inj e; omega) (show w7.drew.cell? ⟨wr.heap.size, 2, none⟩ = some (.int .i64 0) from r2)
                have ra3 := cg ga (by intro e; have := Option.some.inj e; omega) (show w7.drew.cell? ⟨wr.heap.size, 3, none⟩ = some (.int .i64 0) from r3)
                have O8 := hide o4
                have GB := hide gb
                clear o4 ga gb hno hkey
                go_region
                all_goals
                  go_wp2
                  have DB := (bd D7.out).grown GB.out (bd D7.out).size (fun j hj => by cases hj; exact Nat.le_refl _)
                  go_roundg (gk - 1)
                  case measure => have := HQ3.out; omega
                  case rel => exact ⟨q + 1, n3 + 1, _, by have := HQ3.out; omega, by go_num, O8.out, by
                    have hno := HD3.out.lacks (x := X + (p : Int)) (y := Y + (q : Int)) (fun a b h e => rect_inj e (by omega) (by omega) (by omega) (by omega) h.1 (by have := h.2.1; omega) h.2.2.1 (by have := h.2.2.2.1; omega)) (Met.new x0 xl y0 yl HFP.out).2
                    rw [Int.natCast_add, show ((1 : Nat) : Int) = 1 from rfl, ← Int.add_assoc]
                    exact HD3.out.more hno (fun a b h => h.down) (Met.new x0 xl y0 yl HFP.out).1, by have := HN3.out; omega, DB, (G7.out.trans (grown_drew _ _)).trans GB.out⟩
              · obtain rfl : Hn = q := by have := HQ3.out; omega
                clear hlt3
                go_wp2
                go_roundg (G2 - 1)
                case measure => have := HP2.out; omega
                case rel => exact ⟨p + 1, n3, D3, by have := HP2.out; omega, by go_num, HO3.out, HD3.out.mono (fun x y h => by
                  have := h.right Y
                  rw [Int.natCast_add, show ((1 : Nat) : Int) = 1 from rfl, ← Int.add_assoc]
                  exact this), by rw [HN3.out, Int.natCast_add, Int.add_mul]; omega, HB3.out, HG3.out⟩
          · obtain rfl : Wn = p := by have := HP2.out; omega
            clear hlt2
            go_wp2
            go_roundg (G - 1)
            case measure => have := HK.out; omega
            case rel => exact ⟨k + 1, n2, D2, by have := HK.out; omega, by go_num, HO2.out, HD2.out.mono (fun x y h => by
              have := h.next 0 0
              rw [Int.natCast_add, show ((1 : Nat) : Int) = 1 from rfl]
              exact this), by rw [HN2.out, Int.natCast_add, show ((1 : Nat) : Int) = 1 from rfl, HST.out], HB2.out, ((HG.out.trans (grown_below B1.out _)).trans HG2.out)⟩
      · obtain rfl : N = k := by have := HK.out; omega
        have O5 := HO
        have HSZ := hide (show ((Maps.size D : Nat) : Int) = (nx : Int) * (ny : Int) by rw [HD.out.size, HN.out, HEND.out])
        have CF2 : ∀ w', Below W0.heap.size W0 w' → _ := fun w' b' => CFI _ _ _ _ (PB HP.out (bt HB.out b')) u v hu hv
        rw [HNX.out, HNY.out] at CF2
        have BW := hide (bt D3.out HB.out)
        have HU := hide hu
        have HV := hide hv
        clear hb ho hg CFI PB HTL HAL
        go_wp2_with (at_range; refine wpList_range_own _ rfl _ 58 rfl 44 3 (Keyed.of_law rect_law) Tryz.underlying58 _ w3.heap.size n _ rfl O5.out ?_; intro wq hrg0 hg0 hs0)
        go_frame
        go_loopw [31] (fun _ wr => ∃ (left : Lit → Bool) (cnt : Nat), wr.ranges Tryz.prog 44 (plainElem Tryz.prog 3) w3.heap.size W0.heap.size n D left cnt ∧ Below W0.heap.size W0 wr) (fun _ wr => wr.rangeLeft w3.heap.size W0.heap.size)
        case atStart => exact ⟨_, _, hrg0, below_grown hg0⟩
        case round =>
          clear hrg0 hg0 hs0
          obtain ⟨left, cnt, hrg, hbr⟩ := hrel
          go_wp2_with (at_next; refine wpList_next_ranges_vi _ rfl _ rfl 44 3 .i64 (Keyed.of_law rect_law) Tryz.underlying3 w3.heap.size W0.heap.size n _ _ _ rfl hrg ?_ ?_)
          · intro _
            have BR := hide hbr
            have OW := hide hrg.owns
            have HCF := hide CF2
            clear hrg hbr CF2
            by_cases hin : (0 ≤ u ∧ u < (nx : Int)) ∧ 0 ≤ v ∧ v < (ny : Int)
            · obtain ⟨⟨q0, q1⟩, q2, q3⟩ := hin
              have CF3 : ∀ w', Below W0.heap.size W0 w' → Calls Tryz.prog 19 #[.pointer (some vp), .int .i64 u, .int .i64 v] w' fun e w'' => e = .returned (.tuple #[.int .i64 (findF lx A B u v), .bool true]) ∧ Below w'.heap.size w' w'' := fun w' b' => by
                have := HCF.out w' b'
                rw [show inB (nx : Int) u = true from inB_iff.2 ⟨q0, q1⟩, show inB (ny : Int) v = true from inB_iff.2 ⟨q2, q3⟩] at this
                exact this
              have hz : (((Maps.size D : Nat) : Int) == (nx : Int) * (ny : Int)) = true := beq_iff_eq.2 HSZ.out
              clear HCF HSZ
              generalize findF lx A B u v = F at *
              go_wp2_with (first
                | (go_at_call 19; (with_reducible refine (CF3 _ BR.out).mono ?_); rintro e w8 ⟨rfl, b8⟩; have D8 := hide (bt BR.out b8); have O8 := OW.out.kept (grown_below b8 none) (by simp))
                | (at_len; refine wpList_len_own _ rfl _ 58 rfl 44 3 Tryz.underlying58 _ w3.heap.size n D rfl O8 ?_))
              go_ret
              exact ⟨rfl, bt BW.out D8.out⟩
            · have hno : (inB (nx : Int) u && inB (ny : Int) v) = false := by
                cases hb : inB (nx : Int) u && inB (ny : Int) v
                · rfl
                · rw [Bool.and_eq_true, inB_iff, inB_iff] at hb
                  exact absurd hb hin
              have CF3 : ∀ w', Below W0.heap.size W0 w' → Calls Tryz.prog 19 #[.pointer (some vp), .int .i64 u, .int .i64 v] w' fun e w'' => e = .returned (.tuple #[.int .i64 0, .bool false]) ∧ Below w'.heap.size w' w'' := fun w' b' => by
                have := HCF.out w' b'
                rw [hno] at this
                exact this
              have hz : (((Maps.size D : Nat) : Int) == (nx : Int) * (ny : Int)) = true := beq_iff_eq.2 HSZ.out
              have hcase : u < 0 ∨ (0 ≤ u ∧ (nx : Int) ≤ u) ∨ (0 ≤ u ∧ u < (nx : Int) ∧ v < 0) ∨ (0 ≤ u ∧ u < (nx : Int) ∧ 0 ≤ v ∧ decide (v < (ny : Int)) = false) := by
                simp only [decide_eq_false_iff_not]
                omega
              clear HCF HSZ hno hin
              rcases hcase with q0 | ⟨q0, q1⟩ | ⟨q0, q1, q2⟩ | ⟨q0, q1, q2, q3⟩
              all_goals
                go_wp2_with (first
                  | (go_at_call 19; (with_reducible refine (CF3 _ BR.out).mono ?_); rintro e w8 ⟨rfl, b8⟩; have D8 := hide (bt BR.out b8); have O8 := OW.out.kept (grown_below b8 none) (by simp))
                  | (at_len; refine wpList_len_own _ rfl _ 58 rfl 44 3 Tryz.underlying58 _ w3.heap.size n D rfl O8 ?_))
                go_ret
                exact ⟨rfl, bt BW.out D8.out⟩
          · intro x c kl w1 cnt1 hlx hat hrg1 hlt1 hg1 hs1 hen
            obtain rfl := HD.out.one hat
            have BR := hide (hbr.grown hg1 hbr.size (fun j hj => by cases hj; exact Nat.le_refl _))
            have HR0 := hide hrg
            have HR1 := hide hrg1
            clear hrg hrg1 hat hbr hg1
            go_wp2
            go_roundw
            case rel => exact ⟨_, cnt1, HR1.out, BR.out⟩
            case measure => rw [HR1.out.left_eq, HR0.out.left_eq]; exact hlt1
end Go.Proofs.YtdpkigdfhfippaaGreatDoor
