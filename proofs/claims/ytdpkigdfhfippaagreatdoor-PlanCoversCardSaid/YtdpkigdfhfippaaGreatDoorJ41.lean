/- Parts, joined. -/
import Derived.Test.YtdpkigdfhfippaaGreatDoorJ40
/- Plans: tiles and stages compared; a tile as the document has it. Written by gen_XS14I.py. -/
namespace Go.Proofs.YtdpkigdfhfippaaGreatDoor
open Go.RowKit


theorem same_tile_p (a0 a1 a2 a3 a4 a5 a6 a7 a8 a9 : Int) (w : World) : (binOp .neq 46 (.agg #[.int .i64 a0, .int .i64 a1, .int .i64 a2, .int .i64 a3, .int .i64 a4, .int .i64 a5, .int .i64 a6, .int .i64 a7, .int .i64 a8, .int .i64 a9]) (.agg #[.int .i64 a0, .int .i64 a1, .int .i64 a2, .int .i64 a3, .int .i64 a4, .int .i64 a5, .int .i64 a6, .int .i64 a7, .int .i64 a8, .int .i64 a9])).run Tryz.prog w = .ok (.bool false) w := by
  go_simp
theorem same_tile_d (a0 a1 a2 a3 a4 a5 a6 a7 a8 a9 : Int) (w : World) : (binOp .neq 55 (.agg #[.int .i64 a0, .int .i64 a1, .int .i64 a2, .int .i64 a3, .int .i64 a4, .int .i64 a5, .int .i64 a6, .int .i64 a7, .int .i64 a8, .int .i64 a9]) (.agg #[.int .i64 a0, .int .i64 a1, .int .i64 a2, .int .i64 a3, .int .i64 a4, .int .i64 a5, .int .i64 a6, .int .i64 a7, .int .i64 a8, .int .i64 a9])).run Tryz.prog w = .ok (.bool false) w := by
  go_simp
theorem same_tab0 (d : Nat) (x : Addr) (w : World) : (Op.equalIn (d + 1) 29 (.pointer (some x)) (.pointer (some x))).run Tryz.prog w = .ok true w := by
  simp [Op.equalIn, run_underlying Tryz.underlying29, sameAddr]
theorem same_tab (x : Addr) (w : World) : (Op.equalIn 9999 29 (.pointer (some x)) (.pointer (some x))).run Tryz.prog w = .ok true w := same_tab0 9998 x w
theorem same_stage (x y : Addr) (b : Int) (w : World) : (binOp .neq 31 (.agg #[.pointer (some x), .pointer (some y), .int .i64 b]) (.agg #[.pointer (some x), .pointer (some y), .int .i64 b])).run Tryz.prog w = .ok (.bool false) w := by
  have q := same_tab
  go_simp
theorem zero_tile (w : World) : (binOp .eql 46 (.agg #[.int .i64 0, .int .i64 0, .int .i64 0, .int .i64 0, .int .i64 0, .int .i64 0, .int .i64 0, .int .i64 0, .int .i64 0, .int .i64 0]) (.agg #[.int .i64 0, .int .i64 0, .int .i64 0, .int .i64 0, .int .i64 0, .int .i64 0, .int .i64 0, .int .i64 0, .int .i64 0, .int .i64 0])).run Tryz.prog w = .ok (.bool true) w := by
  kernel_rfl
set_option maxRecDepth 100000 in
theorem ref14_any (a0 a1 a2 a3 a4 a5 a6 a7 a8 a9 : Int) (w : World) : Calls Tryz.prog 18 #[.agg #[.int .i64 a0, .int .i64 a1, .int .i64 a2, .int .i64 a3, .int .i64 a4, .int .i64 a5, .int .i64 a6, .int .i64 a7, .int .i64 a8, .int .i64 a9]] w fun e w' => e = .returned (.agg #[.int .i64 a0, .int .i64 a1, .int .i64 a2, .int .i64 a3, .int .i64 a4, .int .i64 a5, .int .i64 a6, .int .i64 a7, .int .i64 a8, .int .i64 a9]) ∧ Below w.heap.size w w' := by
  go_enter Tryz.func18, Tryz.ntmps18
  go_wp2
  exact bodyPost_ret (v := (.agg #[.int .i64 a0, .int .i64 a1, .int .i64 a2, .int .i64 a3, .int .i64 a4, .int .i64 a5, .int .i64 a6, .int .i64 a7, .int .i64 a8, .int .i64 a9])) (by simp [results, Tryz.results18, go_sem]) rfl ⟨rfl, ba (below1 _ _) _⟩
end Go.Proofs.YtdpkigdfhfippaaGreatDoor

/- Plans: the law on all tiles, as the document has them. Written by gen_XS14J.py. -/
namespace Go.Proofs.YtdpkigdfhfippaaGreatDoor
open Go.RowKit


theorem tileB_no {a b : Int} (h : tileB a b = false) : a < 1 ∨ (¬ a < 1 ∧ 4096 < a) ∨ (¬ a < 1 ∧ ¬ 4096 < a ∧ b < 1) ∨ (¬ a < 1 ∧ ¬ 4096 < a ∧ ¬ b < 1 ∧ 4096 < b) := by
  have : ¬ (1 ≤ a ∧ a ≤ 4096 ∧ 1 ≤ b ∧ b ≤ 4096) := of_decide_eq_false h
  omega
set_option maxHeartbeats 8000000 in
set_option maxRecDepth 100000 in
theorem of_PlanTiles {K : World → Prop} {PT : World → Value → Value → Value → Stg → Int → Int → Prop} (hKB : ∀ w w', K w → Below w.heap.size w w' → K w') (CM : OMakeC K) (PC : PlanC K PT) (CL : ∀ w, K w → Calls Tryz.prog 23 #[] w fun e w' => e = .returned (.bool true) ∧ Below w.heap.size w w') (o : Opr) (ax : Option Addr) (cx : Nat) (ay : Option Addr) (cy : Nat) (a b c d j : Int) (w : World) (hk : K w) (hA : OpAt w o ax cx ay cy) (hF : OpFits o) (ha : 0 ≤ a ∧ a ≤ 255) (hb : 0 ≤ b ∧ b ≤ 255) (hc : In64 c) (hd : In64 d) (hj : In64 j) :
    Calls Tryz.prog 4 #[opV o ax cx ay cy, .int .u8 a, .int .u8 b, .int .i64 c, .int .i64 d, .int .i64 j] w fun e w' => e = .returned (.bool true) ∧ Below w.heap.size w w' := by
  have CLV := fun w' (b' : Below w.heap.size w w') => lives14 hKB CM PC CL w' (hKB w w' hk b')
  have CST := fun w' (b' : Below w.heap.size w w') => stage14_any hKB CM o ax cx ay cy a b w' (hKB w w' hk b') (hA.below b') hF ha.1 ha.2 hb.1 hb.2
  have CK : ∀ w', Below w.heap.size w w' → K w' := fun w' b' => hKB w w' hk b'
  have P0 := hide (P9.new w 27 o.kd o.bd o.sg o.rd (.slice ax o.xs.length cx) (.slice ay o.ys.length cy) o.fl o.wd o.ht)
  generalize stgOf o (1 + a % 20) (1 + b % 20) = S at CST
  unfold opV at CST ⊢
  clear hA hF ha hb CM CL hk
  cases hs : stB 20 o (1 + a % 20) (1 + b % 20) with
  | false =>
    rw [hs] at CST
    have CST2 : ∀ w', Below w.heap.size w w' → Calls Tryz.prog 9 #[.agg #[.int .i64 o.kd, .int .i64 o.bd, .int .i64 o.sg, .int .i64 o.rd, .slice ax o.xs.length cx, .slice ay o.ys.length cy, .int .i64 o.fl, .int .i64 o.wd, .int .i64 o.ht], .int .u8 a, .int .u8 b] w' fun e w'' => e = .returned (.tuple #[.agg #[.pointer none, .pointer none, .int .i64 0], .agg #[.slice none 0 0, .slice none 0 0, .int .i64 0, .int .i64 0, .int .i64 0], .bool false]) ∧ Below w'.heap.size w' w'' := fun w' b' =>
      (CST w' b').mono fun e w'' ⟨hA, hB⟩ => by
        rcases hA with ⟨_, he⟩ | ⟨h0, _⟩
        · exact ⟨he, hB⟩
        · cases h0
    clear CST hs
    go_enter Tryz.func4, Tryz.ntmps4
    go_wp2_with (first
      | (go_at_call 8; (with_reducible refine (CLV _ (below1 _ _)).mono ?_); rintro e w1 ⟨rfl, b1⟩; have D1 := hide (bt (below1 _ _) b1); have P1 := P0.out.below b1; obtain ⟨g0, g1, g2, g3, g4, g5, g6, g7, g8⟩ := P1)
      | (go_at_call 9; (with_reducible refine (CST2 _ D1.out).mono ?_); rintro e w2 ⟨rfl, b2⟩; have B2 := hide (bt D1.out b2)))
    go_ret
    exact ⟨rfl, ba (ba B2.out _) _⟩
  | true =>
    rw [hs] at CST
    have CST2 : ∀ w', Below w.heap.size w w' → Calls Tryz.prog 9 #[.agg #[.int .i64 o.kd, .int .i64 o.bd, .int .i64 o.sg, .int .i64 o.rd, .slice ax o.xs.length cx, .slice ay o.ys.length cy, .int .i64 o.fl, .int .i64 o.wd, .int .i64 o.ht], .int .u8 a, .int .u8 b] w' fun e w'' => (∃ sx sy gx px gy py, e = .returned (.tuple #[.agg #[.pointer (some sx), .pointer (some sy), .int .i64 S.sb], .agg #[.slice (some ⟨gx, 0, none⟩) S.lx.length px, .slice (some ⟨gy, 0, none⟩) S.ly.length py, .int .i64 S.fx, .int .i64 S.fy, .int .i64 S.sb], .bool true]) ∧ Tab w'' (.pointer (some sx)) S.fx S.lx ∧ Tab w'' (.pointer (some sy)) S.fy S.ly ∧ LinesAt w'' gx S.lx ∧ LinesAt w'' gy S.ly) ∧ Below w'.heap.size w' w'' := fun w' b' =>
      (CST w' b').mono fun e w'' ⟨hA, hB⟩ => by
        rcases hA with ⟨h0, _⟩ | ⟨_, sx, sy, gx, px, gy, py, he, tx, ty, rx, ry⟩
        · cases h0
        · exact ⟨⟨sx, sy, gx, px, gy, py, he, tx, ty, rx, ry⟩, hB⟩
    clear CST hs
    obtain ⟨lx, ly, fx, fy, sb⟩ := S
    simp only at CST2
    obtain ⟨nx, hnx⟩ : ∃ nx, lx.length = nx := ⟨_, rfl⟩
    obtain ⟨ny, hny⟩ : ∃ ny, ly.length = ny := ⟨_, rfl⟩
    rw [hnx, hny] at CST2
    have HNX := hide hnx
    have HNY := hide hny
    cases htb : tileB c d with
    | false =>
      have CN : ∀ (x y : Value) (w' : World), K w' → Tab w' x fx lx → Tab w' y fy ly → Calls Tryz.prog 10 #[.agg #[x, y, .int .i64 sb], .int .i64 c, .int .i64 d] w' fun e w'' => e = .returned (.tuple #[.pointer none, .int .i64 9]) ∧ Below w'.heap.size w' w'' := fun x y w' k tx ty =>
        (PC.new x y ⟨lx, ly, fx, fy, sb⟩ c d w' k tx ty hc hd).mono fun e w'' ⟨hA, hB⟩ => by
          rcases hA with ⟨h0, _⟩ | ⟨_, he⟩
          · rw [htb] at h0; cases h0
          · exact ⟨he, hB⟩
      have q1 := plan_nil
      have hno := tileB_no htb
      clear PC htb hnx hny
      rcases hno with h1 | ⟨h1, h2⟩ | ⟨h1, h2, h3⟩ | ⟨h1, h2, h3, h4⟩
      all_goals
        go_enter Tryz.func4, Tryz.ntmps4
        go_wp2_with (first
          | (go_at_call 8; (with_reducible refine (CLV _ (below1 _ _)).mono ?_); rintro e w1 ⟨rfl, b1⟩; have D1 := hide (bt (below1 _ _) b1); have P1 := P0.out.below b1; obtain ⟨g0, g1, g2, g3, g4, g5, g6, g7, g8⟩ := P1)
          | (go_at_call 9; (with_reducible refine (CST2 _ D1.out).mono ?_); rintro e w2 ⟨⟨sx, sy, gx, px, gy, py, rfl, tx, ty, rx, ry⟩, b2⟩; have HX := hide ((tx.below (below1 _ (.cells #[.pointer (some sx), .pointer (some sy), .int .i64 sb] 31))).below (below1 _ (.cells #[.slice (some ⟨gx, 0, none⟩) nx px, .slice (some ⟨gy, 0, none⟩) ny py, .int .i64 fx, .int .i64 fy, .int .i64 sb] 34))); have HY := hide ((ty.below (below1 _ (.cells #[.pointer (some sx), .pointer (some sy), .int .i64 sb] 31))).below (below1 _ (.cells #[.slice (some ⟨gx, 0, none⟩) nx px, .slice (some ⟨gy, 0, none⟩) ny py, .int .i64 fx, .int .i64 fy, .int .i64 sb] 34))); have HLX := hide ((rx.below (below1 _ (.cells #[.pointer (some sx), .pointer (some sy), .int .i64 sb] 31))).below (below1 _ (.cells #[.slice (some ⟨gx, 0, none⟩) nx px, .slice (some ⟨gy, 0, none⟩) ny py, .int .i64 fx, .int .i64 fy, .int .i64 sb] 34))); have HLY := hide ((ry.below (below1 _ (.cells #[.pointer (some sx), .pointer (some sy), .int .i64 sb] 31))).below (below1 _ (.cells #[.slice (some ⟨gx, 0, none⟩) nx px, .slice (some ⟨gy, 0, none⟩) ny py, .int .i64 fx, .int .i64 fy, .int .i64 sb] 34))); have S2 := hide ((S3.new w2 31 (.pointer (some sx)) (.pointer (some sy)) (.int .i64 sb)).below (below1 _ (.cells #[.slice (some ⟨gx, 0, none⟩) nx px, .slice (some ⟨gy, 0, none⟩) ny py, .int .i64 fx, .int .i64 fy, .int .i64 sb] 34))); have V2 := hide (S5.new (w2.alloc (.cells #[.pointer (some sx), .pointer (some sy), .int .i64 sb] 31)) 34 (.slice (some ⟨gx, 0, none⟩) nx px) (.slice (some ⟨gy, 0, none⟩) ny py) (.int .i64 fx) (.int .i64 fy) (.int .i64 sb)); have D2 := hide (ba (ba (bt D1.out b2) (.cells #[.pointer (some sx), .pointer (some sy), .int .i64 sb] 31)) (.cells #[.slice (some ⟨gx, 0, none⟩) nx px, .slice (some ⟨gy, 0, none⟩) ny py, .int .i64 fx, .int .i64 fy, .int .i64 sb] 34)); clear tx ty rx ry)
          | (go_at_call 10; (with_reducible refine (CN _ _ _ (CK _ D2.out) HX.out HY.out).mono ?_); rintro e w3 ⟨rfl, b3⟩; have D3 := hide (bt D2.out b3)))
        go_ret
        exact ⟨rfl, D3.out⟩
    | true =>
      have CN : ∀ (x y : Value) (w' : World), K w' → Tab w' x fx lx → Tab w' y fy ly → Calls Tryz.prog 10 #[.agg #[x, y, .int .i64 sb], .int .i64 c, .int .i64 d] w' fun e w'' => (∃ v, e = .returned (.tuple #[.pointer (some v), .int .i64 0]) ∧ PT w'' (.pointer (some v)) x y ⟨lx, ly, fx, fy, sb⟩ c d) ∧ Below w'.heap.size w' w'' := fun x y w' k tx ty =>
        (PC.new x y ⟨lx, ly, fx, fy, sb⟩ c d w' k tx ty hc hd).mono fun e w'' ⟨hA, hB⟩ => by
          rcases hA with ⟨_, v, he, hp⟩ | ⟨h0, _⟩
          · obtain ⟨v, rfl⟩ := PC.ptr hp
            exact ⟨⟨v, he, hp⟩, hB⟩
          · rw [htb] at h0; cases h0
      obtain ⟨c0, c1, d0, d1⟩ := tileB_iff.1 htb
      have CA : ∀ (v x y : Value) (w' : World), PT w' v x y ⟨lx, ly, fx, fy, sb⟩ c d → _ := fun v x y w' h => PC.all h
      have CC : ∀ (v x y : Value) (w' : World), PT w' v x y ⟨lx, ly, fx, fy, sb⟩ c d → _ := fun v x y w' h => PC.count h
      have CSG : ∀ (v x y : Value) (w' : World), PT w' v x y ⟨lx, ly, fx, fy, sb⟩ c d → _ := fun v x y w' h => PC.stage h
      have CTL : ∀ (v x y : Value) (w' : World), PT w' v x y ⟨lx, ly, fx, fy, sb⟩ c d → ∀ i : Int, In64 i → _ := fun v x y w' h i hi => PC.tile h i hi
      have PB : ∀ {w w' : World} {v x y : Value}, PT w v x y ⟨lx, ly, fx, fy, sb⟩ c d → Below w.heap.size w w' → PT w' v x y ⟨lx, ly, fx, fy, sb⟩ c d := fun h b => PC.below h b
      have CD := fun (gx px gy py : Nat) (w' : World) rx ry ox oy x0 x1 y0 y1 => dall14_any lx ly fx fy sb gx px gy py nx ny hnx hny c d w' rx ry ox oy x0 x1 y0 y1 c0 c1 d0 d1
      have hpos := (count_in (LX := lx) (LY := ly) c0 d0).2.2.2.2.1
      obtain ⟨N, hN⟩ : ∃ N, (countF lx ly c d).toNat = N := ⟨_, rfl⟩
      have hNi : countF lx ly c d = (N : Int) := by rw [← hN]; exact (Int.toNat_of_nonneg hpos).symm
      simp only [hNi, Int.toNat_natCast] at CA CC CTL CD
      have HN := hide hN
      clear PC htb hnx hny hN hpos hNi
      have q1 := plan_ptr_ne
      have q2 := same_stage
      have r1 : decide (c < 1) = false := decide_eq_false (by omega)
      have r2 : decide (4096 < c) = false := decide_eq_false (by omega)
      have r3 : decide (d < 1) = false := decide_eq_false (by omega)
      have r4 : decide (4096 < d) = false := decide_eq_false (by omega)
      go_enter Tryz.func4, Tryz.ntmps4
      go_upto_region 13 with (first
        | (go_at_call 8; (with_reducible refine (CLV _ (below1 _ _)).mono ?_); rintro e w1 ⟨rfl, b1⟩; have D1 := hide (bt (below1 _ _) b1); have P1 := P0.out.below b1; obtain ⟨g0, g1, g2, g3, g4, g5, g6, g7, g8⟩ := P1)
        | (go_at_call 9; (with_reducible refine (CST2 _ D1.out).mono ?_); rintro e w2 ⟨⟨sx, sy, gx, px, gy, py, rfl, tx, ty, rx, ry⟩, b2⟩; have HX := hide ((tx.below (below1 _ (.cells #[.pointer (some sx), .pointer (some sy), .int .i64 sb] 31))).below (below1 _ (.cells #[.slice (some ⟨gx, 0, none⟩) nx px, .slice (some ⟨gy, 0, none⟩) ny py, .int .i64 fx, .int .i64 fy, .int .i64 sb] 34))); have HY := hide ((ty.below (below1 _ (.cells #[.pointer (some sx), .pointer (some sy), .int .i64 sb] 31))).below (below1 _ (.cells #[.slice (some ⟨gx, 0, none⟩) nx px, .slice (some ⟨gy, 0, none⟩) ny py, .int .i64 fx, .int .i64 fy, .int .i64 sb] 34))); have HLX := hide ((rx.below (below1 _ (.cells #[.pointer (some sx), .pointer (some sy), .int .i64 sb] 31))).below (below1 _ (.cells #[.slice (some ⟨gx, 0, none⟩) nx px, .slice (some ⟨gy, 0, none⟩) ny py, .int .i64 fx, .int .i64 fy, .int .i64 sb] 34))); have HLY := hide ((ry.below (below1 _ (.cells #[.pointer (some sx), .pointer (some sy), .int .i64 sb] 31))).below (below1 _ (.cells #[.slice (some ⟨gx, 0, none⟩) nx px, .slice (some ⟨gy, 0, none⟩) ny py, .int .i64 fx, .int .i64 fy, .int .i64 sb] 34))); have S2 := hide ((S3.new w2 31 (.pointer (some sx)) (.pointer (some sy)) (.int .i64 sb)).below (below1 _ (.cells #[.slice (some ⟨gx, 0, none⟩) nx px, .slice (some ⟨gy, 0, none⟩) ny py, .int .i64 fx, .int .i64 fy, .int .i64 sb] 34))); have V2 := hide (S5.new (w2.alloc (.cells #[.pointer (some sx), .pointer (some sy), .int .i64 sb] 31)) 34 (.slice (some ⟨gx, 0, none⟩) nx px) (.slice (some ⟨gy, 0, none⟩) ny py) (.int .i64 fx) (.int .i64 fy) (.int .i64 sb)); have D2 := hide (ba (ba (bt D1.out b2) (.cells #[.pointer (some sx), .pointer (some sy), .int .i64 sb] 31)) (.cells #[.slice (some ⟨gx, 0, none⟩) nx px, .slice (some ⟨gy, 0, none⟩) ny py, .int .i64 fx, .int .i64 fy, .int .i64 sb] 34)); clear tx ty rx ry)
        | (go_at_call 10; (with_reducible refine (CN _ _ _ (CK _ D2.out) HX.out HY.out).mono ?_); rintro e w3 ⟨⟨v, rfl, hp⟩, b3⟩; have HP := hide hp; have D3 := hide (bt D2.out b3); have HX3 := hide (HX.out.below b3); have HY3 := hide (HY.out.below b3); have HLX3 := hide (HLX.out.below b3); have HLY3 := hide (HLY.out.below b3); have S3' := hide (S2.out.below b3); have V3 := hide (V2.out.below b3); rw [World.size_alloc] at V3; obtain ⟨⟨v0, _⟩, ⟨v1, _⟩, ⟨v2, _⟩, ⟨v3, _⟩, ⟨v4, _⟩⟩ := V3.out; clear hp)
        | (go_at_call 14; (with_reducible refine (CD _ _ _ _ _ HLX3.out HLY3.out (tab_in HX3.out).1 (tab_in HY3.out).1 (by rw [← HNX.out]; exact (tab_in HX3.out).2.1) (by rw [← HNX.out]; exact (tab_in HX3.out).2.2) (by rw [← HNY.out]; exact (tab_in HY3.out).2.1) (by rw [← HNY.out]; exact (tab_in HY3.out).2.2)).mono ?_); rintro e w4 ⟨⟨u4, rfl, hso⟩, b4⟩; obtain ⟨adr, cpr, rfl, htr, _⟩ := hso.read; have HTR := hide htr; have D4 := hide (bt D3.out b4); have HP4 := hide (PB HP.out b4); have S4 := hide (S3'.out.below b4); clear hso htr)
        | (go_at_call 11; (with_reducible refine (CA _ _ _ _ HP4.out).mono ?_); rintro e w5 ⟨⟨ad, cap, rfl, ht, hz⟩, b5⟩; have HT := hide ht; have D5 := hide (bt D4.out b5); have HP5 := hide (PB HP4.out b5); have S5' := hide (S4.out.below b5); have HTR5 := hide (HTR.out.below b5); clear ht hz))
      obtain ⟨⟨s0, _⟩, ⟨s1, _⟩, ⟨s2, _⟩⟩ := S5'.out
      have NB : N ≤ 4294967296 := by
        have h1 := (count_in (LX := lx) (LY := ly) c0 d0).2.2.2.2.2
        have h2 := (tab_in HX3.out).2.2
        have h3 := (tab_in HY3.out).2.2
        have h4 : (lx.length : Int) * (ly.length : Int) ≤ 65536 * 65536 := Int.mul_le_mul (by omega) (by omega) (by omega) (by omega)
        have := HN.out
        omega
      clear CLV CST2 CN CA CD HP HP4 HX HY HX3 HY3 HLX HLY HLX3 HLY3 S2 S3' S4 V2 V3 D1 D2 D3 D4 P0 v0 v1 v2 v3 v4 HTR
      go_region_held3 (fun w' => w'.cell? ⟨w2.heap.size, 0, none⟩ = some (.pointer (some sx)) ∧ w'.cell? ⟨w2.heap.size, 1, none⟩ = some (.pointer (some sy)) ∧ w'.cell? ⟨w2.heap.size, 2, none⟩ = some (.int .i64 sb)) (first | assumption | go_keep)
        (first
          | (go_at_call 15; (with_reducible refine (CC _ _ _ _ (PB HP5.out (bd (Below.refl _ _)))).mono ?_); rintro e w7 ⟨rfl, b7⟩; have D7 := hide (bt (bd (Below.refl w5.heap.size w5)) b7); have y7 := S5'.out.below D7.out; obtain ⟨⟨y0, _⟩, ⟨y1, _⟩, ⟨y2, _⟩⟩ := y7)
          | (go_at_call 16; (with_reducible refine (CSG _ _ _ _ (PB HP5.out D7.out)).mono ?_); rintro e w8 ⟨rfl, b8⟩; have D8 := hide (bt D7.out b8); have y8 := S5'.out.below D8.out; obtain ⟨⟨z0, _⟩, ⟨z1, _⟩, ⟨z2, _⟩⟩ := y8))
      have HP8 := hide (PB HP5.out D8.out)
      have HT8 := hide (HT.out.below D8.out)
      have HTR8 := hide (HTR5.out.below D8.out)
      have B8 := hide (bt D5.out D8.out)
      clear HP5 HT HTR5 D5 D7 D8 S5' CC CSG s0 s1 s2 y0 y1 y2 z0 z1 z2 b1 b2 b3 b4 b5 b7 b8
      go_wp2
      go_loopw [97] (fun i wr => ∃ k : Nat, k ≤ N ∧ i = .int .i64 (k : Int) ∧ Below w8.heap.size w8 wr) (fun i _ => N - (intOf i).toNat)
      case atStart => exact ⟨0, by omega, rfl, Below.refl _ _⟩
      case round =>
        obtain ⟨k, hk, rfl, hb⟩ := hrel
        have HB := hide hb
        by_cases hlt : k < N
        · obtain ⟨tb, toff, rfl, ht⟩ := (HT8.out.below hb).get hlt
          obtain ⟨rb, roff, rfl, hr⟩ := (HTR8.out.below hb).get hlt
          have CTK : ∀ w', Below w8.heap.size w8 w' → Calls Tryz.prog 17 #[.pointer (some v), .int .i64 (k : Int)] w' fun e w'' => e = .returned (.tuple #[tilV (tilF lx ly c d (k : Int)), .bool true]) ∧ Below w'.heap.size w' w'' := fun w' b' => by
            have := CTL _ _ _ _ (PB HP8.out b') (k : Int) (by unfold In64; omega)
            rw [show inB (N : Int) (k : Int) = true from inB_iff.2 ⟨by omega, by omega⟩, if_pos rfl] at this
            exact this
          obtain ⟨a0, a1, a2, a3, a4, a5, a6, a7, a8, a9, he⟩ : ∃ a0 a1 a2 a3 a4 a5 a6 a7 a8 a9, tilF lx ly c d (k : Int) = ⟨a0, a1, a2, a3, a4, a5, a6, a7, a8, a9⟩ := ⟨_, _, _, _, _, _, _, _, _, _, rfl⟩
          simp only [he] at ht hr CTK
          unfold tilV at CTK
          simp only at CTK
          clear he
          obtain ⟨t0, t1, t2, t3, t4, t5, t6, t7, t8, t9⟩ := ht
          simp only at t0 t1 t2 t3 t4 t5 t6 t7 t8 t9
          have HR := hide hr
          clear hr
          obtain ⟨W1, hW1⟩ : ∃ W1, wr.alloc (.cells #[.int .i64 a0, .int .i64 a1, .int .i64 a2, .int .i64 a3, .int .i64 a4, .int .i64 a5, .int .i64 a6, .int .i64 a7, .int .i64 a8, .int .i64 a9] 46) = W1 := ⟨_, rfl⟩
          have B1 := hide (show Below wr.heap.size wr W1 by rw [← hW1]; exact below1 _ _)
          have P1 := hide (show P10 W1 wr.heap.size ⟨a0, a1, a2, a3, a4, a5, a6, a7, a8, a9⟩ by rw [← hW1]; exact P10.new wr 46 ⟨a0, a1, a2, a3, a4, a5, a6, a7, a8, a9⟩)
          have q3 := same_tile_p
          have q4 := same_tile_d
          have CRF := fun w' => ref14_any a0 a1 a2 a3 a4 a5 a6 a7 a8 a9 w'
          go_upto_region 19 with (go_at_call 17; (with_reducible refine (CTK _ (bt HB.out B1.out)).mono ?_); rintro e w10 ⟨rfl, b10⟩; have D10 := hide (bt B1.out b10); have P10' := hide (P1.out.below b10))
          have D11 := hide (ba D10.out (.cells #[.int .i64 a0, .int .i64 a1, .int .i64 a2, .int .i64 a3, .int .i64 a4, .int .i64 a5, .int .i64 a6, .int .i64 a7, .int .i64 a8, .int .i64 a9] 46))
          have Q1 := hide (P10'.out.below (below1 w10 (.cells #[.int .i64 a0, .int .i64 a1, .int .i64 a2, .int .i64 a3, .int .i64 a4, .int .i64 a5, .int .i64 a6, .int .i64 a7, .int .i64 a8, .int .i64 a9] 46)))
          have Q2 := hide (P10.new w10 46 ⟨a0, a1, a2, a3, a4, a5, a6, a7, a8, a9⟩)
          have Q3 := hide (HR.out.below D11.out)
          generalize w10.alloc (.cells #[.int .i64 a0, .int .i64 a1, .int .i64 a2, .int .i64 a3, .int .i64 a4, .int .i64 a5, .int .i64 a6, .int .i64 a7, .int .i64 a8, .int .i64 a9] 46) = W2 at D11 Q1 Q2 Q3 ⊢
          have S30 := hide (fun (w' : World) (b' : Below W2.heap.size W2 w') => show (w'.cell? ⟨wr.heap.size, 0, none⟩ = some (.int .i64 a0) ∧ w'.cell? ⟨wr.heap.size, 1, none⟩ = some (.int .i64 a1) ∧ w'.cell? ⟨wr.heap.size, 2, none⟩ = some (.int .i64 a2) ∧ w'.cell? ⟨wr.heap.size, 3, none⟩ = some (.int .i64 a3) ∧ w'.cell? ⟨wr.heap.size, 4, none⟩ = some (.int .i64 a4) ∧ w'.cell? ⟨wr.heap.size, 5, none⟩ = some (.int .i64 a5) ∧ w'.cell? ⟨wr.heap.size, 6, none⟩ = some (.int .i64 a6) ∧ w'.cell? ⟨wr.heap.size, 7, none⟩ = some (.int .i64 a7) ∧ w'.cell? ⟨wr.heap.size, 8, none⟩ = some (.int .i64 a8) ∧ w'.cell? ⟨wr.heap.size, 9, none⟩ = some (.int .i64 a9) ∧ w'.cell? ⟨w10.heap.size, 0, none⟩ = some (.int .i64 a0) ∧ w'.cell? ⟨w10.heap.size, 1, none⟩ = some (.int .i64 a1) ∧ w'.cell? ⟨w10.heap.size, 2, none⟩ = some (.int .i64 a2) ∧ w'.cell? ⟨w10.heap.size, 3, none⟩ = some (.int .i64 a3) ∧ w'.cell? ⟨w10.heap.size, 4, none⟩ = some (.int .i64 a4) ∧ w'.cell? ⟨w10.heap.size, 5, none⟩ = some (.int .i64 a5) ∧ w'.cell? ⟨w10.heap.size, 6, none⟩ = some (.int .i64 a6) ∧ w'.cell? ⟨w10.heap.size, 7, none⟩ = some (.int .i64 a7) ∧ w'.cell? ⟨w10.heap.size, 8, none⟩ = some (.int .i64 a8) ∧ w'.cell? ⟨w10.heap.size, 9, none⟩ = some (.int .i64 a9) ∧ w'.cell? ⟨rb, roff + k * 10, none⟩ = some (.int .i64 a0) ∧ w'.cell? ⟨rb, roff + k * 10 + 1, none⟩ = some (.int .i64 a1) ∧ w'.cell? ⟨rb, roff + k * 10 + 2, none⟩ = some (.int .i64 a2) ∧ w'.cell? ⟨rb, roff + k * 10 + 3, none⟩ = some (.int .i64 a3) ∧ w'.cell? ⟨rb, roff + k * 10 + 4, none⟩ = some (.int .i64 a4) ∧ w'.cell? ⟨rb, roff + k * 10 + 5, none⟩ = some (.int .i64 a5) ∧ w'.cell? ⟨rb, roff + k * 10 + 6, none⟩ = some (.int .i64 a6) ∧ w'.cell? ⟨rb, roff + k * 10 + 7, none⟩ = some (.int .i64 a7) ∧ w'.cell? ⟨rb, roff + k * 10 + 8, none⟩ = some (.int .i64 a8) ∧ w'.cell? ⟨rb, roff + k * 10 + 9, none⟩ = some (.int .i64 a9)) from ⟨(Q1.out.below b').1, (Q1.out.below b').2.1, (Q1.out.below b').2.2.1, (Q1.out.below b').2.2.2.1, (Q1.out.below b').2.2.2.2.1, (Q1.out.below b').2.2.2.2.2.1, (Q1.out.below b').2.2.2.2.2.2.1, (Q1.out.below b').2.2.2.2.2.2.2.1, (Q1.out.below b').2.2.2.2.2.2.2.2.1, (Q1.out.below b').2.2.2.2.2.2.2.2.2, (Q2.out.below b').1, (Q2.out.below b').2.1, (Q2.out.below b').2.2.1, (Q2.out.below b').2.2.2.1, (Q2.out.below b').2.2.2.2.1, (Q2.out.below b').2.2.2.2.2.1, (Q2.out.below b').2.2.2.2.2.2.1, (Q2.out.below b').2.2.2.2.2.2.2.1, (Q2.out.below b').2.2.2.2.2.2.2.2.1, (Q2.out.below b').2.2.2.2.2.2.2.2.2, (Q3.out.below b').1, (Q3.out.below b').2.1, (Q3.out.below b').2.2.1, (Q3.out.below b').2.2.2.1, (Q3.out.below b').2.2.2.2.1, (Q3.out.below b').2.2.2.2.2.1, (Q3.out.below b').2.2.2.2.2.2.1, (Q3.out.below b').2.2.2.2.2.2.2.1, (Q3.out.below b').2.2.2.2.2.2.2.2.1, (Q3.out.below b').2.2.2.2.2.2.2.2.2⟩)
          have s30 := S30.out W2 (Below.refl _ _)
          obtain ⟨x0, x1, x2, x3, x4, x5, x6, x7, x8, x9, y0, y1, y2, y3, y4, y5, y6, y7, y8, y9, z0, z1, z2, z3, z4, z5, z6, z7, z8, z9⟩ := s30
          clear t0 t1 t2 t3 t4 t5 t6 t7 t8 t9 hW1 P1 P10' D10 CTK
          go_region_held3 (fun w' => (w'.cell? ⟨wr.heap.size, 0, none⟩ = some (.int .i64 a0) ∧ w'.cell? ⟨wr.heap.size, 1, none⟩ = some (.int .i64 a1) ∧ w'.cell? ⟨wr.heap.size, 2, none⟩ = some (.int .i64 a2) ∧ w'.cell? ⟨wr.heap.size, 3, none⟩ = some (.int .i64 a3) ∧ w'.cell? ⟨wr.heap.size, 4, none⟩ = some (.int .i64 a4) ∧ w'.cell? ⟨wr.heap.size, 5, none⟩ = some (.int .i64 a5) ∧ w'.cell? ⟨wr.heap.size, 6, none⟩ = some (.int .i64 a6) ∧ w'.cell? ⟨wr.heap.size, 7, none⟩ = some (.int .i64 a7) ∧ w'.cell? ⟨wr.heap.size, 8, none⟩ = some (.int .i64 a8) ∧ w'.cell? ⟨wr.heap.size, 9, none⟩ = some (.int .i64 a9) ∧ w'.cell? ⟨w10.heap.size, 0, none⟩ = some (.int .i64 a0) ∧ w'.cell? ⟨w10.heap.size, 1, none⟩ = some (.int .i64 a1) ∧ w'.cell? ⟨w10.heap.size, 2, none⟩ = some (.int .i64 a2) ∧ w'.cell? ⟨w10.heap.size, 3, none⟩ = some (.int .i64 a3) ∧ w'.cell? ⟨w10.heap.size, 4, none⟩ = some (.int .i64 a4) ∧ w'.cell? ⟨w10.heap.size, 5, none⟩ = some (.int .i64 a5) ∧ w'.cell? ⟨w10.heap.size, 6, none⟩ = some (.int .i64 a6) ∧ w'.cell? ⟨w10.heap.size, 7, none⟩ = some (.int .i64 a7) ∧ w'.cell? ⟨w10.heap.size, 8, none⟩ = some (.int .i64 a8) ∧ w'.cell? ⟨w10.heap.size, 9, none⟩ = some (.int .i64 a9) ∧ w'.cell? ⟨rb, roff + k * 10, none⟩ = some (.int .i64 a0) ∧ w'.cell? ⟨rb, roff + k * 10 + 1, none⟩ = some (.int .i64 a1) ∧ w'.cell? ⟨rb, roff + k * 10 + 2, none⟩ = some (.int .i64 a2) ∧ w'.cell? ⟨rb, roff + k * 10 + 3, none⟩ = some (.int .i64 a3) ∧ w'.cell? ⟨rb, roff + k * 10 + 4, none⟩ = some (.int .i64 a4) ∧ w'.cell? ⟨rb, roff + k * 10 + 5, none⟩ = some (.int .i64 a5) ∧ w'.cell? ⟨rb, roff + k * 10 + 6, none⟩ = some (.int .i64 a6) ∧ w'.cell? ⟨rb, roff + k * 10 + 7, none⟩ = some (.int .i64 a7) ∧ w'.cell? ⟨rb, roff + k * 10 + 8, none⟩ = some (.int .i64 a8) ∧ w'.cell? ⟨rb, roff + k * 10 + 9, none⟩ = some (.int .i64 a9))) (first | assumption | go_keep)
            (first
              | (go_at_call 18; (with_reducible refine (CRF _).mono ?_); rintro e w12 ⟨rfl, b12⟩; have D12 := hide (bt (bd (Below.refl W2.heap.size W2)) b12); have y12 := S30.out _ D12.out))
          all_goals
            have BZ := hide (bt HB.out (bt D11.out D12.out))
            clear D11 D12 Q1 Q2 Q3 S30 b12
            go_wp2
            go_roundw
            case rel => exact ⟨k + 1, by omega, by go_num, BZ.out⟩
            case measure => simp [intOf]; omega
        · obtain rfl : k = N := by omega
          have CTJ := CTL _ _ _ _ (PB HP8.out hb) j hj
          obtain ⟨a0, a1, a2, a3, a4, a5, a6, a7, a8, a9, he⟩ : ∃ a0 a1 a2 a3 a4 a5 a6 a7 a8 a9, tilF lx ly c d j = ⟨a0, a1, a2, a3, a4, a5, a6, a7, a8, a9⟩ := ⟨_, _, _, _, _, _, _, _, _, _, rfl⟩
          rw [he] at CTJ
          cases hin : inB (k : Int) j with
          | true =>
            rw [hin, if_pos rfl] at CTJ
            unfold tilV at CTJ
            simp only at CTJ
            obtain ⟨j0, j1⟩ := inB_iff.1 hin
            clear hin he hb
            go_wp2_with (go_at_call 17; (with_reducible refine CTJ.mono ?_); rintro e w10 ⟨rfl, b10⟩; have BZ := hide (ba (bt B8.out (bt HB.out b10)) (.cells #[.int .i64 a0, .int .i64 a1, .int .i64 a2, .int .i64 a3, .int .i64 a4, .int .i64 a5, .int .i64 a6, .int .i64 a7, .int .i64 a8, .int .i64 a9] 46)))
            go_ret
            exact ⟨rfl, BZ.out⟩
          | false =>
            rw [hin, if_neg (by decide)] at CTJ
            unfold tilV til0 at CTJ
            simp only at CTJ
            have hno : ¬ (0 ≤ j ∧ j < (k : Int)) := of_decide_eq_false hin
            have hcs : (decide (0 ≤ j) = false ∧ decide (j < (k : Int)) = true) ∨ (decide (0 ≤ j) = true ∧ decide (j < (k : Int)) = false) := by
              by_cases h0 : 0 ≤ j
              · exact .inr ⟨decide_eq_true h0, decide_eq_false (by omega)⟩
              · exact .inl ⟨decide_eq_false h0, decide_eq_true (by omega)⟩
            have q5 := zero_tile
            clear hin he hb hno
            rcases hcs with ⟨h1, h2⟩ | ⟨h1, h2⟩
            all_goals
              go_wp2_with (go_at_call 17; (with_reducible refine CTJ.mono ?_); rintro e w10 ⟨rfl, b10⟩; have BZ := hide (ba (bt B8.out (bt HB.out b10)) (.cells #[.int .i64 0, .int .i64 0, .int .i64 0, .int .i64 0, .int .i64 0, .int .i64 0, .int .i64 0, .int .i64 0, .int .i64 0, .int .i64 0] 46)))
              go_ret
              exact ⟨rfl, BZ.out⟩
end Go.Proofs.YtdpkigdfhfippaaGreatDoor
