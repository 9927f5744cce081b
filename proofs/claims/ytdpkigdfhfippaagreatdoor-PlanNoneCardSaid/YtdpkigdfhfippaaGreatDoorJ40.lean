/- Parts, joined. -/
import Derived.Test.YtdpkigdfhfippaaGreatDoorJ30
import Derived.Test.YtdpkigdfhfippaaGreatDoorJ37
import Derived.Test.YtdpkigdfhfippaaGreatDoorJ32
import Derived.Test.YtdpkigdfhfippaaGreatDoorJ25
import Derived.Deep.LoopGhost
/- Plans: the chapter's example; the law on what has no plan. -/
namespace Go.Proofs.YtdpkigdfhfippaaGreatDoor
open Go.RowKit


def exL : Opr := ⟨3, 0, 0, 0, [], [], 0, 5, 3⟩
theorem exL_code : opCode exL 9 9 = 0 ∧ (stgOf exL 9 9).lx.length = 5 ∧ (stgOf exL 9 9).ly.length = 3 := by decide +kernel
theorem exL_fits : OpFits exL := by
  refine ⟨?_, ?_, ?_, ?_, ?_, ?_, ?_, (fun n hn => by cases hn), (fun n hn => by cases hn), Nat.zero_le _, Nat.zero_le _⟩ <;> (unfold In64 exL; simp)
theorem exL_tile {LX LY : List (Int × List Int)} (hx : LX.length = 5) (hy : LY.length = 3) : countF LX LY 2 2 = 6 ∧ inB (countF LX LY 2 2) 5 = true ∧ ∃ fx fy cx cy rg, tilF LX LY 2 2 5 = ⟨5, 4, 2, 1, 1, fx, fy, cx, cy, rg⟩ := by
  have hA : acrossF LX 2 = 3 := by unfold acrossF; rw [hx]; decide
  have hD : acrossF LY 2 = 2 := by unfold acrossF; rw [hy]; decide
  have hC : countF LX LY 2 2 = 6 := by unfold countF; rw [hA, hD]; decide
  refine ⟨hC, by rw [hC]; decide, ?_⟩
  unfold tilF tilAt
  rw [hA, hx, hy]
  exact ⟨_, _, _, _, _, rfl⟩
theorem plan_ptr_ne : ∀ (p : Addr) (w : World), (binOp .eql 37 (.pointer (some p)) (.pointer none)).run Tryz.prog w = .ok (.bool false) w := fun p w => by kernel_rfl
theorem plan_nil : ∀ (w : World), (binOp .eql 37 (.pointer none) (.pointer none)).run Tryz.prog w = .ok (.bool true) w := fun w => by kernel_rfl
set_option maxHeartbeats 2000000 in
set_option maxRecDepth 100000 in
theorem lives14 {K : World → Prop} {PT : World → Value → Value → Value → Stg → Int → Int → Prop} (hKB : ∀ w w', K w → Below w.heap.size w w' → K w') (CM : OMakeC K) (PC : PlanC K PT) (CL : ∀ w, K w → Calls Tryz.prog 23 #[] w fun e w' => e = .returned (.bool true) ∧ Below w.heap.size w w') (w : World) (hk : K w) :
    Calls Tryz.prog 8 #[] w fun e w' => e = .returned (.bool true) ∧ Below w.heap.size w w' := by
  obtain ⟨e1, e2, e3⟩ := exL_code
  have CK : ∀ w', Below w.heap.size w w' → K w' := fun w' b => hKB w w' hk b
  have C1 : ∀ w : World, K w → Calls Tryz.prog 22 #[.agg #[.int .i64 3, .int .i64 0, .int .i64 0, .int .i64 0, .slice none 0 0, .slice none 0 0, .int .i64 0, .int .i64 5, .int .i64 3], .int .i64 9, .int .i64 9] w fun e w' => (∃ x y, e = .returned (.tuple #[.agg #[.pointer (some x), .pointer (some y), .int .i64 (stgOf exL 9 9).sb], .int .i64 0]) ∧ Tab w' (.pointer (some x)) (stgOf exL 9 9).fx (stgOf exL 9 9).lx ∧ Tab w' (.pointer (some y)) (stgOf exL 9 9).fy (stgOf exL 9 9).ly) ∧ Below w.heap.size w w' := fun w hk =>
    (CM exL none 0 none 0 9 9 w hk ⟨.inl rfl, .inl rfl, fun _ => rfl, fun _ => rfl⟩ exL_fits (by unfold In64; omega) (by unfold In64; omega)).mono fun e w' ⟨hA, hB⟩ => by
      rw [e1] at hA
      rcases hA with ⟨h0, _⟩ | ⟨_, x, y, he, tx, ty⟩
      · exact absurd rfl h0
      · obtain ⟨ax, rfl⟩ := tx.ptr
        obtain ⟨ay, rfl⟩ := ty.ptr
        exact ⟨⟨ax, ay, he, tx, ty⟩, hB⟩
  obtain ⟨f1, f2, fx, fy, cx, cy, rg, f3⟩ := exL_tile e2 e3
  have CN : ∀ (x y : Value) (w' : World), K w' → Tab w' x (stgOf exL 9 9).fx (stgOf exL 9 9).lx → Tab w' y (stgOf exL 9 9).fy (stgOf exL 9 9).ly → Calls Tryz.prog 10 #[.agg #[x, y, .int .i64 (stgOf exL 9 9).sb], .int .i64 2, .int .i64 2] w' fun e w'' => (∃ p, e = .returned (.tuple #[.pointer (some p), .int .i64 0]) ∧ PT w'' (.pointer (some p)) x y (stgOf exL 9 9) 2 2) ∧ Below w'.heap.size w' w'' := fun x y w' k tx ty =>
    (PC.new x y (stgOf exL 9 9) 2 2 w' k tx ty (by unfold In64; omega) (by unfold In64; omega)).mono fun e w'' ⟨hA, hB⟩ => by
      rcases hA with ⟨_, v, he, hp⟩ | ⟨h0, _⟩
      · obtain ⟨p, rfl⟩ := PC.ptr hp
        exact ⟨⟨p, he, hp⟩, hB⟩
      · exact absurd h0 (by decide)
  have CT : ∀ (v x y : Value) (w' : World), PT w' v x y (stgOf exL 9 9) 2 2 → Calls Tryz.prog 17 #[v, .int .i64 5] w' fun e w'' => e = .returned (.tuple #[.agg #[.int .i64 5, .int .i64 4, .int .i64 2, .int .i64 1, .int .i64 1, .int .i64 fx, .int .i64 fy, .int .i64 cx, .int .i64 cy, .int .i64 rg], .bool true]) ∧ Below w'.heap.size w' w'' := fun v x y w' h => by
    have := PC.tile h 5 (by unfold In64; omega)
    rw [f2, if_pos rfl, f3] at this
    exact this
  have CC : ∀ (v x y : Value) (w' : World), PT w' v x y (stgOf exL 9 9) 2 2 → Calls Tryz.prog 15 #[v] w' fun e w'' => e = .returned (.int .i64 6) ∧ Below w'.heap.size w' w'' := fun v x y w' h => by
    have := PC.count h
    rw [f1] at this
    exact this
  have PB : ∀ {w w' : World} {v x y : Value}, PT w v x y (stgOf exL 9 9) 2 2 → Below w.heap.size w w' → PT w' v x y (stgOf exL 9 9) 2 2 := fun h b => PC.below h b
  have q1 := plan_ptr_ne
  have q2 : ∀ w : World, (binOp .eql 44 (.agg #[.int .i64 4, .int .i64 2, .int .i64 1, .int .i64 1]) (.agg #[.int .i64 4, .int .i64 2, .int .i64 1, .int .i64 1])).run Tryz.prog w = .ok (.bool true) w := fun w => by kernel_rfl
  clear PC CM f1 f2 f3 e1 e2 e3
  generalize stgOf exL 9 9 = S at *
  obtain ⟨lx, ly, sx, sy, sb⟩ := S
  simp only at C1 CN
  go_enter Tryz.func8, Tryz.ntmps8
  go_wp2_with (first
    | (go_at_call 22; (with_reducible refine (C1 _ hk).mono ?_); rintro e w1 ⟨⟨x, y, rfl, tx, ty⟩, b1⟩; have HX := hide tx; have HY := hide ty; clear tx ty; have B1 := hide b1)
    | (go_at_call 23; (with_reducible refine (CL _ (CK _ (ba B1.out _))).mono ?_); rintro e w2 ⟨rfl, b2⟩; have B2 := hide (bt (ba B1.out _) b2); have HX2 := hide ((HX.out.below (below1 _ _)).below b2); have HY2 := hide ((HY.out.below (below1 _ _)).below b2); have S2 := (S3.new w1 31 (.pointer (some x)) (.pointer (some y)) (.int .i64 sb)).below b2; obtain ⟨⟨s0, _⟩, ⟨s1, _⟩, ⟨s2, _⟩⟩ := S2)
    | (go_at_call 10; (with_reducible refine (CN _ _ _ (CK _ B2.out) HX2.out HY2.out).mono ?_); rintro e w3 ⟨⟨p, rfl, hp⟩, b3⟩; have HP := hide hp; have B3 := hide (bt B2.out b3); clear hp)
    | (go_at_call 17; (with_reducible refine (CT _ _ _ _ HP.out).mono ?_); rintro e w4 ⟨rfl, b4⟩; have HP4 := hide ((PB HP.out b4)); have B4 := hide (bt B3.out b4); have T4 := hide (P10.new w4 46 ⟨5, 4, 2, 1, 1, fx, fy, cx, cy, rg⟩))
    | (go_at_call 15; (with_reducible refine (CC _ _ _ _ (PB HP4.out (below1 _ _))).mono ?_); rintro e w5 ⟨rfl, b5⟩; have B5 := hide (bt (ba B4.out _) b5); have T5 := T4.out.below b5; obtain ⟨t0, t1, t2, t3, t4, t5, t6, t7, t8, t9⟩ := T5))
  go_ret
  exact ⟨rfl, B5.out⟩
def exB : Opr := ⟨1, 0, 0, 0, [], [], 0, 0, 0⟩
theorem exB_code : opCode exB 3 3 = 0 := by decide +kernel
theorem exB_fits : OpFits exB := by
  refine ⟨?_, ?_, ?_, ?_, ?_, ?_, ?_, (fun n hn => by cases hn), (fun n hn => by cases hn), Nat.zero_le _, Nat.zero_le _⟩ <;> (unfold In64 exB; simp)
set_option maxHeartbeats 2000000 in
set_option maxRecDepth 100000 in
theorem of_PlanNone {K : World → Prop} {PT : World → Value → Value → Value → Stg → Int → Int → Prop} (hKB : ∀ w w', K w → Below w.heap.size w w' → K w') (CM : OMakeC K) (PC : PlanC K PT) (CL : ∀ w, K w → Calls Tryz.prog 23 #[] w fun e w' => e = .returned (.bool true) ∧ Below w.heap.size w w') (a b c : Int) (w : World) (hk : K w) (ha : In64 a) (hb : In64 b) (c0 : 0 ≤ c) (c1 : c ≤ 255) :
    Calls Tryz.prog 7 #[.int .i64 a, .int .i64 b, .int .u8 c] w fun e w' => e = .returned (.bool true) ∧ Below w.heap.size w w' := by
  have CLV := fun w' (b' : Below w.heap.size w w') => lives14 hKB CM PC CL w' (hKB w w' hk b')
  have CK : ∀ w', Below w.heap.size w w' → K w' := fun w' b => hKB w w' hk b
  have C1 : ∀ w : World, K w → Calls Tryz.prog 22 #[.agg #[.int .i64 1, .int .i64 0, .int .i64 0, .int .i64 0, .slice none 0 0, .slice none 0 0, .int .i64 0, .int .i64 0, .int .i64 0], .int .i64 3, .int .i64 3] w fun e w' => (∃ x y sb, e = .returned (.tuple #[.agg #[.pointer (some x), .pointer (some y), .int .i64 sb], .int .i64 0]) ∧ TabOr w' (.pointer (some x)) ∧ TabOr w' (.pointer (some y))) ∧ Below w.heap.size w w' := fun w hk =>
    (CM exB none 0 none 0 3 3 w hk ⟨.inl rfl, .inl rfl, fun _ => rfl, fun _ => rfl⟩ exB_fits (by unfold In64; omega) (by unfold In64; omega)).mono fun e w' ⟨hA, hB⟩ => by
      rw [exB_code] at hA
      rcases hA with ⟨h0, _⟩ | ⟨_, x, y, he, tx, ty⟩
      · exact absurd rfl h0
      · obtain ⟨ax, rfl⟩ := tx.ptr
        obtain ⟨ay, rfl⟩ := ty.ptr
        exact ⟨⟨ax, ay, _, he, .inr ⟨_, _, tx⟩, .inr ⟨_, _, ty⟩⟩, hB⟩
  have CN1 := fun (y : Value) (s : Int) (w' : World) k ty => PC.lacks (.pointer none) y s a b w' k (.inl rfl) ty (.inl rfl) ha hb
  have CN2 := fun (x : Value) (s : Int) (w' : World) k tx => PC.lacks x (.pointer none) s a b w' k tx (.inl rfl) (.inr rfl) ha hb
  have TB : ∀ {w w' : World} {x : Value}, TabOr w x → Below w.heap.size w w' → TabOr w' x := fun h b => by
    rcases h with h | ⟨n, L, h⟩
    · exact .inl h
    · exact .inr ⟨n, L, h.below b⟩
  have q1 := plan_nil
  obtain ⟨p, hp, hpc⟩ : ∃ p, c % 2 = p ∧ (p = 0 ∨ p = 1) := ⟨_, rfl, by omega⟩
  clear PC CM
  rcases hpc with rfl | rfl
  · go_enter Tryz.func7, Tryz.ntmps7
    go_wp2_with (first
      | (go_at_call 8; (with_reducible refine (CLV _ (Below.refl _ _)).mono ?_); rintro e w1 ⟨rfl, b1⟩; have B1 := hide b1)
      | (go_at_call 22; (with_reducible refine (C1 _ (CK _ B1.out)).mono ?_); rintro e w2 ⟨⟨x, y, sb, rfl, tx, ty⟩, b2⟩; have HX := hide tx; have HY := hide ty; clear tx ty; have B2 := hide (bt B1.out b2))
      | (go_at_call 10; (with_reducible refine (CN1 _ _ _ (CK _ (ba B2.out _)) (TB HY.out (below1 _ _))).mono ?_); rintro e w3 ⟨rfl, b3⟩; have B3 := hide (bt (ba B2.out _) b3)))
    go_ret
    exact ⟨rfl, B3.out⟩
  · go_enter Tryz.func7, Tryz.ntmps7
    go_wp2_with (first
      | (go_at_call 8; (with_reducible refine (CLV _ (Below.refl _ _)).mono ?_); rintro e w1 ⟨rfl, b1⟩; have B1 := hide b1)
      | (go_at_call 22; (with_reducible refine (C1 _ (CK _ B1.out)).mono ?_); rintro e w2 ⟨⟨x, y, sb, rfl, tx, ty⟩, b2⟩; have HX := hide tx; have HY := hide ty; clear tx ty; have B2 := hide (bt B1.out b2))
      | (go_at_call 10; (with_reducible refine (CN2 _ _ _ (CK _ (ba B2.out _)) (TB HX.out (below1 _ _))).mono ?_); rintro e w3 ⟨rfl, b3⟩; have B3 := hide (bt (ba B2.out _) b3)))
    go_ret
    exact ⟨rfl, B3.out⟩
end Go.Proofs.YtdpkigdfhfippaaGreatDoor

/- Plans: what the laws begin with; the law on all tiles. Written by gen_XS14H.py. -/
namespace Go.Proofs.YtdpkigdfhfippaaGreatDoor
open Go.RowKit


/-- Tables that an operation makes: of little sides. -/
theorem tab_in {w : World} {v : Value} {n : Int} {L : List (Int × List Int)} (h : Tab w v n L) : LinesOk L ∧ 1 ≤ L.length ∧ L.length ≤ 65536 := ⟨h.ok.1, h.ok.2.1, h.ok.2.2.1⟩
/-- The next tile stands one place further, or at the head of the next row. -/
theorem next_tile {A k : Int} (hA : 1 ≤ A) : (k % A + 1 < A ∧ (k + 1) % A = k % A + 1 ∧ (k + 1) / A = k / A) ∨ (k % A + 1 = A ∧ (k + 1) % A = 0 ∧ (k + 1) / A = k / A + 1) := by
  have h0 := Int.emod_nonneg k (show A ≠ 0 by omega)
  have h1 := Int.emod_lt_of_pos k (show 0 < A by omega)
  have e := Int.emod_add_mul_ediv k A
  rw [Int.mul_comm] at e
  by_cases g : k % A + 1 < A
  · have p := plc_of (A := A) (i := k % A + 1) (j := k / A) (by omega) g
    rw [show k / A * A + (k % A + 1) = k + 1 by omega] at p
    exact .inl ⟨g, p.1, p.2⟩
  · have p := plc_of (A := A) (i := 0) (j := k / A + 1) (by omega) (by omega)
    rw [show (k / A + 1) * A + 0 = k + 1 by rw [Int.add_mul]; omega] at p
    exact .inr ⟨by omega, p.1, p.2⟩
set_option maxHeartbeats 8000000 in
set_option maxRecDepth 100000 in
theorem of_PlanAll {K : World → Prop} {PT : World → Value → Value → Value → Stg → Int → Int → Prop} (hKB : ∀ w w', K w → Below w.heap.size w w' → K w') (CM : OMakeC K) (PC : PlanC K PT) (CL : ∀ w, K w → Calls Tryz.prog 23 #[] w fun e w' => e = .returned (.bool true) ∧ Below w.heap.size w w') (o : Opr) (ax : Option Addr) (cx : Nat) (ay : Option Addr) (cy : Nat) (a b c d : Int) (w : World) (hk : K w) (hA : OpAt w o ax cx ay cy) (hF : OpFits o) (ha : 0 ≤ a ∧ a ≤ 255) (hb : 0 ≤ b ∧ b ≤ 255) (hc : 0 ≤ c ∧ c ≤ 255) (hd : 0 ≤ d ∧ d ≤ 255) :
    Calls Tryz.prog 3 #[opV o ax cx ay cy, .int .u8 a, .int .u8 b, .int .u8 c, .int .u8 d] w fun e w' => e = .returned (.bool true) ∧ Below w.heap.size w w' := by
  have CLV := fun w' (b' : Below w.heap.size w w') => lives14 hKB CM PC CL w' (hKB w w' hk b')
  have CST := fun w' (b' : Below w.heap.size w w') => stage14_any hKB CM o ax cx ay cy a b w' (hKB w w' hk b') (hA.below b') hF ha.1 ha.2 hb.1 hb.2
  have CK : ∀ w', Below w.heap.size w w' → K w' := fun w' b' => hKB w w' hk b'
  obtain ⟨p, hp, p0, p1⟩ : ∃ p, c % 24 = p ∧ 0 ≤ p ∧ p ≤ 23 := ⟨_, rfl, by omega, by omega⟩
  obtain ⟨q, hq, q0, q1⟩ : ∃ q, d % 24 = q ∧ 0 ≤ q ∧ q ≤ 23 := ⟨_, rfl, by omega, by omega⟩
  have P0 := hide (P9.new w 27 o.kd o.bd o.sg o.rd (.slice ax o.xs.length cx) (.slice ay o.ys.length cy) o.fl o.wd o.ht)
  obtain ⟨c0, c1⟩ := hc
  obtain ⟨d0, d1⟩ := hd
  generalize stgOf o (1 + a % 20) (1 + b % 20) = S at CST
  unfold opV at CST ⊢
  clear hA hF ha hb CM CL hk
  cases hs : stB 20 o (1 + a % 20) (1 + b % 20) with
  | false =>
    rw [hs] at CST
    have CST2 : ∀ w', Below w.heap.size w w' → Calls Tryz.prog 9 #[.agg #[.int .i64 o.kd, .int .i64 o.bd, .int .i64 o.sg, .int .i64 o.rd, .slice ax o.xs.length cx, .slice ay o.ys.length cy, .int .i64 o.fl, .int .i64 o.wd, .int .i64 o.ht], .int .u8 a, .int .u8 b] w' fun e w'' => e = .returned (.tuple #[.agg #[.pointer none, .pointer none, .int .i64 0], .agg #[.slice none 0 0, .slice none 0 0, .int .i64 0, .int .i64 0, .int .i64 0], .bool false]) ∧ Below w'.heap.size w' w'' := fun w' b' =>
      (CST w' b').mono fun e w'' ⟨hA, hB⟩ => by
        rcases hA with ⟨_, he⟩ | ⟨h0, _⟩
        · exact ⟨he, hB⟩
        · cases h0
    clear CST hs
    go_enter Tryz.func3, Tryz.ntmps3
    go_wp2_with (first
      | (go_at_call 8; (with_reducible refine (CLV _ (below1 _ _)).mono ?_); rintro e w1 ⟨rfl, b1⟩; have B1 := hide (bt (below1 _ _) b1); have P1 := P0.out.below b1; obtain ⟨g0, g1, g2, g3, g4, g5, g6, g7, g8⟩ := P1)
      | (go_at_call 9; (with_reducible refine (CST2 _ B1.out).mono ?_); rintro e w2 ⟨rfl, b2⟩; have B2 := hide (bt B1.out b2)))
    go_ret
    exact ⟨rfl, ba (ba B2.out _) _⟩
  | true =>
    rw [hs] at CST
    have CST2 : ∀ w', Below w.heap.size w w' → Calls Tryz.prog 9 #[.agg #[.int .i64 o.kd, .int .i64 o.bd, .int .i64 o.sg, .int .i64 o.rd, .slice ax o.xs.length cx, .slice ay o.ys.length cy, .int .i64 o.fl, .int .i64 o.wd, .int .i64 o.ht], .int .u8 a, .int .u8 b] w' fun e w'' => (∃ sx sy gx px gy py, e = .returned (.tuple #[.agg #[.pointer (some sx), .pointer (some sy), .int .i64 S.sb], .agg #[.slice (some ⟨gx, 0, none⟩) S.lx.length px, .slice (some ⟨gy, 0, none⟩) S.ly.length py, .int .i64 S.fx, .int .i64 S.fy, .int .i64 S.sb], .bool true]) ∧ Tab w'' (.pointer (some sx)) S.fx S.lx ∧ Tab w'' (.pointer (some sy)) S.fy S.ly) ∧ Below w'.heap.size w' w'' := fun w' b' =>
      (CST w' b').mono fun e w'' ⟨hA, hB⟩ => by
        rcases hA with ⟨h0, _⟩ | ⟨_, sx, sy, gx, px, gy, py, he, tx, ty, _, _⟩
        · cases h0
        · exact ⟨⟨sx, sy, gx, px, gy, py, he, tx, ty⟩, hB⟩
    clear CST hs
    have CN : ∀ (x y : Value) (w' : World), K w' → Tab w' x S.fx S.lx → Tab w' y S.fy S.ly → Calls Tryz.prog 10 #[.agg #[x, y, .int .i64 S.sb], .int .i64 (1 + p), .int .i64 (1 + q)] w' fun e w'' => (∃ v, e = .returned (.tuple #[.pointer (some v), .int .i64 0]) ∧ PT w'' (.pointer (some v)) x y S (1 + p) (1 + q)) ∧ Below w'.heap.size w' w'' := fun x y w' k tx ty =>
      (PC.new x y S (1 + p) (1 + q) w' k tx ty (by unfold In64; omega) (by unfold In64; omega)).mono fun e w'' ⟨hA, hB⟩ => by
        rcases hA with ⟨_, v, he, hp⟩ | ⟨h0, _⟩
        · obtain ⟨v, rfl⟩ := PC.ptr hp
          exact ⟨⟨v, he, hp⟩, hB⟩
        · exact absurd ((tileB_iff (a := 1 + p) (b := 1 + q)).2 ⟨by omega, by omega, by omega, by omega⟩) (by rw [h0]; decide)
    have CA : ∀ (v x y : Value) (w' : World), PT w' v x y S (1 + p) (1 + q) → _ := fun v x y w' h => PC.all h
    have PB : ∀ {w w' : World} {v x y : Value}, PT w v x y S (1 + p) (1 + q) → Below w.heap.size w w' → PT w' v x y S (1 + p) (1 + q) := fun h b => PC.below h b
    obtain ⟨A, hAA⟩ : ∃ A, 1 + p = A := ⟨_, rfl⟩
    obtain ⟨B, hBB⟩ : ∃ B, 1 + q = B := ⟨_, rfl⟩
    have hAp := hAA
    have hBq := hBB
    rw [hAA, hBB] at CN CA PB
    have A0 : 1 ≤ A ∧ A ≤ 24 := by omega
    have B0 : 1 ≤ B ∧ B ≤ 24 := by omega
    obtain ⟨A0, A1⟩ := A0
    obtain ⟨B0, B1⟩ := B0
    obtain ⟨lx, ly, fx, fy, sb⟩ := S
    simp only at CST2 CN CA PB
    obtain ⟨N, hN⟩ : ∃ N, (countF lx ly A B).toNat = N := ⟨_, rfl⟩
    simp only [hN] at CA
    have HNN := hide hN
    clear PC hN
    have q1 := plan_ptr_ne
    go_enter Tryz.func3, Tryz.ntmps3
    go_wp2_with (first
      | (go_at_call 8; (with_reducible refine (CLV _ (below1 _ _)).mono ?_); rintro e w1 ⟨rfl, b1⟩; have D1 := hide (bt (below1 _ _) b1); have P1 := P0.out.below b1; obtain ⟨g0, g1, g2, g3, g4, g5, g6, g7, g8⟩ := P1)
      | (go_at_call 9; (with_reducible refine (CST2 _ D1.out).mono ?_); rintro e w2 ⟨⟨sx, sy, gx, px, gy, py, rfl, tx, ty⟩, b2⟩; have HX := hide (((tx.below (below1 _ (.cells #[.pointer (some sx), .pointer (some sy), .int .i64 sb] 31))).below (below1 _ (.cells #[.slice (some ⟨gx, 0, none⟩) lx.length px, .slice (some ⟨gy, 0, none⟩) ly.length py, .int .i64 fx, .int .i64 fy, .int .i64 sb] 34)))); have HY := hide (((ty.below (below1 _ (.cells #[.pointer (some sx), .pointer (some sy), .int .i64 sb] 31))).below (below1 _ (.cells #[.slice (some ⟨gx, 0, none⟩) lx.length px, .slice (some ⟨gy, 0, none⟩) ly.length py, .int .i64 fx, .int .i64 fy, .int .i64 sb] 34)))); have S2 := hide ((S3.new w2 31 (.pointer (some sx)) (.pointer (some sy)) (.int .i64 sb)).below (below1 _ (.cells #[.slice (some ⟨gx, 0, none⟩) lx.length px, .slice (some ⟨gy, 0, none⟩) ly.length py, .int .i64 fx, .int .i64 fy, .int .i64 sb] 34))); have D2 := hide (ba (ba (bt D1.out b2) (.cells #[.pointer (some sx), .pointer (some sy), .int .i64 sb] 31)) (.cells #[.slice (some ⟨gx, 0, none⟩) lx.length px, .slice (some ⟨gy, 0, none⟩) ly.length py, .int .i64 fx, .int .i64 fy, .int .i64 sb] 34)); clear tx ty)
      | (go_at_call 10; (with_reducible refine (CN _ _ _ (CK _ D2.out) HX.out HY.out).mono ?_); rintro e w3 ⟨⟨v, rfl, hp⟩, b3⟩; have HP := hide hp; have D3 := hide (bt D2.out b3); have HX3 := hide (HX.out.below b3); have HY3 := hide (HY.out.below b3); have S3' := hide (S2.out.below b3); clear hp)
      | (go_at_call 11; (with_reducible refine (CA _ _ _ _ HP.out).mono ?_); rintro e w4 ⟨⟨ad, cap, rfl, ht, hz⟩, b4⟩; have HT := hide ht; have D4 := hide (bt D3.out b4); have HX4 := hide (HX3.out.below b4); have HY4 := hide (HY3.out.below b4); have S4 := hide (S3'.out.below b4); clear ht hz))
    have HXO := hide (tab_in HX4.out)
    have HYO := hide (tab_in HY4.out)
    clear CLV CST2 CN CA PB HP HX HY HX3 HY3 S2 S3' D1 D2 D3 P0 b1 b2 b3 b4 q1 CK hKB
    obtain ⟨nx, hnx⟩ : ∃ nx, lx.length = nx := ⟨_, rfl⟩
    obtain ⟨ny, hny⟩ : ∃ ny, ly.length = ny := ⟨_, rfl⟩
    obtain ⟨Ac, hAc⟩ : ∃ Ac, acrossF lx A = Ac := ⟨_, rfl⟩
    obtain ⟨Dn, hDn⟩ : ∃ Dn, acrossF ly B = Dn := ⟨_, rfl⟩
    have hN := HNN.out
    have X1 : 1 ≤ nx ∧ nx ≤ 65536 := by rw [← hnx]; exact HXO.out.2
    have Y1 : 1 ≤ ny ∧ ny ≤ 65536 := by rw [← hny]; exact HYO.out.2
    obtain ⟨X1, X2⟩ := X1
    obtain ⟨Y1, Y2⟩ := Y1
    have Ac1 : 1 ≤ Ac := by rw [← hAc]; exact steps_pos (by omega) A0
    have Dn1 : 1 ≤ Dn := by rw [← hDn]; exact steps_pos (by omega) B0
    have cin := count_in (LX := lx) (LY := ly) A0 B0
    have hC : countF lx ly A B = Ac * Dn := by unfold countF; rw [hAc, hDn]
    have hNi : (N : Int) = Ac * Dn := by rw [← hN, ← hC]; exact Int.toNat_of_nonneg cin.2.2.2.2.1
    have NB : N ≤ 4294967296 := by
      have h1 := cin.2.2.2.2.2
      rw [hC, ← hNi, hnx, hny] at h1
      have h2 : (nx : Int) * (ny : Int) ≤ 65536 * 65536 := Int.mul_le_mul (by omega) (by omega) (by omega) (by omega)
      omega
    have HTL := hide (fun (k : Nat) (_ : k < N) => show ∃ f1 f2 f3 f4, tilF lx ly A B (k : Int) = ⟨(k : Int), (k : Int) % Ac * A, (k : Int) / Ac * B, min A ((nx : Int) - (k : Int) % Ac * A), min B ((ny : Int) - (k : Int) / Ac * B), f1, f2, f3, f4, mostF ly⟩ by
      unfold tilF tilAt
      rw [hAc, hnx, hny]
      exact ⟨_, _, _, _, rfl⟩)
    have HPL := hide (fun (k : Nat) (hk : k < N) => plc_in (A := Ac) (D := Dn) (k := (k : Int)) Ac1 (by omega) (by rw [← hNi]; omega))
    have HXI := hide (fun (i : Int) => show i < Ac ↔ i * A < (nx : Int) by rw [← hAc, ← hnx]; exact steps_lt A0)
    have HYI := hide (fun (j : Int) => show j < Dn ↔ j * B < (ny : Int) by rw [← hDn, ← hny]; exact steps_lt B0)
    have HEND := hide (show (N : Int) % Ac * A = 0 ∧ (ny : Int) ≤ (N : Int) / Ac * B by
      have p := plc_of (A := Ac) (i := 0) (j := Dn) (by omega) (by omega)
      rw [show Dn * Ac + 0 = (N : Int) by rw [hNi, Int.mul_comm]; omega] at p
      rw [p.1, p.2]
      refine ⟨Int.zero_mul _, ?_⟩
      rw [← hny]
      exact steps_back B0 (by show acrossF ly B ≤ Dn; omega))
    have HNXT := hide (fun (k : Nat) => next_tile (A := Ac) (k := (k : Int)) Ac1)
    have MIN := mostTo_in HYO.out.1 ly.length (Nat.le_refl _)
    rw [show mostTo ly ly.length = mostF ly from rfl] at MIN
    obtain ⟨M, hM⟩ : ∃ M, mostF ly = M := ⟨_, rfl⟩
    obtain ⟨m0, m1⟩ := MIN
    have HMO := hide hM
    have HNX := hide hnx
    have HNY := hide hny
    rw [hM] at m0 m1
    simp only [hM] at HTL
    clear hnx hny hAc hDn hN hC hNi hM cin HXO HYO hAp hBq hAA hBB
    go_loopw [18, 19, 58] (fun x y i wr => ∃ k : Nat, k ≤ N ∧ i = .int .i64 (k : Int) ∧ x = .int .i64 ((k : Int) % Ac * A) ∧ y = .int .i64 ((k : Int) / Ac * B) ∧ Below w4.heap.size w4 wr) (fun _ _ i _ => N - (intOf i).toNat)
    case atStart => exact ⟨0, by omega, rfl, by simp, by simp, Below.refl _ _⟩
    case round =>
      obtain ⟨k, hk, rfl, rfl, rfl, hb⟩ := hrel
      have HB := hide hb
      by_cases hlt : k < N
      · obtain ⟨b', off, rfl, ht⟩ := (HT.out.below hb).get hlt
        obtain ⟨f1, f2, f3, f4, he⟩ := HTL.out k hlt
        simp only [he] at ht
        obtain ⟨i0, i1, j0, j1, hke⟩ := HPL.out k hlt
        have XL := (HXI.out ((k : Int) % Ac)).1 i1
        have YL := (HYI.out ((k : Int) / Ac)).1 j1
        have XZ : 0 ≤ (k : Int) % Ac * A := Int.mul_nonneg i0 (by omega)
        have YZ : 0 ≤ (k : Int) / Ac * B := Int.mul_nonneg j0 (by omega)
        have HQ := hide (show ((k : Int) % Ac * A + A < (nx : Int) ∧ ((k + 1 : Nat) : Int) % Ac * A = (k : Int) % Ac * A + A ∧ ((k + 1 : Nat) : Int) / Ac * B = (k : Int) / Ac * B) ∨ ((nx : Int) ≤ (k : Int) % Ac * A + A ∧ ((k + 1 : Nat) : Int) % Ac * A = 0 ∧ ((k + 1 : Nat) : Int) / Ac * B = (k : Int) / Ac * B + B) by
          rcases HNXT.out k with ⟨n1, n2, n3⟩ | ⟨n1, n2, n3⟩
          · have := (HXI.out ((k : Int) % Ac + 1)).1 n1
            rw [Int.add_mul] at this
            refine .inl ⟨by omega, ?_, ?_⟩
            · rw [Int.natCast_add, show ((1 : Nat) : Int) = 1 from rfl, n2, Int.add_mul]; omega
            · rw [Int.natCast_add, show ((1 : Nat) : Int) = 1 from rfl, n3]
          · have h1 : ¬ ((k : Int) % Ac + 1) * A < (nx : Int) := fun h => by have := (HXI.out ((k : Int) % Ac + 1)).2 h; omega
            rw [Int.add_mul] at h1
            refine .inr ⟨by omega, ?_, ?_⟩
            · rw [Int.natCast_add, show ((1 : Nat) : Int) = 1 from rfl, n2, Int.zero_mul]
            · rw [Int.natCast_add, show ((1 : Nat) : Int) = 1 from rfl, n3, Int.add_mul]; omega)
        clear he i0 i1 j0 j1 hke
        obtain ⟨X, hX⟩ : ∃ X, (k : Int) % Ac * A = X := ⟨_, rfl⟩
        obtain ⟨Y, hY⟩ : ∃ Y, (k : Int) / Ac * B = Y := ⟨_, rfl⟩
        simp only [hX, hY] at ht XL YL XZ YZ HQ ⊢
        obtain ⟨t0, t1, t2, t3, t4, t5, t6, t7, t8, t9⟩ := ht
        simp only at t0 t1 t2 t3 t4 t5 t6 t7 t8 t9
        obtain ⟨W1, hW1⟩ : ∃ W1, wr.alloc (.cells #[.int .i64 (k : Int), .int .i64 X, .int .i64 Y, .int .i64 (min A ((nx : Int) - X)), .int .i64 (min B ((ny : Int) - Y)), .int .i64 f1, .int .i64 f2, .int .i64 f3, .int .i64 f4, .int .i64 M] 46) = W1 := ⟨_, rfl⟩
        have B1 := hide (show Below wr.heap.size wr W1 by rw [← hW1]; exact below1 _ _)
        have P1 := hide (show P10 W1 wr.heap.size ⟨(k : Int), X, Y, min A ((nx : Int) - X), min B ((ny : Int) - Y), f1, f2, f3, f4, M⟩ by rw [← hW1]; exact P10.new wr 46 ⟨(k : Int), X, Y, min A ((nx : Int) - X), min B ((ny : Int) - Y), f1, f2, f3, f4, M⟩)
        have BA := hide (bt HB.out B1.out)
        have CTX := fun n => tab_to_d (HX4.out.below (bdN BA.out n))
        have CTY := fun n => tab_to_d (HY4.out.below (bdN BA.out n))
        have CMY := fun n => tab_most_d (HY4.out.below (bdN BA.out n))
        have CT2 := fun w' (b' : Below w4.heap.size w4 w') => tab_to (HX4.out.below b')
        rw [HNX.out] at CT2
        simp only [HNX.out] at CTX
        simp only [HNY.out] at CTY
        simp only [HMO.out] at CMY
        obtain ⟨u0, u1, u2, u3, u4, u5, u6, u7, u8, u9⟩ := P1.out
        obtain ⟨⟨s0, _⟩, ⟨s1, _⟩, ⟨s2, _⟩⟩ := S4.out.below BA.out
        simp only at u0 u1 u2 u3 u4 u5 u6 u7 u8 u9
        clear hX hY hb
        go_upto_region 14 with fail
        go_quiet ((first
          | (go_at_call 12; with_reducible exact calmD (CTX _))
          | (go_at_call 12; with_reducible exact calmD (CTY _))
          | (go_at_call 13; with_reducible exact calmD (CMY _))))
        have HBB := hide BA.out
        clear CTX CTY CMY P1 B1 BA u0 u1 u2 u3 u4 u5 u6 u7 u8 u9 t0 t1 t2 t3 t4 t5 t6 t7 t8 t9
        rcases HQ.out with ⟨h1, h2, h3⟩ | ⟨h1, h2, h3⟩
        · have H2 := hide h2
          have H3 := hide h3
          clear h2 h3 HQ
          go_wp2_with (go_at_call 12; (with_reducible refine (CT2 _ (bdN HBB.out nq)).mono ?_); rintro e w5 ⟨rfl, b5⟩; have B5 := hide (bt (bdN HBB.out nq) b5); clear b5)
          go_roundw
          case rel => exact ⟨k + 1, by omega, by go_num, by rw [H2.out], by rw [H3.out], B5.out⟩
          case measure => simp [intOf]; omega
        · have H2 := hide h2
          have H3 := hide h3
          clear h2 h3 HQ
          go_wp2_with (go_at_call 12; (with_reducible refine (CT2 _ (bdN HBB.out nq)).mono ?_); rintro e w5 ⟨rfl, b5⟩; have B5 := hide (bt (bdN HBB.out nq) b5); clear b5)
          go_roundw
          case rel => exact ⟨k + 1, by omega, by go_num, by rw [H2.out], by rw [H3.out], B5.out⟩
          case measure => simp [intOf]; omega
      · obtain rfl : k = N := by omega
        obtain ⟨h1, h2⟩ := HEND.out
        rw [h1]
        obtain ⟨Y, hY⟩ : ∃ Y, (k : Int) / Ac * B = Y := ⟨_, rfl⟩
        rw [hY] at h2 ⊢
        have CT3 := tab_to (HY4.out.below hb)
        rw [HNY.out] at CT3
        obtain ⟨⟨s0, _⟩, ⟨s1, _⟩, ⟨s2, _⟩⟩ := S4.out.below hb
        clear hb h1 hY
        go_wp2_with (go_at_call 12; (with_reducible refine CT3.mono ?_); rintro e w5 ⟨rfl, b5⟩; have B5 := hide (bt HB.out b5); clear b5)
        go_ret
        exact ⟨rfl, bt D4.out B5.out⟩
end Go.Proofs.YtdpkigdfhfippaaGreatDoor
