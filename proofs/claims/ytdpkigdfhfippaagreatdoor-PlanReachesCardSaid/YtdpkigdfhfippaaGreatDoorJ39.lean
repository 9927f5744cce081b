/- Parts, joined. -/
import Derived.Test.YtdpkigdfhfippaaGreatDoorJ33
import Derived.Test.YtdpkigdfhfippaaGreatDoorJ38
/- Plans: the program's own: Tile, All; that all of its calls answer so. -/
namespace Go.Proofs.YtdpkigdfhfippaaGreatDoor
open Go.RowKit

theorem infoTilT : (Tryz.prog.info? 46).map (fun i => (i.zero, i.size, i.bytes)) = some (some (.agg #[.int .i64 0, .int .i64 0, .int .i64 0, .int .i64 0, .int .i64 0, .int .i64 0, .int .i64 0, .int .i64 0, .int .i64 0, .int .i64 0]), 10, 80) := by kernel_rfl
/-- Tiles so far, in a block of so many. -/
def TilFill (w : World) (h n k : Nat) (F : Nat → Til) : Prop :=
  (∀ j, j < n * 10 → (∃ v, w.cell? ⟨h, j, none⟩ = some v) ∧ w.frozen? ⟨h, j, none⟩ = false) ∧ ∀ j, j < k → TilIn w h (j * 10) (F j)
theorem TilFill.below {w w' : World} {h n k : Nat} {F : Nat → Til} (s : TilFill w h n k F) (hb : Below w.heap.size w w') : TilFill w' h n k F := by
  obtain ⟨s1, s2⟩ := s
  refine ⟨fun j hj => ?_, fun j hj => (s2 j hj).below hb⟩
  obtain ⟨⟨v, c⟩, f⟩ := s1 j hj
  exact ⟨⟨v, cb hb (cell_ltL c) c⟩, fb hb (cell_ltL c) f⟩
/-- Ten cells one behind the other are written. -/
def put10 (w : World) (h q : Nat) (t : Til) : World := (((((((((w.setCell ⟨h, q, none⟩ (.int .i64 t.tn)).setCell ⟨h, q + 1, none⟩ (.int .i64 t.tx)).setCell ⟨h, q + 2, none⟩ (.int .i64 t.ty)).setCell ⟨h, q + 3, none⟩ (.int .i64 t.tw)).setCell ⟨h, q + 4, none⟩ (.int .i64 t.th)).setCell ⟨h, q + 5, none⟩ (.int .i64 t.fx)).setCell ⟨h, q + 6, none⟩ (.int .i64 t.fy)).setCell ⟨h, q + 7, none⟩ (.int .i64 t.cx)).setCell ⟨h, q + 8, none⟩ (.int .i64 t.cy)).setCell ⟨h, q + 9, none⟩ (.int .i64 t.rg)
theorem put10_far {w : World} {h q j : Nat} (t : Til) (hj : j < q ∨ q + 10 ≤ j) : (put10 w h q t).cell? ⟨h, j, none⟩ = w.cell? ⟨h, j, none⟩ := by
  unfold put10
  rw [set_apart (Or.inr (by omega)), set_apart (Or.inr (by omega)), set_apart (Or.inr (by omega)), set_apart (Or.inr (by omega)), set_apart (Or.inr (by omega)), set_apart (Or.inr (by omega)), set_apart (Or.inr (by omega)), set_apart (Or.inr (by omega)), set_apart (Or.inr (by omega)), set_apart (Or.inr (by omega))]
theorem put10_frozen {w : World} {h q : Nat} (t : Til) (a : Addr) : (put10 w h q t).frozen? a = w.frozen? a := by
  unfold put10
  simp only [World.frozen?_setCell]
theorem put10_below {a w : World} {h : Nat} (hb : Below a.heap.size a w) (hh : a.heap.size ≤ h) (q : Nat) (t : Til) : Below a.heap.size a (put10 w h q t) := bs (bs (bs (bs (bs (bs (bs (bs (bs (bs hb hh _) hh _) hh _) hh _) hh _) hh _) hh _) hh _) hh _) hh _
theorem put10_in {w : World} {h q : Nat} (t : Til) (hc : ∀ o, o < 10 → ∃ v, w.cell? ⟨h, q + o, none⟩ = some v) : TilIn (put10 w h q t) h q t := by
  obtain ⟨v0, c0⟩ := hc 0 (by decide)
  rw [Nat.add_zero] at c0
  obtain ⟨v1, c1⟩ := hc 1 (by decide)
  obtain ⟨v2, c2⟩ := hc 2 (by decide)
  obtain ⟨v3, c3⟩ := hc 3 (by decide)
  obtain ⟨v4, c4⟩ := hc 4 (by decide)
  obtain ⟨v5, c5⟩ := hc 5 (by decide)
  obtain ⟨v6, c6⟩ := hc 6 (by decide)
  obtain ⟨v7, c7⟩ := hc 7 (by decide)
  obtain ⟨v8, c8⟩ := hc 8 (by decide)
  obtain ⟨v9, c9⟩ := hc 9 (by decide)
  unfold put10
  refine ⟨?_, ?_, ?_, ?_, ?_, ?_, ?_, ?_, ?_, ?_⟩
  · rw [set_apart (Or.inr (by omega)), set_apart (Or.inr (by omega)), set_apart (Or.inr (by omega)), set_apart (Or.inr (by omega)), set_apart (Or.inr (by omega)), set_apart (Or.inr (by omega)), set_apart (Or.inr (by omega)), set_apart (Or.inr (by omega)), set_apart (Or.inr (by omega))]; exact World.cell?_setCell_same' _ _ _ (by rw [c0]; rfl)
  · rw [set_apart (Or.inr (by omega)), set_apart (Or.inr (by omega)), set_apart (Or.inr (by omega)), set_apart (Or.inr (by omega)), set_apart (Or.inr (by omega)), set_apart (Or.inr (by omega)), set_apart (Or.inr (by omega)), set_apart (Or.inr (by omega))]; exact World.cell?_setCell_same' _ _ _ (by rw [set_apart (Or.inr (by omega)), c1]; rfl)
  · rw [set_apart (Or.inr (by omega)), set_apart (Or.inr (by omega)), set_apart (Or.inr (by omega)), set_apart (Or.inr (by omega)), set_apart (Or.inr (by omega)), set_apart (Or.inr (by omega)), set_apart (Or.inr (by omega))]; exact World.cell?_setCell_same' _ _ _ (by rw [set_apart (Or.inr (by omega)), set_apart (Or.inr (by omega)), c2]; rfl)
  · rw [set_apart (Or.inr (by omega)), set_apart (Or.inr (by omega)), set_apart (Or.inr (by omega)), set_apart (Or.inr (by omega)), set_apart (Or.inr (by omega)), set_apart (Or.inr (by omega))]; exact World.cell?_setCell_same' _ _ _ (by rw [set_apart (Or.inr (by omega)), set_apart (Or.inr (by omega)), set_apart (Or.inr (by omega)), c3]; rfl)
  · rw [set_apart (Or.inr (by omega)), set_apart (Or.inr (by omega)), set_apart (Or.inr (by omega)), set_apart (Or.inr (by omega)), set_apart (Or.inr (by omega))]; exact World.cell?_setCell_same' _ _ _ (by rw [set_apart (Or.inr (by omega)), set_apart (Or.inr (by omega)), set_apart (Or.inr (by omega)), set_apart (Or.inr (by omega)), c4]; rfl)
  · rw [set_apart (Or.inr (by omega)), set_apart (Or.inr (by omega)), set_apart (Or.inr (by omega)), set_apart (Or.inr (by omega))]; exact World.cell?_setCell_same' _ _ _ (by rw [set_apart (Or.inr (by omega)), set_apart (Or.inr (by omega)), set_apart (Or.inr (by omega)), set_apart (Or.inr (by omega)), set_apart (Or.inr (by omega)), c5]; rfl)
  · rw [set_apart (Or.inr (by omega)), set_apart (Or.inr (by omega)), set_apart (Or.inr (by omega))]; exact World.cell?_setCell_same' _ _ _ (by rw [set_apart (Or.inr (by omega)), set_apart (Or.inr (by omega)), set_apart (Or.inr (by omega)), set_apart (Or.inr (by omega)), set_apart (Or.inr (by omega)), set_apart (Or.inr (by omega)), c6]; rfl)
  · rw [set_apart (Or.inr (by omega)), set_apart (Or.inr (by omega))]; exact World.cell?_setCell_same' _ _ _ (by rw [set_apart (Or.inr (by omega)), set_apart (Or.inr (by omega)), set_apart (Or.inr (by omega)), set_apart (Or.inr (by omega)), set_apart (Or.inr (by omega)), set_apart (Or.inr (by omega)), set_apart (Or.inr (by omega)), c7]; rfl)
  · rw [set_apart (Or.inr (by omega))]; exact World.cell?_setCell_same' _ _ _ (by rw [set_apart (Or.inr (by omega)), set_apart (Or.inr (by omega)), set_apart (Or.inr (by omega)), set_apart (Or.inr (by omega)), set_apart (Or.inr (by omega)), set_apart (Or.inr (by omega)), set_apart (Or.inr (by omega)), set_apart (Or.inr (by omega)), c8]; rfl)
  · exact World.cell?_setCell_same' _ _ _ (by rw [set_apart (Or.inr (by omega)), set_apart (Or.inr (by omega)), set_apart (Or.inr (by omega)), set_apart (Or.inr (by omega)), set_apart (Or.inr (by omega)), set_apart (Or.inr (by omega)), set_apart (Or.inr (by omega)), set_apart (Or.inr (by omega)), set_apart (Or.inr (by omega)), c9]; rfl)
theorem TilFill.more {w : World} {h n k : Nat} {F : Nat → Til} (s : TilFill w h n k F) (hk : k < n) : TilFill (put10 w h (k * 10) (F k)) h n (k + 1) F := by
  obtain ⟨s1, s2⟩ := s
  have IN := put10_in (w := w) (h := h) (q := k * 10) (F k) (fun o ho => (s1 (k * 10 + o) (by omega)).1)
  refine ⟨fun j hj => ⟨?_, ?_⟩, fun j hj => ?_⟩
  · by_cases e : j < k * 10 ∨ k * 10 + 10 ≤ j
    · rw [put10_far _ e]
      exact (s1 j hj).1
    · obtain ⟨o, ho, rfl⟩ : ∃ o, o < 10 ∧ j = k * 10 + o := ⟨j - k * 10, by omega, by omega⟩
      obtain ⟨i0, i1, i2, i3, i4, i5, i6, i7, i8, i9⟩ := IN
      match o, ho with
      | 0, _ => exact ⟨_, i0⟩
      | 1, _ => exact ⟨_, i1⟩
      | 2, _ => exact ⟨_, i2⟩
      | 3, _ => exact ⟨_, i3⟩
      | 4, _ => exact ⟨_, i4⟩
      | 5, _ => exact ⟨_, i5⟩
      | 6, _ => exact ⟨_, i6⟩
      | 7, _ => exact ⟨_, i7⟩
      | 8, _ => exact ⟨_, i8⟩
      | 9, _ => exact ⟨_, i9⟩
  · rw [put10_frozen]
    exact (s1 j hj).2
  · by_cases e : j = k
    · subst e
      exact IN
    · obtain ⟨i0, i1, i2, i3, i4, i5, i6, i7, i8, i9⟩ := s2 j (by omega)
      exact ⟨(put10_far _ (by omega)).trans i0, (put10_far _ (by omega)).trans i1, (put10_far _ (by omega)).trans i2, (put10_far _ (by omega)).trans i3, (put10_far _ (by omega)).trans i4, (put10_far _ (by omega)).trans i5, (put10_far _ (by omega)).trans i6, (put10_far _ (by omega)).trans i7, (put10_far _ (by omega)).trans i8, (put10_far _ (by omega)).trans i9⟩
/-- What 'make' makes of tiles. -/
theorem makeTil (n : Nat) (h : n ≤ 4294967296) : ∃ zs : Array Value, (∀ w : World, (Instr.makeSlice 41 (.int .i64 (n : Int)) (.int .i64 (n : Int))).run Tryz.prog w = .ok (.slice (some ⟨w.heap.size, 0, none⟩) n n) (w.alloc (.cells zs 46))) ∧ (∀ (w : World) (F : Nat → Til), TilFill (w.alloc (.cells zs 46)) w.heap.size n 0 F) := by
  obtain ⟨i0, hi, hz0, hz1, hz2⟩ := info_parts infoTilT
  have hm : (n : Int) ≤ 9223372036854775807 := by omega
  refine ⟨madeCells (Value.agg #[.int .i64 0, .int .i64 0, .int .i64 0, .int .i64 0, .int .i64 0, .int .i64 0, .int .i64 0, .int .i64 0, .int .i64 0, .int .i64 0]).cells (n * i0.size), fun w => ?_, fun w F => ?_⟩
  · have hr := run_make (P := Tryz.prog) w 41 46 i0 (.agg #[.int .i64 0, .int .i64 0, .int .i64 0, .int .i64 0, .int .i64 0, .int .i64 0, .int .i64 0, .int .i64 0, .int .i64 0, .int .i64 0]) Tryz.underlying41 hi hz0 .i64 .i64 n n (by omega) (Int.le_refl _) (by rw [hz2]; omega) hm
    simpa only [Int.toNat_natCast] using hr
  · rw [hz1]
    have ho : (w.alloc (.cells (madeCells (Value.agg #[.int .i64 0, .int .i64 0, .int .i64 0, .int .i64 0, .int .i64 0, .int .i64 0, .int .i64 0, .int .i64 0, .int .i64 0, .int .i64 0]).cells (n * 10)) 46)).ownsRow 0 46 10 (.slice (some ⟨w.heap.size, 0, none⟩) n n) n (madeCells (Value.agg #[.int .i64 0, .int .i64 0, .int .i64 0, .int .i64 0, .int .i64 0, .int .i64 0, .int .i64 0, .int .i64 0, .int .i64 0, .int .i64 0]).cells (n * 10)).toList :=
      World.ownsRow_lit w _ n (Nat.zero_le _) (by unfold maxLen; omega) (by rw [size_madeCells])
    have hl := ho.1
    refine ⟨fun j hj => ⟨?_, ho.frozenAt j⟩, fun j hj => absurd hj (Nat.not_lt_zero _)⟩
    rw [ho.cellAt j hj]
    exact ⟨_, List.getElem?_eq_getElem (by omega)⟩
theorem TilFill.at {w : World} {h n : Nat} {F : Nat → Til} (s : TilFill w h n n F) : TilsAt w (some ⟨h, 0, none⟩) n F := by
  refine .inr ⟨h, 0, rfl, fun j hj => ?_⟩
  rw [Nat.zero_add]
  exact s.2 j hj
set_option maxHeartbeats 4000000 in
set_option maxRecDepth 100000 in
theorem all14_any {w : World} {v x y : Value} {S : Stg} {a b : Int} (h : PlanAt w v x y S a b) :
    Calls Tryz.prog 11 #[v] w fun e w' => (∃ ad cap, e = .returned (.slice ad (countF S.lx S.ly a b).toNat cap) ∧ TilsAt w' ad (countF S.lx S.ly a b).toNat (fun k => tilF S.lx S.ly a b (k : Int)) ∧ (ad = none → cap = 0)) ∧ Below w.heap.size w w' := by
  have CC := count_any h
  have CT := fun (i : Int) i0 i1 w' (b' : Below w.heap.size w w') => tile14_any (h.below b') i i0 i1
  obtain ⟨g, rfl, hs, tx, ty, ht⟩ := h
  obtain ⟨a0, a1, b0, b1⟩ := tileB_iff.1 ht
  have m1 := tx.ok.2.2.1
  have n1 := ty.ok.2.2.1
  have cin := count_in (LX := S.lx) (LY := S.ly) a0 b0
  obtain ⟨N, hN⟩ : ∃ N : Nat, countF S.lx S.ly a b = (N : Int) := ⟨_, (Int.toNat_of_nonneg cin.2.2.2.2.1).symm⟩
  have NB : N ≤ 4294967296 := by
    have h1 := cin.2.2.2.2.2
    have h2 : (S.lx.length : Int) * (S.ly.length : Int) ≤ 65536 * 65536 := Int.mul_le_mul (by omega) (by omega) (by omega) (by omega)
    omega
  rw [hN] at CC CT ⊢
  rw [Int.toNat_natCast]
  obtain ⟨zs, MK, MO⟩ := makeTil N NB
  have HMO := hide MO
  clear hs tx ty ht cin hN m1 n1 MO
  go_enter Tryz.func11, Tryz.ntmps11
  go_wp2_with (go_at_call 15; (with_reducible refine CC.mono ?_); rintro e w1 ⟨rfl, d1⟩; have B1 := hide d1.below; clear d1)
  have F0 := hide (HMO.out w1 (fun k => tilF S.lx S.ly a b (k : Int)))
  have Z1 : w.heap.size ≤ w1.heap.size := B1.out.size
  go_loopw [10] (fun i wr => ∃ k : Nat, k ≤ N ∧ i = .int .i64 (k : Int) ∧ Hid (TilFill wr w1.heap.size N k (fun k => tilF S.lx S.ly a b (k : Int))) ∧ Below w.heap.size w wr) (fun i _ => N - (intOf i).toNat)
  case atStart => exact ⟨0, by omega, rfl, F0, ba B1.out _⟩
  case round =>
    clear CC F0 MK HMO
    obtain ⟨k, hk, rfl, HS, hb⟩ := hrel
    have HB := hide hb
    by_cases hlt : k < N
    · have CTk := fun w' b' => CT (k : Int) (by omega) (by omega) w' b'
      have HMORE := hide (fun (W : World) (s : TilFill W w1.heap.size N k (fun k => tilF S.lx S.ly a b (k : Int))) => s.more hlt)
      unfold tilV at CTk
      obtain ⟨t, ht⟩ : ∃ t, tilF S.lx S.ly a b (k : Int) = t := ⟨_, rfl⟩
      rw [ht] at CTk
      simp only [ht] at HMORE
      clear ht
      obtain ⟨tn, t1, t2, t3, t4, t5, t6, t7, t8, t9⟩ := t
      simp only at CTk
      have hz : w1.heap.size < wr.heap.size := by
        obtain ⟨⟨v0, c0⟩, _⟩ := HS.out.1 0 (by omega)
        exact cell_ltL c0
      go_wp2_with (go_at_call 28; (with_reducible refine (CTk _ HB.out).mono ?_); rintro e w3 ⟨rfl, b3⟩; have F3 := HS.out.below b3; have HF3 := hide F3; obtain ⟨⟨v0, r0⟩, y0⟩ := F3.1 (k * 10) (by omega); obtain ⟨⟨v1, r1⟩, y1⟩ := F3.1 (k * 10 + 1) (by omega); obtain ⟨⟨v2, r2⟩, y2⟩ := F3.1 (k * 10 + 2) (by omega); obtain ⟨⟨v3, r3⟩, y3⟩ := F3.1 (k * 10 + 3) (by omega); obtain ⟨⟨v4, r4⟩, y4⟩ := F3.1 (k * 10 + 4) (by omega); obtain ⟨⟨v5, r5⟩, y5⟩ := F3.1 (k * 10 + 5) (by omega); obtain ⟨⟨v6, r6⟩, y6⟩ := F3.1 (k * 10 + 6) (by omega); obtain ⟨⟨v7, r7⟩, y7⟩ := F3.1 (k * 10 + 7) (by omega); obtain ⟨⟨v8, r8⟩, y8⟩ := F3.1 (k * 10 + 8) (by omega); obtain ⟨⟨v9, r9⟩, y9⟩ := F3.1 (k * 10 + 9) (by omega); clear F3)
      have M5 := hide (HMORE.out w3 HF3.out)
      have B5 := hide (put10_below (bt HB.out b3) Z1 (k * 10) ⟨tn, t1, t2, t3, t4, t5, t6, t7, t8, t9⟩)
      unfold put10 at M5 B5
      simp only at M5 B5
      clear HF3 b3 r0 r1 r2 r3 r4 r5 r6 r7 r8 r9 y0 y1 y2 y3 y4 y5 y6 y7 y8 y9 HMORE
      go_wp2
      go_roundw
      case rel => exact ⟨k + 1, by omega, by go_num, M5, B5.out⟩
      case measure => simp [intOf]; omega
    · obtain rfl : k = N := by omega
      have HA := hide HS.out.at
      clear hb
      go_wp2
      go_ret
      exact ⟨⟨_, _, rfl, HA.out, fun e => by cases e⟩, HB.out⟩
theorem tileN_any {w : World} {v x y : Value} {S : Stg} {a b : Int} (h : PlanAt w v x y S a b) (i : Int) (hi : In64 i) :
    Calls Tryz.prog 17 #[v, .int .i64 i] w fun e w' => e = .returned (.tuple #[tilV (if inB (countF S.lx S.ly a b) i = true then tilF S.lx S.ly a b i else til0), .bool (inB (countF S.lx S.ly a b) i)]) ∧ Below w.heap.size w w' := by
  have CC := fun w' (b' : Below w.heap.size w w') => count_any (h.below b')
  have CT := fun i0 i1 w' (b' : Below w.heap.size w w') => tile14_any (h.below b') i i0 i1
  have hcin := count_in (LX := S.lx) (LY := S.ly) (tileB_iff.1 (by obtain ⟨_, _, _, _, _, ht⟩ := h; exact ht)).1 (tileB_iff.1 (by obtain ⟨_, _, _, _, _, ht⟩ := h; exact ht)).2.2.1
  obtain ⟨g, rfl, _⟩ := h
  generalize countF S.lx S.ly a b = C at *
  obtain ⟨_, _, _, _, C0, _⟩ := hcin
  unfold In64 at hi
  have T0 := hide (P10.new w 46 til0)
  have F0 := hide (F10.new w #[.int .i64 0, .int .i64 0, .int .i64 0, .int .i64 0, .int .i64 0, .int .i64 0, .int .i64 0, .int .i64 0, .int .i64 0, .int .i64 0] 46)
  by_cases hin : 0 ≤ i ∧ i < C
  · rw [inB_iff.2 hin, if_pos rfl]
    obtain ⟨i0, i1⟩ := hin
    replace CT := CT i0 i1
    have hge : decide (C ≤ i) = false := decide_eq_false (by omega)
    unfold tilV at CT ⊢
    generalize tilF S.lx S.ly a b i = t at *
    obtain ⟨tn, t1, t2, t3, t4, t5, t6, t7, t8, t9⟩ := t
    simp only at CT ⊢
    go_enter Tryz.func17, Tryz.ntmps17
    go_wp2_with (first
      | (go_at_call 15; (with_reducible refine (CC _ (below1 _ _)).mono ?_); rintro e w1 ⟨rfl, d1⟩; have B1 := hide (bt (below1 w (.cells #[.int .i64 0, .int .i64 0, .int .i64 0, .int .i64 0, .int .i64 0, .int .i64 0, .int .i64 0, .int .i64 0, .int .i64 0, .int .i64 0] 46)) d1.below); have T1 := hide (T0.out.below d1.below); have F1 := hide (F0.out.below d1.below); clear d1)
      | (go_at_call 28; (with_reducible refine (CT _ B1.out).mono ?_); rintro e w3 ⟨rfl, b3⟩; have B3 := hide (bt B1.out b3); have T3 := hide (T1.out.below b3); have F3 := hide (F1.out.below b3); obtain ⟨p0, p1, p2, p3, p4, p5, p6, p7, p8, p9⟩ := T3.out; obtain ⟨q0, q1, q2, q3, q4, q5, q6, q7, q8, q9, _⟩ := F3.out; unfold til0 at p0 p1 p2 p3 p4 p5 p6 p7 p8 p9; simp only at p0 p1 p2 p3 p4 p5 p6 p7 p8 p9))
    have E := hide (T3.out.fill ⟨tn, t1, t2, t3, t4, t5, t6, t7, t8, t9⟩)
    have EB := hide (fill10_below B3.out (Nat.le_refl _) ⟨tn, t1, t2, t3, t4, t5, t6, t7, t8, t9⟩)
    obtain ⟨u0, u1, u2, u3, u4, u5, u6, u7, u8, u9⟩ := E.out
    unfold fill10 at u0 u1 u2 u3 u4 u5 u6 u7 u8 u9
    simp only at u0 u1 u2 u3 u4 u5 u6 u7 u8 u9
    exact bodyPost_ret (v := .tuple #[.agg #[.int .i64 tn, .int .i64 t1, .int .i64 t2, .int .i64 t3, .int .i64 t4, .int .i64 t5, .int .i64 t6, .int .i64 t7, .int .i64 t8, .int .i64 t9], .bool true]) (by simp [results, Tryz.results17, go_sem, u0, u1, u2, u3, u4, u5, u6, u7, u8, u9]) rfl ⟨rfl, EB.out⟩
  · rw [show inB C i = false by
      cases hb : inB C i
      · rfl
      · exact absurd (inB_iff.1 hb) hin, if_neg (by decide)]
    unfold tilV til0
    simp only
    rcases Int.lt_or_le i 0 with q0 | q0
    · go_enter Tryz.func17, Tryz.ntmps17
      go_wp2
      exact bodyPost_ret (v := .tuple #[.agg #[.int .i64 0, .int .i64 0, .int .i64 0, .int .i64 0, .int .i64 0, .int .i64 0, .int .i64 0, .int .i64 0, .int .i64 0, .int .i64 0], .bool false]) (by simp [results, Tryz.results17, go_sem]) rfl ⟨rfl, below1 _ _⟩
    · have hge : C ≤ i := by omega
      go_enter Tryz.func17, Tryz.ntmps17
      go_wp2_with (go_at_call 15; (with_reducible refine (CC _ (below1 _ _)).mono ?_); rintro e w1 ⟨rfl, d1⟩; have B1 := hide (bt (below1 w (.cells #[.int .i64 0, .int .i64 0, .int .i64 0, .int .i64 0, .int .i64 0, .int .i64 0, .int .i64 0, .int .i64 0, .int .i64 0, .int .i64 0] 46)) d1.below); have T1 := hide (T0.out.below d1.below); have F1 := hide (F0.out.below d1.below); obtain ⟨p0, p1, p2, p3, p4, p5, p6, p7, p8, p9⟩ := T1.out; obtain ⟨q0, q1, q2, q3, q4, q5, q6, q7, q8, q9, _⟩ := F1.out; unfold til0 at p0 p1 p2 p3 p4 p5 p6 p7 p8 p9; simp only at p0 p1 p2 p3 p4 p5 p6 p7 p8 p9; clear d1)
      have E := hide (T1.out.fill til0)
      have EB := hide (fill10_below B1.out (Nat.le_refl _) til0)
      obtain ⟨u0, u1, u2, u3, u4, u5, u6, u7, u8, u9⟩ := E.out
      unfold fill10 til0 at u0 u1 u2 u3 u4 u5 u6 u7 u8 u9
      simp only at u0 u1 u2 u3 u4 u5 u6 u7 u8 u9
      exact bodyPost_ret (v := .tuple #[.agg #[.int .i64 0, .int .i64 0, .int .i64 0, .int .i64 0, .int .i64 0, .int .i64 0, .int .i64 0, .int .i64 0, .int .i64 0, .int .i64 0], .bool false]) (by simp [results, Tryz.results17, go_sem, u0, u1, u2, u3, u4, u5, u6, u7, u8, u9]) rfl ⟨rfl, EB.out⟩
/-- All of the program's calls. -/
theorem plan_c {K : World → Prop} : PlanC K PlanAt where
  below := fun h b => h.below b
  ptr := fun ⟨_, e, _⟩ => ⟨_, e⟩
  ok := fun ⟨_, _, _, tx, ty, ht⟩ => ⟨tx, ty, ht⟩
  new := fun x y S a b w _ tx ty _ _ => new14_any x y S a b w tx ty
  lacks := fun x y c a b w _ hx hy hn _ _ => new14_lacks x y c a b w hx hy hn
  count := fun h => (count_any h).mono fun _ _ ⟨a, b⟩ => ⟨a, b.below⟩
  tile := fun h i hi => tileN_any h i hi
  all := fun h => all14_any h
  find := fun h i j hi hj => find14_any h i j hi hj
  scratch := fun h c c0 c1 => scratch14_any h c c0 c1
  stage := fun h => stage14p_any h
end Go.Proofs.YtdpkigdfhfippaaGreatDoor
