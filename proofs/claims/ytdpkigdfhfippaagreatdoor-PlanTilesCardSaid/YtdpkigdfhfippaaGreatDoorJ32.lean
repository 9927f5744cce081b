/- Parts, joined. -/
import Derived.Test.YtdpkigdfhfippaaGreatDoorJ24
import Derived.Test.YtdpkigdfhfippaaGreatDoorJ16
import Derived.Test.YtdpkigdfhfippaaGreatDoorJ31
import Derived.Deep.LoopGhost
/- Plans: the document's Most and All. Written by gen_XS14C.py. -/
namespace Go.Proofs.YtdpkigdfhfippaaGreatDoor
open Go.RowKit


set_option maxHeartbeats 1000000 in
theorem dmost14_any (L : List (Int × List Int)) (hL : LinesOk L) (hl : L.length ≤ 1048576) (g cap : Nat) (w : World) (hr : LinesAt w g L) :
    Calls Tryz.prog 29 #[.slice (some ⟨g, 0, none⟩) L.length cap] w fun e w' => e = .returned (.int .i64 (mostF L)) ∧ Below w.heap.size w w' := by
  have HR := hide hr
  have HL := hide hL
  obtain ⟨R, hR⟩ : ∃ R, R = mostTo L L.length := ⟨_, rfl⟩
  rw [show mostF L = R from hR.symm]
  obtain ⟨n, hn⟩ : ∃ n, L.length = n := ⟨_, rfl⟩
  have HN := hide hn
  rw [hn] at hl hR ⊢
  have HF := hide hR
  clear hR hr hL hn
  go_enter Tryz.func29, Tryz.ntmps29
  go_wp2
  go_loopw [3, 8] (fun u i' wr => ∃ o : Nat, o ≤ n ∧ i' = .int .i64 (o : Int) ∧ u = .int .i64 (mostTo L o) ∧ Below w.heap.size w wr) (fun _ i' _ => n - (intOf i').toNat)
  case atStart => exact ⟨0, by omega, rfl, rfl, Below.refl _ _⟩
  case round =>
    obtain ⟨o, ho, rfl, rfl, hb⟩ := hrel
    have HB := hide hb
    clear hb
    by_cases hlt : o < n
    · obtain ⟨c1, u, c2, ad, cp, rfl, hrow⟩ := (HR.out.below HB.out) o (by rw [HN.out]; exact hlt)
      obtain ⟨f0, f1, t0, t1, _⟩ := HL.out o (by rw [HN.out]; exact hlt)
      have HS := hide (show mostTo L (o + 1) = max (mostTo L o) ((lnAt L o).2.length : Int) from rfl)
      obtain ⟨M, hM⟩ : ∃ M, mostTo L o = M := ⟨_, rfl⟩
      obtain ⟨M2, hM2⟩ : ∃ M2, mostTo L (o + 1) = M2 := ⟨_, rfl⟩
      rw [hM, hM2] at HS
      have HM2 := hide hM2
      clear hrow hM2
      rw [hM]
      clear hM
      generalize (lnAt L o).2.length = m at *
      generalize (lnAt L o).1 = f at *
      have B1 := hide (ba HB.out (.cells #[.int .i64 f, .slice ad m cp] 101))
      by_cases hg : M < (m : Int)
      · obtain rfl : M2 = (m : Int) := by rw [HS.out]; omega
        go_wp2
        go_roundw
        case rel => exact ⟨o + 1, by omega, by go_num, by rw [HM2.out], B1.out⟩
        case measure => simp [intOf]; omega
      · obtain rfl : M2 = M := by rw [HS.out]; omega
        go_wp2
        go_roundw
        case rel => exact ⟨o + 1, by omega, by go_num, by rw [HM2.out], B1.out⟩
        case measure => simp [intOf]; omega
    · obtain rfl : o = n := by omega
      rw [← HF.out]
      go_wp2
      go_ret
      exact ⟨rfl, HB.out⟩
theorem infoTilR : (Tryz.prog.info? 55).map (fun i => (i.zero, i.size, i.bytes)) = some (some (.agg #[.int .i64 0, .int .i64 0, .int .i64 0, .int .i64 0, .int .i64 0, .int .i64 0, .int .i64 0, .int .i64 0, .int .i64 0, .int .i64 0]), 10, 80) := by kernel_rfl
/-- Ten cells that may be written. -/
def F10 (w : World) (b : Nat) : Prop :=
  w.frozen? ⟨b, 0, none⟩ = false ∧ w.frozen? ⟨b, 1, none⟩ = false ∧ w.frozen? ⟨b, 2, none⟩ = false ∧ w.frozen? ⟨b, 3, none⟩ = false ∧ w.frozen? ⟨b, 4, none⟩ = false ∧ w.frozen? ⟨b, 5, none⟩ = false ∧ w.frozen? ⟨b, 6, none⟩ = false ∧ w.frozen? ⟨b, 7, none⟩ = false ∧ w.frozen? ⟨b, 8, none⟩ = false ∧ w.frozen? ⟨b, 9, none⟩ = false ∧ b < w.heap.size
theorem F10.new (w : World) (cs : Array Value) (T : TypeId) : F10 (w.alloc (.cells cs T)) w.heap.size := by
  unfold F10
  simp
theorem F10.below {w w' : World} {b : Nat} (h : F10 w b) (hb : Below w.heap.size w w') : F10 w' b := by
  obtain ⟨f0, f1, f2, f3, f4, f5, f6, f7, f8, f9, hl⟩ := h
  exact ⟨fb hb hl f0, fb hb hl f1, fb hb hl f2, fb hb hl f3, fb hb hl f4, fb hb hl f5, fb hb hl f6, fb hb hl f7, fb hb hl f8, fb hb hl f9, Nat.lt_of_lt_of_le hl hb.size⟩
theorem til_set4 {w : World} {b : Nat} {n x y a c m : Int} (h : P10 w b ⟨n, x, y, a, c, 0, 0, 0, 0, m⟩) (fx cx fy cy : Int) : P10 ((((w.setCell ⟨b, 5, none⟩ (.int .i64 fx)).setCell ⟨b, 7, none⟩ (.int .i64 cx)).setCell ⟨b, 6, none⟩ (.int .i64 fy)).setCell ⟨b, 8, none⟩ (.int .i64 cy)) b ⟨n, x, y, a, c, fx, fy, cx, cy, m⟩ := by
  obtain ⟨h0, h1, h2, h3, h4, h5, h6, h7, h8, h9⟩ := h
  unfold P10
  refine ⟨?_, ?_, ?_, ?_, ?_, ?_, ?_, ?_, ?_, ?_⟩
  · rw [set_apart (Or.inr (by decide)), set_apart (Or.inr (by decide)), set_apart (Or.inr (by decide)), set_apart (Or.inr (by decide))]; exact h0
  · rw [set_apart (Or.inr (by decide)), set_apart (Or.inr (by decide)), set_apart (Or.inr (by decide)), set_apart (Or.inr (by decide))]; exact h1
  · rw [set_apart (Or.inr (by decide)), set_apart (Or.inr (by decide)), set_apart (Or.inr (by decide)), set_apart (Or.inr (by decide))]; exact h2
  · rw [set_apart (Or.inr (by decide)), set_apart (Or.inr (by decide)), set_apart (Or.inr (by decide)), set_apart (Or.inr (by decide))]; exact h3
  · rw [set_apart (Or.inr (by decide)), set_apart (Or.inr (by decide)), set_apart (Or.inr (by decide)), set_apart (Or.inr (by decide))]; exact h4
  · rw [set_apart (Or.inr (by decide)), set_apart (Or.inr (by decide)), set_apart (Or.inr (by decide))]; exact World.cell?_setCell_same' _ _ _ (by rw [h5]; rfl)
  · rw [set_apart (Or.inr (by decide))]; exact World.cell?_setCell_same' _ _ _ (by rw [set_apart (Or.inr (by decide)), set_apart (Or.inr (by decide)), h6]; rfl)
  · rw [set_apart (Or.inr (by decide)), set_apart (Or.inr (by decide))]; exact World.cell?_setCell_same' _ _ _ (by rw [set_apart (Or.inr (by decide)), h7]; rfl)
  · exact World.cell?_setCell_same' _ _ _ (by rw [set_apart (Or.inr (by decide)), set_apart (Or.inr (by decide)), set_apart (Or.inr (by decide)), h8]; rfl)
  · rw [set_apart (Or.inr (by decide)), set_apart (Or.inr (by decide)), set_apart (Or.inr (by decide)), set_apart (Or.inr (by decide))]; exact h9
theorem TilSo.mono {T : TypeId} {B B' : Nat} {w : World} {F : Nat → Til} {k : Nat} {v : Value} (h : TilSo T B w F k v) (hb : B' ≤ B) : TilSo T B' w F k v := by
  obtain ⟨us, hu, ho, hc⟩ := h
  exact ⟨us, hu, ho.mono hb, hc⟩
set_option maxHeartbeats 8000000 in
set_option maxRecDepth 100000 in
theorem dall14_any (LX LY : List (Int × List Int)) (fx fy sb : Int) (gx px gy py : Nat) (nx ny : Nat) (hnx : LX.length = nx) (hny : LY.length = ny) (a b : Int) (w : World) (rx : LinesAt w gx LX) (ry : LinesAt w gy LY) (ox : LinesOk LX) (oy : LinesOk LY) (x0 : 1 ≤ nx) (x1 : nx ≤ 65536) (y0 : 1 ≤ ny) (y1 : ny ≤ 65536) (a0 : 1 ≤ a) (a1 : a ≤ 4096) (b0 : 1 ≤ b) (b1 : b ≤ 4096) :
    Calls Tryz.prog 14 #[.agg #[.slice (some ⟨gx, 0, none⟩) nx px, .slice (some ⟨gy, 0, none⟩) ny py, .int .i64 fx, .int .i64 fy, .int .i64 sb], .int .i64 a, .int .i64 b] w fun e w' =>
      (∃ v, e = .returned v ∧ TilSo 55 w.heap.size w' (fun k => tilF LX LY a b (k : Int)) (countF LX LY a b).toNat v) ∧ Below w.heap.size w w' := by
  obtain ⟨i0, hi, hz0, hz1, hz2⟩ := info_parts infoTilR
  obtain ⟨A, hA⟩ : ∃ A : Nat, acrossF LX a = (A : Int) := ⟨_, (Int.toNat_of_nonneg (count_in (LX := LX) (LY := LY) a0 b0).1).symm⟩
  obtain ⟨D, hD⟩ : ∃ D : Nat, acrossF LY b = (D : Int) := ⟨_, (Int.toNat_of_nonneg (count_in (LX := LX) (LY := LY) a0 b0).2.2.1).symm⟩
  have cin := count_in (LX := LX) (LY := LY) a0 b0
  rw [hA, hD, hnx, hny] at cin
  obtain ⟨_, A1, _, D1, _, _⟩ := cin
  have HC := hide (show (countF LX LY a b).toNat = D * A by
    unfold countF
    rw [hA, hD, Int.mul_comm, ← Int.natCast_mul, Int.toNat_natCast])
  have HXL := hide (fun (i : Nat) (h : i < A) => show (i : Int) * a < (nx : Int) by rw [← hnx]; exact (steps_lt a0).1 (by show (i : Int) < acrossF LX a; omega))
  have HXG := hide (show (nx : Int) ≤ (A : Int) * a by rw [← hnx]; exact steps_back a0 (by show acrossF LX a ≤ _; omega))
  have HYL := hide (fun (j : Nat) (h : j < D) => show (j : Int) * b < (ny : Int) by rw [← hny]; exact (steps_lt b0).1 (by show (j : Int) < acrossF LY b; omega))
  have HYG := hide (show (ny : Int) ≤ (D : Int) * b by rw [← hny]; exact steps_back b0 (by show acrossF LY b ≤ _; omega))
  have HF := hide (fun (i j : Nat) (h : i < A) => show tilF LX LY a b ((j * A + i : Nat) : Int) = tilAt LX LY a b (i : Int) (j : Int) ((j * A + i : Nat) : Int) by
    have := tilF_at (LX := LX) (LY := LY) (a := a) (b := b) (i := (i : Int)) (j := (j : Int)) (by omega) (by rw [hA]; omega)
    rw [hA] at this
    rw [Int.natCast_add, Int.natCast_mul]
    exact this)
  have CMO := fun w' hr => dmost14_any LY oy (by omega) gy py w' hr
  have CRX := fun i k w' hr => refreach_any LX ox (by omega) gx px i k w' hr
  have CRY := fun i k w' hr => refreach_any LY oy (by omega) gy py i k w' hr
  have RIX := hide (fun i k => show ReachIn (reachF LX i k) from reachTo_in ox i k LX.length (Nat.le_refl _))
  have RIY := hide (fun i k => show ReachIn (reachF LY i k) from reachTo_in oy i k LY.length (Nat.le_refl _))
  have MIN := mostTo_in oy LY.length (Nat.le_refl _)
  rw [show mostTo LY LY.length = mostF LY from rfl] at MIN
  obtain ⟨m0, m1⟩ := MIN
  rw [hnx] at CRX
  rw [hny] at CMO CRY
  obtain ⟨mo, hmo⟩ : ∃ mo, mostF LY = mo := ⟨_, rfl⟩
  rw [hmo] at CMO m0 m1
  have HMO := hide hmo
  have HNX := hide hnx
  have HNY := hide hny
  obtain ⟨w0, hw0⟩ : ∃ w0, w.alloc (.cells #[.slice (some ⟨gx, 0, none⟩) nx px, .slice (some ⟨gy, 0, none⟩) ny py, .int .i64 fx, .int .i64 fy, .int .i64 sb] 34) = w0 := ⟨_, rfl⟩
  have B0 := hide (show Below w.heap.size w w0 by rw [← hw0]; exact below1 _ _)
  have HRX := hide (rx.below B0.out)
  have HRY := hide (ry.below B0.out)
  have S0 := hide (show S5 w0 w.heap.size (.slice (some ⟨gx, 0, none⟩) nx px) (.slice (some ⟨gy, 0, none⟩) ny py) (.int .i64 fx) (.int .i64 fy) (.int .i64 sb) by rw [← hw0]; exact S5.new _ _ _ _ _ _ _)
  have HZ := hide (show w.heap.size < w0.heap.size by rw [← hw0]; simp)
  clear rx ry ox oy hA hD hnx hny hmo
  go_enter Tryz.func14, Tryz.ntmps14
  go_upto_region 3 with fail
  clear hw0
  go_loopg [7, 8] D (fun r v y wr => ∃ (j : Nat) (u : Value), j + r = D ∧ y = .int .i64 ((j : Int) * b) ∧ v = u ∧ TilSo 55 w0.heap.size wr (fun k => tilF LX LY a b (k : Int)) (j * A) u ∧ Below w0.heap.size w0 wr)
  case atStart => exact ⟨0, _, by omega, by rw [Int.natCast_zero, Int.zero_mul], rfl, (by rw [Nat.zero_mul]; exact TilSo.nil _ _ _ _), Below.refl _ _⟩
  case round =>
    obtain ⟨j, u, hj, rfl, rfl, ho, hb⟩ := hrel
    obtain ⟨G, hG⟩ : ∃ G, G = gk := ⟨_, rfl⟩
    subst hG
    obtain ⟨W1, hW1⟩ : ∃ W1, W1 = wr := ⟨_, rfl⟩
    subst hW1
    have HJ := hide hj
    have HO := hide ho
    have HB := hide hb
    have HS1 := S0.out.below HB.out
    obtain ⟨⟨r0, _⟩, ⟨r1, _⟩, _, _, _⟩ := HS1
    clear ho hb hj
    by_cases hlt : j < D
    · have Y1 := HYL.out j hlt
      have Y0 : 0 ≤ (j : Int) * b := Int.mul_nonneg (by omega) (by omega)
      have YN := hide (show ((j + 1 : Nat) : Int) * b = (j : Int) * b + b by rw [Int.natCast_add, Int.add_mul]; omega)
      obtain ⟨Y, hY⟩ : ∃ Y, (j : Int) * b = Y := ⟨_, rfl⟩
      rw [hY] at Y1 Y0 YN
      have HY := hide hY
      rw [hY]
      clear hY
      go_wp2
      go_loopg [7, 9] A (fun r v x wr => ∃ (i : Nat) (u : Value), i + r = A ∧ x = .int .i64 ((i : Int) * a) ∧ v = u ∧ TilSo 55 w0.heap.size wr (fun k => tilF LX LY a b (k : Int)) (j * A + i) u ∧ Below w0.heap.size w0 wr)
      case atStart => exact ⟨0, _, by omega, by rw [Int.natCast_zero, Int.zero_mul], rfl, HO.out, HB.out⟩
      case round =>
        obtain ⟨i, u, hi', rfl, rfl, ho, hb⟩ := hrel
        have HI := hide hi'
        have HO2 := hide ho
        have HB2 := hide hb
        have HS2 := S0.out.below HB2.out
        obtain ⟨⟨s0, _⟩, ⟨s1, _⟩, _, _, _⟩ := HS2
        clear ho hb hi' r0 r1
        by_cases hlt2 : i < A
        · have X1 := HXL.out i hlt2
          have X0 : 0 ≤ (i : Int) * a := Int.mul_nonneg (by omega) (by omega)
          have XN := hide (show ((i + 1 : Nat) : Int) * a = (i : Int) * a + a by rw [Int.natCast_add, Int.add_mul]; omega)
          have KB : j * A + i ≤ 4294967296 := by
            have h1 : j * A ≤ 65535 * 65536 := Nat.mul_le_mul (by omega) (by omega)
            omega
          have HT := hide (HF.out i j hlt2)
          obtain ⟨X, hX⟩ : ∃ X, (i : Int) * a = X := ⟨_, rfl⟩
          rw [hX] at X1 X0 XN
          have HX := hide hX
          obtain ⟨us, hu, hown, hcells⟩ := HO2.out
          have HU := hide hu
          have HOW := hide hown
          have HCE := hide hcells
          obtain ⟨kk, hkk⟩ : ∃ kk, j * A + i = kk := ⟨_, rfl⟩
          rw [hkk] at HU HCE HT KB
          have HKK := hide hkk
          obtain ⟨adu, cpu, hvu, _, _⟩ := HOW.out.form HU.out
          subst hvu
          obtain ⟨W, hW⟩ : ∃ W, min a ((nx : Int) - X) = W := ⟨_, rfl⟩
          obtain ⟨H, hH⟩ : ∃ H, min b ((ny : Int) - Y) = H := ⟨_, rfl⟩
          have HT2 := hide (show tilCells (tilF LX LY a b (kk : Int)) = [.int .i64 (kk : Int), .int .i64 X, .int .i64 Y, .int .i64 W, .int .i64 H, .int .i64 (reachF LX X (X + W)).1, .int .i64 (reachF LY Y (Y + H)).1, .int .i64 ((reachF LX X (X + W)).2.1 - (reachF LX X (X + W)).1), .int .i64 ((reachF LY Y (Y + H)).2.1 - (reachF LY Y (Y + H)).1), .int .i64 mo] by
            rw [HT.out]
            unfold tilCells tilAt
            simp only
            rw [HNX.out, HNY.out, HMO.out, HX.out, HY.out, hW, hH])
          have RX := RIX.out X (X + W)
          have RY := RIY.out Y (Y + H)
          have CX := CRX X (X + W)
          have CY := CRY Y (Y + H)
          have W0 : 1 ≤ W ∧ W ≤ 4096 ∧ X + W ≤ 65536 := by omega
          have H0 : 1 ≤ H ∧ H ≤ 4096 ∧ Y + H ≤ 65536 := by omega
          obtain ⟨W0, W01, W02⟩ := W0
          obtain ⟨H0, H01, H02⟩ := H0
          obtain ⟨p0, p1, p2, p3, _, _⟩ := RX
          obtain ⟨q0, q1, q2, q3, _, _⟩ := RY
          have hWc : ((nx : Int) < X + a ∧ (nx : Int) - X = W) ∨ (¬ (nx : Int) < X + a ∧ a = W) := by omega
          have hHc : ((ny : Int) < Y + b ∧ (ny : Int) - Y = H) ∨ (¬ (ny : Int) < Y + b ∧ b = H) := by omega
          have HWC := hide hWc
          have HHC := hide hHc
          have HWL := hide HB2.out.size
          have HONE := hide (fun (v5 v6 v7 v8 : Int) => til_one ⟨(kk : Int), X, Y, W, H, v5, v6, v7, v8, mo⟩)
          generalize reachF LX X (X + W) = RX at *
          generalize reachF LY Y (Y + H) = RY at *
          obtain ⟨lx, hx2, isx⟩ := RX
          obtain ⟨ly, hy2, isy⟩ := RY
          simp only at p0 p1 p2 p3 q0 q1 q2 q3 CX CY HT2
          rw [hX]
          clear hu hown hcells hkk hX HT hW hH hWc hHc HO2 HO
          rcases HWC.out with ⟨wc, hw⟩ | ⟨wc, rfl⟩
          · rcases HHC.out with ⟨hc, hh⟩ | ⟨hc, rfl⟩
            · go_upto_region 19 with (first
                | (go_at_call 29; (with_reducible refine (CMO _ (HRY.out.below HB2.out)).mono ?_); rintro e w1 ⟨rfl, b1⟩; have D1 := hide (show Below wr.heap.size wr (w1.alloc (.cells #[.int .i64 (kk : Int), .int .i64 X, .int .i64 Y, .int .i64 W, .int .i64 H, .int .i64 0, .int .i64 0, .int .i64 0, .int .i64 0, .int .i64 mo] 55)) from ba b1 _); have P1 := hide (P10.new w1 55 ⟨(kk : Int), X, Y, W, H, 0, 0, 0, 0, mo⟩); have E1 := hide (F10.new w1 #[.int .i64 (kk : Int), .int .i64 X, .int .i64 Y, .int .i64 W, .int .i64 H, .int .i64 0, .int .i64 0, .int .i64 0, .int .i64 0, .int .i64 mo] 55); have Z1 := S0.out.below (bt HB2.out b1); obtain ⟨⟨t0, _⟩, ⟨t1, _⟩, _, _, _⟩ := Z1; have l1 : w.heap.size < w1.heap.size := (by have := b1.size; have := HWL.out; have := HZ.out; omega))
                | (go_at_call 30; (with_reducible refine (CX _ (HRX.out.below (bt HB2.out D1.out))).mono ?_); rintro e w3 ⟨rfl, b3⟩; have D3 := hide (bt D1.out b3); have P3 := hide (P1.out.below b3); have E3 := hide (E1.out.below b3); have Z3 := S0.out.below (bt HB2.out D3.out); obtain ⟨⟨v0, _⟩, ⟨v1, _⟩, _, _, _⟩ := Z3; obtain ⟨k0, k1, k2, k3, k4, k5, k6, k7, k8, k9⟩ := P3.out)
                | (go_at_call 30; (with_reducible refine (CY _ (HRY.out.below (bt HB2.out D3.out))).mono ?_); rintro e w4 ⟨rfl, b4⟩; have D4 := hide (bt D3.out b4); obtain ⟨k0, k1, k2, k3, k4, k5, k6, k7, k8, k9⟩ := P3.out.below b4; obtain ⟨e0, e1, e2, e3, e4, e5, e6, e7, e8, e9, el⟩ := E3.out.below b4))
              have PW := hide (til_set4 (P3.out.below b4) lx (hx2 - lx) ly (hy2 - ly))
              have BW := hide (show Below wr.heap.size wr _ from bs (bs (bs (bs D4.out (show wr.heap.size ≤ w1.heap.size from b1.size) (.int .i64 lx) (o := 5)) (show wr.heap.size ≤ w1.heap.size from b1.size) (.int .i64 (hx2 - lx)) (o := 7)) (show wr.heap.size ≤ w1.heap.size from b1.size) (.int .i64 ly) (o := 6)) (show wr.heap.size ≤ w1.heap.size from b1.size) (.int .i64 (hy2 - ly)) (o := 8))
              generalize (((w4.setCell ⟨w1.heap.size, 5, none⟩ (.int .i64 lx)).setCell ⟨w1.heap.size, 7, none⟩ (.int .i64 (hx2 - lx))).setCell ⟨w1.heap.size, 6, none⟩ (.int .i64 ly)).setCell ⟨w1.heap.size, 8, none⟩ (.int .i64 (hy2 - ly)) = W5 at PW BW ⊢
              obtain ⟨f0, f1, f2, f3, f4, f5, f6, f7, f8, f9⟩ := PW.out
              have s5 := BW.out.size
              have s6 := HB2.out.size
              clear k0 k1 k2 k3 k4 k5 k6 k7 k8 k9 e0 e1 e2 e3 e4 e5 e6 e7 e8 e9 el t0 t1 v0 v1 s0 s1 P1 P3 E1 E3 D1 D3 D4 b1 b3 b4 CX CY l1
              generalize hx2 - lx = cx at *
              generalize hy2 - ly = cy at *
              go_wp2_with (at_builtin; refine wpList_append_own _ rfl _ _ 49 rfl w0.heap.size 55 i0 (.agg #[.int .i64 0, .int .i64 0, .int .i64 0, .int .i64 0, .int .i64 0, .int .i64 0, .int .i64 0, .int .i64 0, .int .i64 0, .int .i64 0]) 10 80 Tryz.underlying49 hi hz0 hz1 hz2 rfl (by decide) _ _ _ rfl (recs_below HOW.out.1 (ba BW.out _)) ⟨W5.heap.size, 0, none⟩ 1 1 [.int .i64 (kk : Int), .int .i64 X, .int .i64 Y, .int .i64 W, .int .i64 H, .int .i64 lx, .int .i64 ly, .int .i64 cx, .int .i64 cy, .int .i64 mo] rfl rfl (new_list _ _ _) (HONE.out _ _ _ _) (by rw [HU.out]; unfold maxLen; omega) (by rw [HU.out]; omega) (by simp; omega) ?_; intro v' w6 own6 grow6 _; rw [HU.out] at own6)
              have M6 := hide (show TilSo 55 w0.heap.size w6 (fun k => tilF LX LY a b (k : Int)) (j * A + (i + 1)) v' by
                rw [show j * A + (i + 1) = kk + 1 by have := HKK.out; omega]
                exact TilSo.more HU.out HOW.out HCE.out (by
                  show w6.ownsRow _ _ 10 v' (kk + 1) (us.flatten ++ tilCells (tilF LX LY a b (kk : Int)))
                  rw [HT2.out]
                  exact own6))
              have B6 := hide (show Below w0.heap.size w0 w6 from (bt HB2.out (ba BW.out _)).grown grow6 (by simp; omega) (fun g hg => (World.ownsRow.lt HOW.out.1 g hg).1))
              clear own6 grow6 f0 f1 f2 f3 f4 f5 f6 f7 f8 f9 PW BW HU HOW HCE HT2
              go_wp2
              go_roundg (gk - 1)
              case measure => have := HI.out; omega
              case rel => exact ⟨i + 1, _, by have := HI.out; omega, by rw [XN.out], rfl, M6.out, B6.out⟩
            · go_upto_region 19 with (first
                | (go_at_call 29; (with_reducible refine (CMO _ (HRY.out.below HB2.out)).mono ?_); rintro e w1 ⟨rfl, b1⟩; have D1 := hide (show Below wr.heap.size wr (w1.alloc (.cells #[.int .i64 (kk : Int), .int .i64 X, .int .i64 Y, .int .i64 W, .int .i64 b, .int .i64 0, .int .i64 0, .int .i64 0, .int .i64 0, .int .i64 mo] 55)) from ba b1 _); have P1 := hide (P10.new w1 55 ⟨(kk : Int), X, Y, W, b, 0, 0, 0, 0, mo⟩); have E1 := hide (F10.new w1 #[.int .i64 (kk : Int), .int .i64 X, .int .i64 Y, .int .i64 W, .int .i64 b, .int .i64 0, .int .i64 0, .int .i64 0, .int .i64 0, .int .i64 mo] 55); have Z1 := S0.out.below (bt HB2.out b1); obtain ⟨⟨t0, _⟩, ⟨t1, _⟩, _, _, _⟩ := Z1; have l1 : w.heap.size < w1.heap.size := (by have := b1.size; have := HWL.out; have := HZ.out; omega))
                | (go_at_call 30; (with_reducible refine (CX _ (HRX.out.below (bt HB2.out D1.out))).mono ?_); rintro e w3 ⟨rfl, b3⟩; have D3 := hide (bt D1.out b3); have P3 := hide (P1.out.below b3); have E3 := hide (E1.out.below b3); have Z3 := S0.out.below (bt HB2.out D3.out); obtain ⟨⟨v0, _⟩, ⟨v1, _⟩, _, _, _⟩ := Z3; obtain ⟨k0, k1, k2, k3, k4, k5, k6, k7, k8, k9⟩ := P3.out)
                | (go_at_call 30; (with_reducible refine (CY _ (HRY.out.below (bt HB2.out D3.out))).mono ?_); rintro e w4 ⟨rfl, b4⟩; have D4 := hide (bt D3.out b4); obtain ⟨k0, k1, k2, k3, k4, k5, k6, k7, k8, k9⟩ := P3.out.below b4; obtain ⟨e0, e1, e2, e3, e4, e5, e6, e7, e8, e9, el⟩ := E3.out.below b4))
              have PW := hide (til_set4 (P3.out.below b4) lx (hx2 - lx) ly (hy2 - ly))
              have BW := hide (show Below wr.heap.size wr _ from bs (bs (bs (bs D4.out (show wr.heap.size ≤ w1.heap.size from b1.size) (.int .i64 lx) (o := 5)) (show wr.heap.size ≤ w1.heap.size from b1.size) (.int .i64 (hx2 - lx)) (o := 7)) (show wr.heap.size ≤ w1.heap.size from b1.size) (.int .i64 ly) (o := 6)) (show wr.heap.size ≤ w1.heap.size from b1.size) (.int .i64 (hy2 - ly)) (o := 8))
              generalize (((w4.setCell ⟨w1.heap.size, 5, none⟩ (.int .i64 lx)).setCell ⟨w1.heap.size, 7, none⟩ (.int .i64 (hx2 - lx))).setCell ⟨w1.heap.size, 6, none⟩ (.int .i64 ly)).setCell ⟨w1.heap.size, 8, none⟩ (.int .i64 (hy2 - ly)) = W5 at PW BW ⊢
              obtain ⟨f0, f1, f2, f3, f4, f5, f6, f7, f8, f9⟩ := PW.out
              have s5 := BW.out.size
              have s6 := HB2.out.size
              clear k0 k1 k2 k3 k4 k5 k6 k7 k8 k9 e0 e1 e2 e3 e4 e5 e6 e7 e8 e9 el t0 t1 v0 v1 s0 s1 P1 P3 E1 E3 D1 D3 D4 b1 b3 b4 CX CY l1
              generalize hx2 - lx = cx at *
              generalize hy2 - ly = cy at *
              go_wp2_with (at_builtin; refine wpList_append_own _ rfl _ _ 49 rfl w0.heap.size 55 i0 (.agg #[.int .i64 0, .int .i64 0, .int .i64 0, .int .i64 0, .int .i64 0, .int .i64 0, .int .i64 0, .int .i64 0, .int .i64 0, .int .i64 0]) 10 80 Tryz.underlying49 hi hz0 hz1 hz2 rfl (by decide) _ _ _ rfl (recs_below HOW.out.1 (ba BW.out _)) ⟨W5.heap.size, 0, none⟩ 1 1 [.int .i64 (kk : Int), .int .i64 X, .int .i64 Y, .int .i64 W, .int .i64 b, .int .i64 lx, .int .i64 ly, .int .i64 cx, .int .i64 cy, .int .i64 mo] rfl rfl (new_list _ _ _) (HONE.out _ _ _ _) (by rw [HU.out]; unfold maxLen; omega) (by rw [HU.out]; omega) (by simp; omega) ?_; intro v' w6 own6 grow6 _; rw [HU.out] at own6)
              have M6 := hide (show TilSo 55 w0.heap.size w6 (fun k => tilF LX LY a b (k : Int)) (j * A + (i + 1)) v' by
                rw [show j * A + (i + 1) = kk + 1 by have := HKK.out; omega]
                exact TilSo.more HU.out HOW.out HCE.out (by
                  show w6.ownsRow _ _ 10 v' (kk + 1) (us.flatten ++ tilCells (tilF LX LY a b (kk : Int)))
                  rw [HT2.out]
                  exact own6))
              have B6 := hide (show Below w0.heap.size w0 w6 from (bt HB2.out (ba BW.out _)).grown grow6 (by simp; omega) (fun g hg => (World.ownsRow.lt HOW.out.1 g hg).1))
              clear own6 grow6 f0 f1 f2 f3 f4 f5 f6 f7 f8 f9 PW BW HU HOW HCE HT2
              go_wp2
              go_roundg (gk - 1)
              case measure => have := HI.out; omega
              case rel => exact ⟨i + 1, _, by have := HI.out; omega, by rw [XN.out], rfl, M6.out, B6.out⟩
          · rcases HHC.out with ⟨hc, hh⟩ | ⟨hc, rfl⟩
            · go_upto_region 19 with (first
                | (go_at_call 29; (with_reducible refine (CMO _ (HRY.out.below HB2.out)).mono ?_); rintro e w1 ⟨rfl, b1⟩; have D1 := hide (show Below wr.heap.size wr (w1.alloc (.cells #[.int .i64 (kk : Int), .int .i64 X, .int .i64 Y, .int .i64 a, .int .i64 H, .int .i64 0, .int .i64 0, .int .i64 0, .int .i64 0, .int .i64 mo] 55)) from ba b1 _); have P1 := hide (P10.new w1 55 ⟨(kk : Int), X, Y, a, H, 0, 0, 0, 0, mo⟩); have E1 := hide (F10.new w1 #[.int .i64 (kk : Int), .int .i64 X, .int .i64 Y, .int .i64 a, .int .i64 H, .int .i64 0, .int .i64 0, .int .i64 0, .int .i64 0, .int .i64 mo] 55); have Z1 := S0.out.below (bt HB2.out b1); obtain ⟨⟨t0, _⟩, ⟨t1, _⟩, _, _, _⟩ := Z1; have l1 : w.heap.size < w1.heap.size := (by have := b1.size; have := HWL.out; have := HZ.out; omega))
                | (go_at_call 30; (with_reducible refine (CX _ (HRX.out.below (bt HB2.out D1.out))).mono ?_); rintro e w3 ⟨rfl, b3⟩; have D3 := hide (bt D1.out b3); have P3 := hide (P1.out.below b3); have E3 := hide (E1.out.below b3); have Z3 := S0.out.below (bt HB2.out D3.out); obtain ⟨⟨v0, _⟩, ⟨v1, _⟩, _, _, _⟩ := Z3; obtain ⟨k0, k1, k2, k3, k4, k5, k6, k7, k8, k9⟩ := P3.out)
                | (go_at_call 30; (with_reducible refine (CY _ (HRY.out.below (bt HB2.out D3.out))).mono ?_); rintro e w4 ⟨rfl, b4⟩; have D4 := hide (bt D3.out b4); obtain ⟨k0, k1, k2, k3, k4, k5, k6, k7, k8, k9⟩ := P3.out.below b4; obtain ⟨e0, e1, e2, e3, e4, e5, e6, e7, e8, e9, el⟩ := E3.out.below b4))
              have PW := hide (til_set4 (P3.out.below b4) lx (hx2 - lx) ly (hy2 - ly))
              have BW := hide (show Below wr.heap.size wr _ from bs (bs (bs (bs D4.out (show wr.heap.size ≤ w1.heap.size from b1.size) (.int .i64 lx) (o := 5)) (show wr.heap.size ≤ w1.heap.size from b1.size) (.int .i64 (hx2 - lx)) (o := 7)) (show wr.heap.size ≤ w1.heap.size from b1.size) (.int .i64 ly) (o := 6)) (show wr.heap.size ≤ w1.heap.size from b1.size) (.int .i64 (hy2 - ly)) (o := 8))
              generalize (((w4.setCell ⟨w1.heap.size, 5, none⟩ (.int .i64 lx)).setCell ⟨w1.heap.size, 7, none⟩ (.int .i64 (hx2 - lx))).setCell ⟨w1.heap.size, 6, none⟩ (.int .i64 ly)).setCell ⟨w1.heap.size, 8, none⟩ (.int .i64 (hy2 - ly)) = W5 at PW BW ⊢
              obtain ⟨f0, f1, f2, f3, f4, f5, f6, f7, f8, f9⟩ := PW.out
              have s5 := BW.out.size
              have s6 := HB2.out.size
              clear k0 k1 k2 k3 k4 k5 k6 k7 k8 k9 e0 e1 e2 e3 e4 e5 e6 e7 e8 e9 el t0 t1 v0 v1 s0 s1 P1 P3 E1 E3 D1 D3 D4 b1 b3 b4 CX CY l1
              generalize hx2 - lx = cx at *
              generalize hy2 - ly = cy at *
              go_wp2_with (at_builtin; refine wpList_append_own _ rfl _ _ 49 rfl w0.heap.size 55 i0 (.agg #[.int .i64 0, .int .i64 0, .int .i64 0, .int .i64 0, .int .i64 0, .int .i64 0, .int .i64 0, .int .i64 0, .int .i64 0, .int .i64 0]) 10 80 Tryz.underlying49 hi hz0 hz1 hz2 rfl (by decide) _ _ _ rfl (recs_below HOW.out.1 (ba BW.out _)) ⟨W5.heap.size, 0, none⟩ 1 1 [.int .i64 (kk : Int), .int .i64 X, .int .i64 Y, .int .i64 a, .int .i64 H, .int .i64 lx, .int .i64 ly, .int .i64 cx, .int .i64 cy, .int .i64 mo] rfl rfl (new_list _ _ _) (HONE.out _ _ _ _) (by rw [HU.out]; unfold maxLen; omega) (by rw [HU.out]; omega) (by simp; omega) ?_; intro v' w6 own6 grow6 _; rw [HU.out] at own6)
              have M6 := hide (show TilSo 55 w0.heap.size w6 (fun k => tilF LX LY a b (k : Int)) (j * A + (i + 1)) v' by
                rw [show j * A + (i + 1) = kk + 1 by have := HKK.out; omega]
                exact TilSo.more HU.out HOW.out HCE.out (by
                  show w6.ownsRow _ _ 10 v' (kk + 1) (us.flatten ++ tilCells (tilF LX LY a b (kk : Int)))
                  rw [HT2.out]
                  exact own6))
              have B6 := hide (show Below w0.heap.size w0 w6 from (bt HB2.out (ba BW.out _)).grown grow6 (by simp; omega) (fun g hg => (World.ownsRow.lt HOW.out.1 g hg).1))
              clear own6 grow6 f0 f1 f2 f3 f4 f5 f6 f7 f8 f9 PW BW HU HOW HCE HT2
              go_wp2
              go_roundg (gk - 1)
              case measure => have := HI.out; omega
              case rel => exact ⟨i + 1, _, by have := HI.out; omega, by rw [XN.out], rfl, M6.out, B6.out⟩
            · go_upto_region 19 with (first
                | (go_at_call 29; (with_reducible refine (CMO _ (HRY.out.below HB2.out)).mono ?_); rintro e w1 ⟨rfl, b1⟩; have D1 := hide (show Below wr.heap.size wr (w1.alloc (.cells #[.int .i64 (kk : Int), .int .i64 X, .int .i64 Y, .int .i64 a, .int .i64 b, .int .i64 0, .int .i64 0, .int .i64 0, .int .i64 0, .int .i64 mo] 55)) from ba b1 _); have P1 := hide (P10.new w1 55 ⟨(kk : Int), X, Y, a, b, 0, 0, 0, 0, mo⟩); have E1 := hide (F10.new w1 #[.int .i64 (kk : Int), .int .i64 X, .int .i64 Y, .int .i64 a, .int .i64 b, .int .i64 0, .int .i64 0, .int .i64 0, .int .i64 0, .int .i64 mo] 55); have Z1 := S0.out.below (bt HB2.out b1); obtain ⟨⟨t0, _⟩, ⟨t1, _⟩, _, _, _⟩ := Z1; have l1 : w.heap.size < w1.heap.size := (by have := b1.size; have := HWL.out; have := HZ.out; omega))
                | (go_at_call 30; (with_reducible refine (CX _ (HRX.out.below (bt HB2.out D1.out))).mono ?_); rintro e w3 ⟨rfl, b3⟩; have D3 := hide (bt D1.out b3); have P3 := hide (P1.out.below b3); have E3 := hide (E1.out.below b3); have Z3 := S0.out.below (bt HB2.out D3.out); obtain ⟨⟨v0, _⟩, ⟨v1, _⟩, _, _, _⟩ := Z3; obtain ⟨k0, k1, k2, k3, k4, k5, k6, k7, k8, k9⟩ := P3.out)
                | (go_at_call 30; (with_reducible refine (CY _ (HRY.out.below (bt HB2.out D3.out))).mono ?_); rintro e w4 ⟨rfl, b4⟩; have D4 := hide (bt D3.out b4); obtain ⟨k0, k1, k2, k3, k4, k5, k6, k7, k8, k9⟩ := P3.out.below b4; obtain ⟨e0, e1, e2, e3, e4, e5, e6, e7, e8, e9, el⟩ := E3.out.below b4))
              have PW := hide (til_set4 (P3.out.below b4) lx (hx2 - lx) ly (hy2 - ly))
              have BW := hide (show Below wr.heap.size wr _ from bs (bs (bs (bs D4.out (show wr.heap.size ≤ w1.heap.size from b1.size) (.int .i64 lx) (o := 5)) (show wr.heap.size ≤ w1.heap.size from b1.size) (.int .i64 (hx2 - lx)) (o := 7)) (show wr.heap.size ≤ w1.heap.size from b1.size) (.int .i64 ly) (o := 6)) (show wr.heap.size ≤ w1.heap.size from b1.size) (.int .i64 (hy2 - ly)) (o := 8))
              generalize (((w4.setCell ⟨w1.heap.size, 5, none⟩ (.int .i64 lx)).setCell ⟨w1.heap.size, 7, none⟩ (.int .i64 (hx2 - lx))).setCell ⟨w1.heap.size, 6, none⟩ (.int .i64 ly)).setCell ⟨w1.heap.size, 8, none⟩ (.int .i64 (hy2 - ly)) = W5 at PW BW ⊢
              obtain ⟨f0, f1, f2, f3, f4, f5, f6, f7, f8, f9⟩ := PW.out
              have s5 := BW.out.size
              have s6 := HB2.out.size
              clear k0 k1 k2 k3 k4 k5 k6 k7 k8 k9 e0 e1 e2 e3 e4 e5 e6 e7 e8 e9 el t0 t1 v0 v1 s0 s1 P1 P3 E1 E3 D1 D3 D4 b1 b3 b4 CX CY l1
              generalize hx2 - lx = cx at *
              generalize hy2 - ly = cy at *
              go_wp2_with (at_builtin; refine wpList_append_own _ rfl _ _ 49 rfl w0.heap.size 55 i0 (.agg #[.int .i64 0, .int .i64 0, .int .i64 0, .int .i64 0, .int .i64 0, .int .i64 0, .int .i64 0, .int .i64 0, .int .i64 0, .int .i64 0]) 10 80 Tryz.underlying49 hi hz0 hz1 hz2 rfl (by decide) _ _ _ rfl (recs_below HOW.out.1 (ba BW.out _)) ⟨W5.heap.size, 0, none⟩ 1 1 [.int .i64 (kk : Int), .int .i64 X, .int .i64 Y, .int .i64 a, .int .i64 b, .int .i64 lx, .int .i64 ly, .int .i64 cx, .int .i64 cy, .int .i64 mo] rfl rfl (new_list _ _ _) (HONE.out _ _ _ _) (by rw [HU.out]; unfold maxLen; omega) (by rw [HU.out]; omega) (by simp; omega) ?_; intro v' w6 own6 grow6 _; rw [HU.out] at own6)
              have M6 := hide (show TilSo 55 w0.heap.size w6 (fun k => tilF LX LY a b (k : Int)) (j * A + (i + 1)) v' by
                rw [show j * A + (i + 1) = kk + 1 by have := HKK.out; omega]
                exact TilSo.more HU.out HOW.out HCE.out (by
                  show w6.ownsRow _ _ 10 v' (kk + 1) (us.flatten ++ tilCells (tilF LX LY a b (kk : Int)))
                  rw [HT2.out]
                  exact own6))
              have B6 := hide (show Below w0.heap.size w0 w6 from (bt HB2.out (ba BW.out _)).grown grow6 (by simp; omega) (fun g hg => (World.ownsRow.lt HOW.out.1 g hg).1))
              clear own6 grow6 f0 f1 f2 f3 f4 f5 f6 f7 f8 f9 PW BW HU HOW HCE HT2
              go_wp2
              go_roundg (gk - 1)
              case measure => have := HI.out; omega
              case rel => exact ⟨i + 1, _, by have := HI.out; omega, by rw [XN.out], rfl, M6.out, B6.out⟩
        · obtain rfl : A = i := by have := HI.out; omega
          clear hlt2
          have XG := HXG.out
          generalize (A : Int) * a = X at *
          have HJA := hide (show j * A + A = (j + 1) * A from (Nat.succ_mul j A).symm)
          have HO3 := HO2.out
          rw [HJA.out] at HO3
          have HO4 := hide HO3
          clear HO3
          go_wp2
          go_roundg (G - 1)
          case measure => have := HJ.out; omega
          case rel => exact ⟨j + 1, _, by have := HJ.out; omega, by rw [YN.out], rfl, HO4.out, HB2.out⟩
    · obtain rfl : D = j := by have := HJ.out; omega
      clear hlt
      have YG := HYG.out
      generalize (D : Int) * b = Y at *
      have HA := hide (show TilSo 55 w.heap.size W1 (fun k => tilF LX LY a b (k : Int)) (countF LX LY a b).toNat u7 by rw [HC.out]; exact HO.out.mono (Nat.le_of_lt HZ.out))
      have HBE := hide (bt B0.out HB.out)
      obtain ⟨ad', cap', hv, _, _⟩ := HA.out.read
      have HV := hide hv
      clear hv
      go_wp2
      exact bodyPost_ret (v := u7) (by simp [results, Tryz.results14, go_sem]) rfl ⟨⟨u7, rfl, HA.out⟩, HBE.out⟩
end Go.Proofs.YtdpkigdfhfippaaGreatDoor
