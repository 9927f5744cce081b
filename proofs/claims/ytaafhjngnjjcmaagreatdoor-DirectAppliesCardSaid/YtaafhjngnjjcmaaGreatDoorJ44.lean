/- Parts, joined. -/
import Derived.Test.YtaafhjngnjjcmaaGreatDoorJ43
import Derived.Test.YtaafhjngnjjcmaaGreatDoorJ33
import Derived.Test.YtaafhjngnjjcmaaGreatDoorJ41
import Derived.Test.YtaafhjngnjjcmaaGreatDoorJ40
import Derived.Test.YtaafhjngnjjcmaaGreatDoorJ42
import Derived.Deep.RegionLaw
import Derived.Deep.AppendLies
import Derived.Deep.RegionHeldLaw
/- What comes out: the document's Apply. -/
namespace Go.Proofs.YtaafhjngnjjcmaaGreatDoor
open Go.RowKit

/-- Samples so far, in the image that is being made. -/
structure ASt (T : TypeId) (B R2 R3 R4 R9 : Nat) (I : Im) (S : Stg) (vm vx vy : Value) (w0 w : World) (v : Value) (L : List Int) : Prop where
  own : OwnI .u16 T w B v L
  m5 : S5 w R2 (.int .i64 I.iw) (.int .i64 I.ih) (.int .i64 I.ic) (.int .i64 I.it) vm
  s5 : S5 w R3 vx vy (.int .i64 S.fx) (.int .i64 S.fy) (.int .i64 S.sb)
  z5 : S5 w R4 (.int .i64 0) (.int .i64 0) (.int .i64 0) (.int .i64 0) (.slice none 0 0)
  o5 : S5 w R9 (.int .i64 (S.lx.length : Int)) (.int .i64 (S.ly.length : Int)) (.int .i64 I.ic) (.int .i64 I.it) v
  bel : Below w0.heap.size w0 w
  bw : B ≤ w.heap.size
  r2 : R2 < R9
  r3 : R3 < R9
  r4 : R4 < R9
  w4 : w0.heap.size ≤ R4
  r9 : R9 < B
  w9 : w0.heap.size ≤ R9
theorem ASt.below {T : TypeId} {B R2 R3 R4 R9 : Nat} {I : Im} {S : Stg} {vm vx vy : Value} {w0 w w' : World} {v : Value} {L : List Int} (D : ASt T B R2 R3 R4 R9 I S vm vx vy w0 w v L) (hb : Below w.heap.size w w') : ASt T B R2 R3 R4 R9 I S vm vx vy w0 w' v L :=
  ⟨D.own.below hb, D.m5.below hb, D.s5.below hb, D.z5.below hb, D.o5.below hb, bt D.bel hb, Nat.le_trans D.bw hb.size, D.r2, D.r3, D.r4, D.w4, D.r9, D.w9⟩
theorem ASt.more {T : TypeId} {B R2 R3 R4 R9 : Nat} {I : Im} {S : Stg} {vm vx vy : Value} {w0 w w3 : World} {v v' : Value} {L : List Int} {x : Int} {o : Obj} (D : ASt T B R2 R3 R4 R9 I S vm vx vy w0 w v L)
    (own' : w3.ownsRow B T 1 v' (L.length + 1) (L.map (Value.int .u16) ++ [Value.int .u16 x])) (grow : (w.alloc o).grownBy w3 v.ownBlock) :
    ASt T B R2 R3 R4 R9 I S vm vx vy w0 (w3.setCell ⟨R9, 4, none⟩ v') v' (L ++ [x]) ∧ w3.cell? ⟨R9, 4, none⟩ = some v ∧ w3.frozen? ⟨R9, 4, none⟩ = false := by
  have h2 := D.r2
  have h3 := D.r3
  have h4 := D.r4
  have h9 := D.r9
  have hw := D.w9
  have hlt : ∀ g, v.ownBlock = some g → B ≤ g := own_fresh D.own
  have ne : ∀ R, R < B → some R ≠ v.ownBlock := fun R hR e => by
    have := hlt R e.symm
    omega
  have G : w.grownBy w3 v.ownBlock := (grown_below (below1 w o) _).trans grow
  have G2 := grown_set w3 R9 4 v'
  have n2 : some R2 ≠ some R9 := fun e => by have := Option.some.inj e; omega
  have n3 : some R3 ≠ some R9 := fun e => by have := Option.some.inj e; omega
  have n4 : some R4 ≠ some R9 := fun e => by have := Option.some.inj e; omega
  have o3 := D.o5.grown G (ne R9 h9)
  have sz := G.size
  have hbw := D.bw
  refine ⟨⟨?_, (D.m5.grown G (ne R2 (by omega))).grown G2 n2, (D.s5.grown G (ne R3 (by omega))).grown G2 n3, (D.z5.grown G (ne R4 (by omega))).grown G2 n4, o3.set4 v', ?_, ?_, h2, h3, h4, D.w4, h9, hw⟩, o3.2.2.2.2.1, o3.2.2.2.2.2⟩
  · refine OwnI.kept (u := .slice (some ⟨R9, 0, none⟩) 0 0) (OwnI.append own') G2 ?_
    intro g hg he
    have h1 := own_fresh own' g hg
    have h2 := Option.some.inj he
    simp at h2
    omega
  · exact bs (D.bel.grown G D.bel.size (fun k hk => by have := hlt k hk; omega)) (by omega) _
  · show B ≤ (w3.setCell ⟨R9, 4, none⟩ v').heap.size
    simp [World.setCell]
    omega
set_option maxHeartbeats 8000000 in
set_option maxRecDepth 100000 in
theorem dapply15_any (I : Im) (S : Stg) (b cap gx px gy py : Nat) (w : World) (hI : ImOk I) (hr : RowAt .u16 w (some ⟨b, 0, none⟩) I.il) (rx : LinesAt w gx S.lx) (ry : LinesAt w gy S.ly) (okx : LinesOk S.lx) (oky : LinesOk S.ly) (lx0 : 1 ≤ S.lx.length) (ly0 : 1 ≤ S.ly.length) (lx1 : S.lx.length ≤ 65536) (ly1 : S.ly.length ≤ 65536) (hf : fitsF (S.lx.length : Int) (S.ly.length : Int) I.ic = true) :
    Calls Tryz.prog 21 #[imV I b I.il.length cap, .agg #[.slice (some ⟨gx, 0, none⟩) S.lx.length px, .slice (some ⟨gy, 0, none⟩) S.ly.length py, .int .i64 S.fx, .int .i64 S.fy, .int .i64 S.sb]] w fun e w' => (∃ b' cap', e = .returned (imV (applyF I S) b' (applyF I S).il.length cap') ∧ RowAt .u16 w' (some ⟨b', 0, none⟩) (applyF I S).il ∧ w.heap.size ≤ b') ∧ Below w.heap.size w w' := by
  obtain ⟨N, hN⟩ : ∃ N, S.lx.length = N := ⟨_, rfl⟩
  obtain ⟨M, hM⟩ : ∃ M, S.ly.length = M := ⟨_, rfl⟩
  obtain ⟨_, _, _, _, c0, t0', t1', _, _, _⟩ := id hI
  obtain ⟨C, hC⟩ : ∃ C : Nat, I.ic = (C : Int) := ⟨I.ic.toNat, by omega⟩
  have hCt : I.ic.toNat = C := by omega
  obtain ⟨_, _, _, _, _, hmx⟩ := fitsF_iff.1 hf
  have hTot : M * N * C ≤ 268435456 := by
    rw [hN, hM, hC, ← Int.natCast_mul, ← Int.natCast_mul, Nat.mul_comm N] at hmx
    omega
  have CSM := hide (fun w' (bb : Below w.heap.size w w') (x y : Nat) (c : Int) (hx : x < N) (hy : y < M) => dsum15_any I S b cap gx px gy py x y c w' hI (hr.below bb) (rx.below bb) (ry.below bb) (fun j hj => ⟨(okx j hj).1, (okx j hj).2.1, (okx j hj).2.2.1, (okx j hj).2.2.2.1⟩) (fun j hj => ⟨(oky j hj).1, (oky j hj).2.1, (oky j hj).2.2.1, (oky j hj).2.2.2.1⟩) (by omega) (by omega) lx1 ly1)
  have CRD := fun (s : Int) (s0 : -9223372036854775808 ≤ s) (s1 : s ≤ 9223372036854775807) w' => dround15_any s I.it s0 s1 w'
  have HWI := hide (fun (x y : Nat) (c : Int) => show -9223372036854775808 ≤ sumW I S x y c ∧ sumW I S x y c ≤ 9223372036854775807 from w64_in _)
  have HOUT := hide (fun (x y c : Nat) (hx : x < N) (hc : c < C) => show outF I S ((y * N + x) * C + c) = roundF (sumW I S x y (c : Int)) I.it from by
    have o := outF_at (I := I) (S := S) (x := x) (y := y) (c := c) (by omega) (by omega)
    rw [hN, hCt] at o
    exact o)
  have HPOS := hide (show 1 ≤ M * N * C from by
    have := Nat.mul_pos (Nat.mul_pos (show 0 < M by omega) (show 0 < N by omega)) (show 0 < C by omega)
    omega)
  have HAL := hide (show (applyF I S).il = (List.range (M * N * C)).map (outF I S) from by unfold applyF; rw [hN, hM, hCt])
  have HAV := hide (fun (b' n' c' : Nat) => show imV (applyF I S) b' n' c' = .agg #[.int .i64 (N : Int), .int .i64 (M : Int), .int .i64 (C : Int), .int .i64 I.it, .slice (some ⟨b', 0, none⟩) n' c'] from by unfold imV applyF; rw [hN, hM, hC])
  have HLN := hide (fun k => part_len I S k)
  have HSN := hide (fun k => show (List.range (k + 1)).map (outF I S) = (List.range k).map (outF I S) ++ [outF I S k] from by rw [List.range_succ, List.map_append]; rfl)
  obtain ⟨W0, hW0⟩ : ∃ W0, (((w.alloc (.cells #[.int .i64 I.iw, .int .i64 I.ih, .int .i64 (C : Int), .int .i64 I.it, .slice (some ⟨b, 0, none⟩) I.il.length cap] 52)).alloc (.cells #[.slice (some ⟨gx, 0, none⟩) N px, .slice (some ⟨gy, 0, none⟩) M py, .int .i64 S.fx, .int .i64 S.fy, .int .i64 S.sb] 57)).alloc (.cells #[.int .i64 0, .int .i64 0, .int .i64 0, .int .i64 0, .slice none 0 0] 52)).alloc (.cells #[.int .i64 (N : Int), .int .i64 (M : Int), .int .i64 (C : Int), .int .i64 I.it, .slice none 0 0] 52) = W0 := ⟨_, rfl⟩
  have A0 : ASt 22 (w.heap.size + 1 + 1 + 1 + 1) w.heap.size (w.heap.size + 1) (w.heap.size + 1 + 1) (w.heap.size + 1 + 1 + 1) I S (.slice (some ⟨b, 0, none⟩) I.il.length cap) (.slice (some ⟨gx, 0, none⟩) N px) (.slice (some ⟨gy, 0, none⟩) M py) w W0 (.slice none 0 0) ((List.range 0).map (outF I S)) := by
    rw [← hW0]
    refine ⟨OwnI.nil _ _ _ _, ?_, ?_, ?_, ?_, ?_, ?_, by omega, by omega, by omega, by omega, by omega, by omega⟩
    · rw [hC]
      exact (((S5.new _ _ _ _ _ _ _).below (below1 _ _)).below (below1 _ _)).below (below1 _ _)
    · simpa using ((S5.new (w.alloc (.cells #[.int .i64 I.iw, .int .i64 I.ih, .int .i64 (C : Int), .int .i64 I.it, .slice (some ⟨b, 0, none⟩) I.il.length cap] 52)) 57 (.slice (some ⟨gx, 0, none⟩) N px) (.slice (some ⟨gy, 0, none⟩) M py) (.int .i64 S.fx) (.int .i64 S.fy) (.int .i64 S.sb)).below (below1 _ (.cells #[.int .i64 0, .int .i64 0, .int .i64 0, .int .i64 0, .slice none 0 0] 52))).below (below1 _ (.cells #[.int .i64 (N : Int), .int .i64 (M : Int), .int .i64 (C : Int), .int .i64 I.it, .slice none 0 0] 52))
    · simpa using (S5.new ((w.alloc (.cells #[.int .i64 I.iw, .int .i64 I.ih, .int .i64 (C : Int), .int .i64 I.it, .slice (some ⟨b, 0, none⟩) I.il.length cap] 52)).alloc (.cells #[.slice (some ⟨gx, 0, none⟩) N px, .slice (some ⟨gy, 0, none⟩) M py, .int .i64 S.fx, .int .i64 S.fy, .int .i64 S.sb] 57)) 52 (.int .i64 0) (.int .i64 0) (.int .i64 0) (.int .i64 0) (.slice none 0 0)).below (below1 _ (.cells #[.int .i64 (N : Int), .int .i64 (M : Int), .int .i64 (C : Int), .int .i64 I.it, .slice none 0 0] 52))
    · rw [hN, hM, hC]
      simpa using S5.new (((w.alloc (.cells #[.int .i64 I.iw, .int .i64 I.ih, .int .i64 (C : Int), .int .i64 I.it, .slice (some ⟨b, 0, none⟩) I.il.length cap] 52)).alloc (.cells #[.slice (some ⟨gx, 0, none⟩) N px, .slice (some ⟨gy, 0, none⟩) M py, .int .i64 S.fx, .int .i64 S.fy, .int .i64 S.sb] 57)).alloc (.cells #[.int .i64 0, .int .i64 0, .int .i64 0, .int .i64 0, .slice none 0 0] 52)) 52 (.int .i64 (N : Int)) (.int .i64 (M : Int)) (.int .i64 (C : Int)) (.int .i64 I.it) (.slice none 0 0)
    · exact ba (ba (ba (below1 _ _) _) _) _
    · simp
  have HA0 := hide A0
  have N1 : N ≤ 65536 := by omega
  have M1 : M ≤ 65536 := by omega
  have C3 : C ≤ 3 := by omega
  have HICC := hide hC
  unfold imV at CSM ⊢
  rw [hN, hM, hC] at CSM
  rw [hN, hM, hC]
  obtain ⟨it, hit⟩ : ∃ it, I.it = it := ⟨_, rfl⟩
  have HIT := hide hit
  rw [hit] at CSM CRD hW0 HAV HOUT ⊢
  obtain ⟨i0, hi0, hz0, hz1, hz2⟩ := info_parts infoU16
  obtain ⟨iw, hiw⟩ : ∃ iw, I.iw = iw := ⟨_, rfl⟩
  obtain ⟨ih, hih⟩ : ∃ ih, I.ih = ih := ⟨_, rfl⟩
  obtain ⟨fx, hfx⟩ : ∃ fx, S.fx = fx := ⟨_, rfl⟩
  obtain ⟨fy, hfy⟩ : ∃ fy, S.fy = fy := ⟨_, rfl⟩
  obtain ⟨sb, hsb⟩ : ∃ sb, S.sb = sb := ⟨_, rfl⟩
  have HM5 := hide (fun (w' : World) v L (D : ASt 22 (w.heap.size + 1 + 1 + 1 + 1) w.heap.size (w.heap.size + 1) (w.heap.size + 1 + 1) (w.heap.size + 1 + 1 + 1) I S (.slice (some ⟨b, 0, none⟩) I.il.length cap) (.slice (some ⟨gx, 0, none⟩) N px) (.slice (some ⟨gy, 0, none⟩) M py) w w' v L) => show S5 w' w.heap.size (.int .i64 iw) (.int .i64 ih) (.int .i64 (C : Int)) (.int .i64 it) (.slice (some ⟨b, 0, none⟩) I.il.length cap) ∧ S5 w' (w.heap.size + 1) (.slice (some ⟨gx, 0, none⟩) N px) (.slice (some ⟨gy, 0, none⟩) M py) (.int .i64 fx) (.int .i64 fy) (.int .i64 sb) ∧ S5 w' (w.heap.size + 1 + 1 + 1) (.int .i64 (N : Int)) (.int .i64 (M : Int)) (.int .i64 (C : Int)) (.int .i64 it) v from ⟨by have := D.m5; rw [hiw, hih, hC, hit] at this; exact this, by have := D.s5; rw [hfx, hfy, hsb] at this; exact this, by have := D.o5; rw [hN, hM, hC, hit] at this; exact this⟩)
  rw [hiw, hih, hfx, hfy, hsb] at CSM hW0 ⊢
  clear hI hr rx ry okx oky lx0 ly0 lx1 ly1 hf hmx c0 t0' t1' hN hM hC hCt hit hiw hih hfx hfy hsb A0
  obtain ⟨nl, hnl⟩ : ∃ nl, I.il.length = nl := ⟨_, rfl⟩
  rw [hnl] at CSM hW0 HA0 HM5 ⊢
  clear hnl
  have HW0 := hide hW0
  clear hW0
  go_enter Tryz.func21, Tryz.ntmps21
  go_upto_region 2 with fail
  rw [HW0.out]
  obtain ⟨⟨⟨x0, _⟩, ⟨x1, _⟩, ⟨x2, _⟩, ⟨x3, _⟩, ⟨x4, _⟩⟩, ⟨⟨y0, _⟩, ⟨y1, _⟩, ⟨y2, _⟩, ⟨y3, _⟩, ⟨y4, _⟩⟩, _⟩ := HM5.out _ _ _ HA0.out
  clear HW0
  go_wp2
  clear x0 x1 x2 x3 x4 y0 y1 y2 y3 y4
  go_loopg [23] M (fun r i wr => ∃ yy : Nat, yy + r = M ∧ i = .int .i64 (yy : Int) ∧ ∃ v, ASt 22 (w.heap.size + 1 + 1 + 1 + 1) w.heap.size (w.heap.size + 1) (w.heap.size + 1 + 1) (w.heap.size + 1 + 1 + 1) I S (.slice (some ⟨b, 0, none⟩) nl cap) (.slice (some ⟨gx, 0, none⟩) N px) (.slice (some ⟨gy, 0, none⟩) M py) w wr v ((List.range (yy * N * C)).map (outF I S)))
  case atStart => exact ⟨0, by omega, rfl, _, by rw [Nat.zero_mul, Nat.zero_mul]; exact HA0.out⟩
  case round =>
    obtain ⟨yy, hyy, rfl, v, hd⟩ := hrel
    have HD := hide hd
    have HYY := hide hyy
    clear hd hyy
    obtain ⟨G, hG⟩ : ∃ G, G = gk := ⟨_, rfl⟩
    subst hG
    by_cases hlt : yy < M
    · obtain ⟨_, ⟨⟨y0, _⟩, _⟩, _⟩ := HM5.out _ _ _ HD.out
      go_wp2
      clear y0
      go_loopg [29] N (fun r i wr => ∃ xx : Nat, xx + r = N ∧ i = .int .i64 (xx : Int) ∧ ∃ v, ASt 22 (w.heap.size + 1 + 1 + 1 + 1) w.heap.size (w.heap.size + 1) (w.heap.size + 1 + 1) (w.heap.size + 1 + 1 + 1) I S (.slice (some ⟨b, 0, none⟩) nl cap) (.slice (some ⟨gx, 0, none⟩) N px) (.slice (some ⟨gy, 0, none⟩) M py) w wr v ((List.range ((yy * N + xx) * C)).map (outF I S)))
      case atStart => exact ⟨0, by omega, rfl, _, HD.out⟩
      case round =>
        obtain ⟨xx, hxx, rfl, v2, hd⟩ := hrel
        have HD2 := hide hd
        have HXX := hide hxx
        clear hd hxx
        obtain ⟨G2, hG2⟩ : ∃ G2, G2 = gk := ⟨_, rfl⟩
        subst hG2
        by_cases hlt2 : xx < N
        · obtain ⟨⟨_, _, ⟨x2, _⟩, _⟩, _, _⟩ := HM5.out _ _ _ HD2.out
          go_wp2
          clear x2
          go_loopg [34] C (fun r i wr => ∃ c : Nat, c + r = C ∧ i = .int .i64 (c : Int) ∧ ∃ v, ASt 22 (w.heap.size + 1 + 1 + 1 + 1) w.heap.size (w.heap.size + 1) (w.heap.size + 1 + 1) (w.heap.size + 1 + 1 + 1) I S (.slice (some ⟨b, 0, none⟩) nl cap) (.slice (some ⟨gx, 0, none⟩) N px) (.slice (some ⟨gy, 0, none⟩) M py) w wr v ((List.range ((yy * N + xx) * C + c)).map (outF I S)))
          case atStart => exact ⟨0, by omega, rfl, _, HD2.out⟩
          case round =>
            obtain ⟨c, hcc, rfl, v3, hd⟩ := hrel
            have HD3 := hide hd
            have HCC := hide hcc
            clear hd hcc
            by_cases hlt3 : c < C
            · obtain ⟨⟨⟨x0, _⟩, ⟨x1, _⟩, ⟨x2, _⟩, ⟨x3, _⟩, ⟨x4, _⟩⟩, ⟨⟨y0, _⟩, ⟨y1, _⟩, ⟨y2, _⟩, ⟨y3, _⟩, ⟨y4, _⟩⟩, ⟨⟨o0, f0⟩, ⟨o1, f1⟩, ⟨o2, f2⟩, ⟨o3, f3⟩, ⟨o4, f4⟩⟩⟩ := HM5.out _ _ _ HD3.out
              have CS1 := fun w' bb => CSM.out w' bb xx yy (c : Int) hlt2 hlt
              have hw := HWI.out xx yy (c : Int)
              have HO := hide (HOUT.out xx yy c hlt2 hlt3)
              obtain ⟨V, hV⟩ : ∃ V, sumW I S xx yy (c : Int) = V := ⟨_, rfl⟩
              rw [hV] at hw HO
              simp only [hV] at CS1
              have CR1 := fun w' => CRD V hw.1 hw.2 w'
              obtain ⟨R, hR⟩ : ∃ R, roundF V it = R := ⟨_, rfl⟩
              rw [hR] at HO
              simp only [hR] at CR1
              have HSN1 := hide (HSN.out ((yy * N + xx) * C + c))
              rw [HO.out] at HSN1
              obtain ⟨L, hL⟩ : ∃ L, (List.range ((yy * N + xx) * C + c)).map (outF I S) = L := ⟨_, rfl⟩
              have HLL := hide (show L.length ≤ 268435456 from by
                rw [← hL, HLN.out]
                have t1 : (yy * N + xx) * C + c < M * N * C := by
                  have u1 : yy * N + xx < M * N := by
                    have := Nat.mul_le_mul_right N (show yy + 1 ≤ M from hlt)
                    rw [Nat.succ_mul] at this
                    omega
                  have := Nat.mul_le_mul_right C (show yy * N + xx + 1 ≤ M * N from u1)
                  rw [Nat.succ_mul] at this
                  omega
                omega)
              rw [hL] at HSN1
              have HD4 := hide HD3.out
              rw [hL] at HD4
              have HMORE := hide (fun (w3 : World) (v' : Value) (o : Obj) (wq : World) (D : ASt 22 (w.heap.size + 1 + 1 + 1 + 1) w.heap.size (w.heap.size + 1) (w.heap.size + 1 + 1) (w.heap.size + 1 + 1 + 1) I S (.slice (some ⟨b, 0, none⟩) nl cap) (.slice (some ⟨gx, 0, none⟩) N px) (.slice (some ⟨gy, 0, none⟩) M py) w wq v3 L) (own' : w3.ownsRow (w.heap.size + 1 + 1 + 1 + 1) 22 1 v' (L.length + 1) (L.map (Value.int .u16) ++ [Value.int .u16 R])) (grow : (wq.alloc o).grownBy w3 v3.ownBlock) => D.more own' grow)
              clear hV hR hw hL
              have HUL := hide (Tryz.underlying23)
              go_wp2_with fail
              go_region_law (first
                | (refine step_append_lies _ (by rfl) _ _ _ (by rfl) (w.heap.size + 1 + 1 + 1 + 1) 22 i0 (.int .u16 0) 1 2 HUL.out hi0 hz0 hz1 hz2 rfl (by decide) v3 L.length (L.map (Value.int .u16)) (by rfl) (HX5.out.own.alloc _) _ _ _ [.int .u16 R] (by rfl) rfl (new_one _ _ _) (one_int _ _) (by decide) (by have := HLL.out; unfold maxLen; omega) (by have := HLL.out; omega) (by have := HX5.out.bw; simp; omega) _ (by rfl) ?_; intro g9 cap9 w9 hown9 hgrow9 hat9 hlt9; obtain ⟨D9, e9, f9⟩ := HX5.out.more hown9 hgrow9; have HD9 := hide D9; clear D9 hown9 hgrow9 hat9 hlt9)
                | (go_simp; go_at_call 24; (with_reducible refine (CS1 _ (bt HD4.out.bel (by repeat (first | exact Below.refl _ _ | (with_reducible refine bdN ?_ _) | with_reducible refine bd ?_)))).mono ?_); rintro e w4 ⟨rfl, b4⟩; have HX4 := hide ((HD4.out.below (by repeat (first | exact Below.refl _ _ | (with_reducible refine bdN ?_ _) | with_reducible refine bd ?_))).below b4); obtain ⟨⟨⟨x0, _⟩, ⟨x1, _⟩, ⟨x2, _⟩, ⟨x3, _⟩, ⟨x4, _⟩⟩, ⟨⟨y0, _⟩, ⟨y1, _⟩, ⟨y2, _⟩, ⟨y3, _⟩, ⟨y4, _⟩⟩, ⟨⟨o0, f0⟩, ⟨o1, f1⟩, ⟨o2, f2⟩, ⟨o3, f3⟩, ⟨o4, f4⟩⟩⟩ := HM5.out _ _ _ HX4.out; clear b4)
                | (go_simp; go_at_call 27; (with_reducible refine (CR1 _).mono ?_); rintro e w5 ⟨rfl, b5⟩; have HX5 := hide ((HX4.out.below (by repeat (first | exact Below.refl _ _ | (with_reducible refine bdN ?_ _) | with_reducible refine bd ?_))).below b5); obtain ⟨⟨⟨x0, _⟩, ⟨x1, _⟩, ⟨x2, _⟩, ⟨x3, _⟩, ⟨x4, _⟩⟩, ⟨⟨y0, _⟩, ⟨y1, _⟩, ⟨y2, _⟩, ⟨y3, _⟩, ⟨y4, _⟩⟩, ⟨⟨o0, f0⟩, ⟨o1, f1⟩, ⟨o2, f2⟩, ⟨o3, f3⟩, ⟨o4, f4⟩⟩⟩ := HM5.out _ _ _ HX5.out; have Q6 := fun T => HM5.out _ _ _ (HX5.out.below (below1 _ (.cells #[.int .u16 R] T))); have q4 := fun T => (Q6 T).2.2.2.2.2.2.1; have g4 := fun T => (Q6 T).2.2.2.2.2.2.2; clear b5 Q6))
              all_goals
                rw [← HSN1.out] at HD9
                clear HSN1
                clear e9 f9
                go_wp2
                go_roundg (gk - 1)
                case measure => have := HCC.out; omega
                case rel => exact ⟨c + 1, by have := HCC.out; omega, by go_num, _, HD9.out⟩
            · obtain rfl : C = c := by have := HCC.out; omega
              have e1 := Nat.succ_mul (yy * N + xx) C
              have QF := HD3.out
              rw [← e1] at QF
              have QF2 := hide QF
              clear QF e1 hlt3
              go_wp2
              go_roundg (G2 - 1)
              case measure => have := HXX.out; omega
              case rel => exact ⟨xx + 1, by have := HXX.out; omega, by go_num, _, QF2.out⟩
        · obtain rfl : N = xx := by have := HXX.out; omega
          have e1 := Nat.succ_mul yy N
          have QF := HD2.out
          rw [← e1] at QF
          have QF2 := hide QF
          clear QF e1 hlt2
          go_wp2
          go_roundg (G - 1)
          case measure => have := HYY.out; omega
          case rel => exact ⟨yy + 1, by have := HYY.out; omega, by go_num, _, QF2.out⟩
    · obtain rfl : M = yy := by have := HYY.out; omega
      have hlen : ((List.range (M * N * C)).map (outF I S)).length = M * N * C := by simp
      have hpos : 1 ≤ M * N * C := HPOS.out
      obtain ⟨g, cp, hv, hg, hlt9, hrow, hcp, hzz⟩ := own_row HD.out.own hlen hpos
      subst hv
      obtain ⟨_, _, ⟨⟨o0, _⟩, ⟨o1, _⟩, ⟨o2, _⟩, ⟨o3, _⟩, ⟨o4, _⟩⟩⟩ := HM5.out _ _ _ HD.out
      have z5 := HD.out.z5
      have HZ5 := hide z5
      obtain ⟨⟨z0, p0⟩, ⟨z1, p1⟩, ⟨z2, p2⟩, ⟨z3, p3⟩, ⟨z4, p4⟩⟩ := z5
      have g5 := ((((grown_set wr (w.heap.size + 1 + 1) 0 (.int .i64 (N : Int))).trans (grown_set _ (w.heap.size + 1 + 1) 1 (.int .i64 (M : Int)))).trans (grown_set _ (w.heap.size + 1 + 1) 2 (.int .i64 (C : Int)))).trans (grown_set _ (w.heap.size + 1 + 1) 3 (.int .i64 it))).trans (grown_set _ (w.heap.size + 1 + 1) 4 (.slice (some ⟨g, 0, none⟩) (M * N * C) cp))
      have FB := hide (below_fill HD.out.bel (show w.heap.size ≤ w.heap.size + 1 + 1 by omega) (.int .i64 (N : Int)) (.int .i64 (M : Int)) (.int .i64 (C : Int)) (.int .i64 it) (.slice (some ⟨g, 0, none⟩) (M * N * C) cp))
      have F5 := hide (S5.fill HZ5.out (.int .i64 (N : Int)) (.int .i64 (M : Int)) (.int .i64 (C : Int)) (.int .i64 it) (.slice (some ⟨g, 0, none⟩) (M * N * C) cp))
      have FR := hide (hrow.grown g5 (fun e => by have := Option.some.inj e; omega))
      have HG := hide hg
      clear g5 hrow hg hzz hlt hlt9 HD
      obtain ⟨T, hT⟩ : ∃ T, M * N * C = T := ⟨_, rfl⟩
      have HT := hide hT
      rw [hT] at o4 F5 FR FB hcp
      clear hT hlen hpos
      go_wp2
      obtain ⟨⟨v0, _⟩, ⟨v1, _⟩, ⟨v2, _⟩, ⟨v3, _⟩, ⟨v4, _⟩⟩ := F5.out
      exact bodyPost_ret (v := .agg #[.int .i64 (N : Int), .int .i64 (M : Int), .int .i64 (C : Int), .int .i64 it, .slice (some ⟨g, 0, none⟩) T cp]) (by simp [results, Tryz.results21, go_sem, v0, v1, v2, v3, v4]) rfl ⟨⟨g, cp, (by rw [show (applyF I S).il.length = T from by rw [HAL.out, List.length_map, List.length_range, HT.out]]; exact congrArg Ending.returned (HAV.out g T cp).symm), (by rw [HAL.out, HT.out]; exact FR.out), (by have := HG.out; omega)⟩, FB.out⟩
/-- What the document's Apply answers. -/
theorem dapply15 : DApply15 := fun I S b cap gx px gy py w h1 h2 h3 h4 h5 h6 h7 h8 h9 h10 h11 => dapply15_any I S b cap gx px gy py w h1 h2 h3 h4 h5 h6 h7 h8 h9 h10 h11
end Go.Proofs.YtaafhjngnjjcmaaGreatDoor

/- The document's images, as values: two of them compared. -/
namespace Go.Proofs.YtaafhjngnjjcmaaGreatDoor
open Go.RowKit


theorem imSame_comm (I J : Im) : imSame I J = imSame J I := decide_eq_decide.2 ⟨fun ⟨a, b, c, d, e⟩ => ⟨a.symm, b.symm, c.symm, d.symm, e.symm⟩, fun ⟨a, b, c, d, e⟩ => ⟨a.symm, b.symm, c.symm, d.symm, e.symm⟩⟩
set_option maxHeartbeats 2000000 in
theorem dequal_any (I J : Im) (b b' cap cap' : Nat) (l1 : I.il.length ≤ 268435456) (w : World) (hr : RowAt .u16 w (some ⟨b, 0, none⟩) I.il) (hr' : RowAt .u16 w (some ⟨b', 0, none⟩) J.il) : Calls Tryz.prog 22 #[imV I b I.il.length cap, imV J b' J.il.length cap'] w fun e w' => e = .returned (.bool (imSame I J)) ∧ Below w.heap.size w w' := by
  unfold imV
  have CE := fun w hr hr' => dsame_any I.il J.il _ _ rfl rfl (some ⟨b, 0, none⟩) (some ⟨b', 0, none⟩) cap cap' l1 w hr hr'
  have HR := hide hr
  have HR' := hide hr'
  by_cases hs : I.iw = J.iw ∧ I.ih = J.ih ∧ I.ic = J.ic ∧ I.it = J.it
  · rw [imSame_yes hs]
    obtain ⟨e0, e1, e2, e3⟩ := hs
    rw [← e0, ← e1, ← e2, ← e3]
    generalize decide (I.il = J.il) = r at *
    generalize I.il.length = n at *
    generalize J.il.length = m at *
    generalize I.iw = a at *
    generalize I.ih = a2 at *
    generalize I.ic = a3 at *
    generalize I.it = a4 at *
    have q0 : (a == a) = true := beq_self_eq_true a
    have q1 : (a2 == a2) = true := beq_self_eq_true a2
    have q2 : (a3 == a3) = true := beq_self_eq_true a3
    have q3 : (a4 == a4) = true := beq_self_eq_true a4
    clear e0 e1 e2 e3 hr hr' l1
    go_enter Tryz.func22, Tryz.ntmps22
    go_wp2_with (go_at_call 51; (with_reducible refine (CE _ (HR.out.below (ba (below1 _ _) _)) (HR'.out.below (ba (below1 _ _) _))).mono ?_); rintro e w1 ⟨rfl, b1⟩)
    go_ret
    exact ⟨rfl, bt (ba (below1 _ _) _) b1⟩
  · rw [imSame_no hs]
    generalize I.il.length = n at *
    generalize J.il.length = m at *
    generalize I.iw = a at *
    generalize I.ih = a2 at *
    generalize I.ic = a3 at *
    generalize I.it = a4 at *
    generalize J.iw = c at *
    generalize J.ih = c2 at *
    generalize J.ic = c3 at *
    generalize J.it = c4 at *
    clear hr hr' HR HR' CE l1
    by_cases e0 : a = c
    · subst e0
      have q0 : (a == a) = true := beq_self_eq_true a
      by_cases e1 : a2 = c2
      · subst e1
        have q1 : (a2 == a2) = true := beq_self_eq_true a2
        by_cases e2 : a3 = c3
        · subst e2
          have q2 : (a3 == a3) = true := beq_self_eq_true a3
          have q3 : (a4 == c4) = false := beq_eq_false_iff_ne.2 (fun e => hs ⟨rfl, rfl, rfl, e⟩)
          clear hs
          go_enter Tryz.func22, Tryz.ntmps22
          go_wp2
          go_ret
          exact ⟨rfl, ba (below1 _ _) _⟩
        · have q2 : (a3 == c3) = false := beq_eq_false_iff_ne.2 e2
          clear hs e2
          go_enter Tryz.func22, Tryz.ntmps22
          go_wp2
          go_ret
          exact ⟨rfl, ba (below1 _ _) _⟩
      · have q1 : (a2 == c2) = false := beq_eq_false_iff_ne.2 e1
        clear hs e1
        go_enter Tryz.func22, Tryz.ntmps22
        go_wp2
        go_ret
        exact ⟨rfl, ba (below1 _ _) _⟩
    · have q0 : (a == c) = false := beq_eq_false_iff_ne.2 e0
      clear hs e0
      go_enter Tryz.func22, Tryz.ntmps22
      go_wp2
      go_ret
      exact ⟨rfl, ba (below1 _ _) _⟩
end Go.Proofs.YtaafhjngnjjcmaaGreatDoor

/- What comes out: the law of composing. -/
namespace Go.Proofs.YtaafhjngnjjcmaaGreatDoor
open Go.RowKit

set_option maxHeartbeats 4000000 in
set_option maxRecDepth 100000 in
theorem law_DirectComposes (q : Pic) (pd : Option Addr) (pc : Nat) (L : List Opr) (ad : Option Addr) (cap : Nat) (w : World) (hk : OpK w) (hp : PicAt w q pd pc ∧ PicFits q) (hr : OpsAt w ad L ∧ OpsFit L) (h1 : L.length ≤ maxLen) (hz : ad = none → cap = 0) :
    Calls Tryz.prog 6 #[picV q pd pc, .slice ad L.length cap] w fun e w' => e = .returned (.bool true) ∧ Below w.heap.size w w' := by
  obtain ⟨n, hn⟩ : ∃ n, L.length = n := ⟨_, rfl⟩
  have K0 := hide (fun w' (b : Below w.heap.size w w') => opk_below _ _ hk b)
  have CL := fun w' (b : Below w.heap.size w w') => lives15_any w' (K0.out w' b)
  have CD := fun w' (b : Below w.heap.size w w') => pdraw_any q pd pc w' (hp.1.below b) hp.2
  have CN := hide (fun w' (b : Below w.heap.size w w') g h I (H : ImgAt w' g h I) hy => stages_no hn (hn ▸ h1) hz (K0.out w' b) (hr.1.below b) hr.2 H hy)
  have CY := hide (fun w' (b : Below w.heap.size w w') g h I (H : ImgAt w' g h I) hy => stages_yes hn (hn ▸ h1) hz (K0.out w' b) (hr.1.below b) hr.2 H hy)
  have GD := hide (fun I (hI : ImOk I) i0 i1 hy => stages_good (L := L) hn hI i0 i1 hy)
  rw [hn] at h1 ⊢
  have HN := hide hn
  have q1 : ∀ (a : Addr) (w : World), (binOp .neq 28 (.pointer (some a)) (.pointer none)).run Tryz.prog w = .ok (.bool true) w := fun a w => by kernel_rfl
  obtain ⟨pw, ph, pcc, pm, pl⟩ := q
  have P0 := hide (S5.new w 25 (.int .u16 pw) (.int .u16 ph) (.int .u16 pcc) (.int .u16 pm) (.slice pd pl.length pc))
  have B0 := hide (below1 w (.cells #[.int .u16 pw, .int .u16 ph, .int .u16 pcc, .int .u16 pm, .slice pd pl.length pc] 25))
  unfold picV at CD ⊢
  clear hk hp hr hz hn
  go_enter Tryz.func6, Tryz.ntmps6
  go_upto_region 4 with (first
    | (go_at_call 9; (with_reducible refine (CL _ B0.out).mono ?_); rintro e w1 ⟨rfl, b1⟩; have B1 := hide (bt B0.out b1); obtain ⟨⟨p0, _⟩, ⟨p1, _⟩, ⟨p2, _⟩, ⟨p3, _⟩, ⟨p4, _⟩⟩ := P0.out.below b1)
    | (go_at_call 10; (with_reducible refine (CD _ B1.out).mono ?_); rintro e w2 ⟨v, I, rfl, ⟨g, h, rfl, gB, hB, hi⟩, i0, i1, b2⟩; have HI := hide hi; have B2 := hide (bt B1.out b2); clear hi))
  by_cases hy : allCode L I.iw I.ih I.ic = 0 ∧ n ≤ 4 ∧ bigB 12 L n = false
  · obtain ⟨sm, cz⟩ := GD.out I HI.out.ok i0 i1 hy
    have SM := hide sm
    have CZ := hide cz
    have CS := CY.out w2 B2.out g h I HI.out hy
    obtain ⟨_, h4, _⟩ := hy
    obtain ⟨F, hFF⟩ : ∃ F, stgAt L I.iw I.ih = F := ⟨_, rfl⟩
    rw [hFF] at CS SM CZ
    have CP : ∀ w' ad cap, Below w.heap.size w w' → ImgAt w' g h I → StgsAt w' ad n F → Calls Tryz.prog 12 #[.pointer (some ⟨g, 0, none⟩), .slice ad n cap] w' fun e w'' => (∃ v, e = .returned (.tuple #[v, .int .i64 0]) ∧ ImgNew w'.heap.size w'' v (composeF I (stgL F n))) ∧ Below w'.heap.size w' w'' := fun w' ad cap b H hs =>
      (dir_compose (K0.out w' b) H hs h1 SM.out).mono fun e w'' ⟨hA, hB⟩ => by
        rw [CZ.out n (Nat.le_refl _)] at hA
        rcases hA with ⟨_, v, he, hi⟩ | ⟨h0, _⟩
        · exact ⟨⟨v, he, hi⟩, hB⟩
        · exact absurd rfl h0
    have CDC := fun w' b cap ad c (hr : RowAt .u16 w' (some ⟨b, 0, none⟩) I.il) (hs : StgsRef w' ad n F) (hF : ∀ j, j < n → StgOk (F j)) => dcompose15_any dapply15 I b cap ad n c F w' HI.out.ok hr hs (by omega) hF CZ.out
    have JO := hide ((compose_ok HI.out.ok _ (CZ.out n (Nat.le_refl _))).1)
    obtain ⟨J, hJ⟩ : ∃ J, composeF I (stgL F n) = J := ⟨_, rfl⟩
    simp only [hJ] at CP CDC
    have JOK := hide (show ImOk J from hJ ▸ JO.out)
    clear hFF hJ JO SM CZ GD CN CY
    go_wp2_with (first
      | (go_at_call 11; (with_reducible refine CS.mono ?_); rintro e w3 ⟨⟨ad3, cap3, ad4, cap4, rfl, hs3, hq3⟩, b3⟩; have B3 := hide (bt B2.out b3); have HI3 := hide (HI.out.below b3); have HS3 := hide hs3; have HQ3 := hide hq3; have HF := hide (stgs_ok hs3); clear hs3 hq3)
      | (go_at_call 12; (with_reducible refine (CP _ _ _ B3.out HI3.out HS3.out).mono ?_); rintro e w4 ⟨⟨v4, rfl, ⟨g4, h4', rfl, g4B, h4B, hj⟩⟩, b4⟩; have B4 := hide (bt B3.out b4); have HJ4 := hide hj; have HI4 := hide (HI3.out.below b4); have HQ4 := hide (HQ3.out.below b4); clear hj)
      | (go_at_call 20; (with_reducible refine (dref_any HJ4.out).mono ?_); rintro e w5 ⟨b5, cp5, rfl, hr5, g5, l5, _, bb5⟩; have B5 := hide (bt B4.out bb5); have HI5 := hide (HI4.out.below bb5); have HQ5 := hide (HQ4.out.below bb5); have HR5 := hide hr5; clear hr5)
      | (go_at_call 20; (with_reducible refine (dref_any HI5.out).mono ?_); rintro e w6 ⟨b6, cp6, rfl, hr6, g6, l6, _, bb6⟩; have B6 := hide (bt B5.out bb6); have HQ6 := hide (HQ5.out.below bb6); have HR6 := hide (HR5.out.below bb6); have HT6 := hide hr6; clear hr6)
      | (go_at_call 28; (with_reducible refine (CDC _ _ _ _ _ HT6.out HQ6.out HF.out).mono ?_); rintro e w7 ⟨⟨b7, cp7, rfl, hr7⟩, bb7⟩; have B7 := hide (bt B6.out bb7); have HR7 := hide (HR6.out.below bb7); have HT7 := hide hr7; clear hr7)
      | (go_at_call 22; (with_reducible refine (dequal_any J J _ _ _ _ (by have := imOk_len JOK.out; omega) _ HR7.out HT7.out).mono ?_); rintro e w8 ⟨rfl, bb8⟩; have B8 := hide (bt B7.out bb8); rw [imSame_self]))
    go_ret
    exact ⟨rfl, B8.out⟩
  · have CS := CN.out w2 B2.out g h I HI.out hy
    clear GD CN CY hy
    go_wp2_with (go_at_call 11; (with_reducible refine CS.mono ?_); rintro e w3 ⟨⟨v3, v4, rfl⟩, b3⟩; have B3 := hide (bt B2.out b3))
    go_ret
    exact ⟨rfl, B3.out⟩
end Go.Proofs.YtaafhjngnjjcmaaGreatDoor
