/- Parts, joined. -/
import Derived.Test.YtaafhjngnjjcmaaGreatDoorJ17
import Derived.Test.YtaafhjngnjjcmaaGreatDoorJ18
import Derived.Test.YtaafhjngnjjcmaaGreatDoorJ40
import Derived.Test.YtaafhjngnjjcmaaGreatDoorJ12
import Derived.Test.YtaafhjngnjjcmaaGreatDoorJ26
import Derived.Test.YtaafhjngnjjcmaaGreatDoorJ05
import Derived.Deep.LoopGhost
import Derived.BigQuiet
import Derived.Deep.CutBlock
/- What comes out: the document's Round and Sum. -/
namespace Go.Proofs.YtaafhjngnjjcmaaGreatDoor
open Go.RowKit


theorem wrap64_eq (n : Int) : wrap64 n = IntKind.i64.wrap n := by
  unfold wrap64
  rw [IntKind.wrap_i64]
theorem step64 {A B s v a : Int} (hA : A = IntKind.i64.wrap s) (hB : B = IntKind.i64.wrap v) : wrap64 (A + wrap64 (a * B)) = IntKind.i64.wrap (s + a * v) := by
  subst hA hB
  rw [wrap64_eq, wrap64_eq]
  exact w64_step s a v
theorem dround15_any (s t : Int) (h0 : -9223372036854775808 ≤ s) (h1 : s ≤ 9223372036854775807) (w : World) :
    Calls Tryz.prog 27 #[.int .i64 s, .int .i64 t] w fun e w' => e = .returned (.int .u16 (roundF s t)) ∧ Below w.heap.size w w' := by
  have CS := fun w => refshift_any s 28 h0 h1 w
  unfold roundF mostC
  generalize shiftF s 28 = V at *
  rcases Int.lt_or_le t 0 with ht | ht
  · rw [if_pos ht]
    rcases Int.lt_or_le V 0 with hv | hv
    · rw [if_pos hv]
      go_enter Tryz.func27, Tryz.ntmps27
      go_wp2_with (go_at_call 61; (with_reducible refine (CS _).mono ?_); rintro e w1 ⟨rfl, b1⟩)
      go_ret
      exact ⟨rfl, b1⟩
    · rw [if_neg (by omega)]
      rcases Int.lt_or_le 0 V with hm | hm
      · rw [if_pos hm]
        go_enter Tryz.func27, Tryz.ntmps27
        go_wp2_with (go_at_call 61; (with_reducible refine (CS _).mono ?_); rintro e w1 ⟨rfl, b1⟩)
        go_ret
        exact ⟨rfl, b1⟩
      · rw [if_neg (by omega)]
        go_enter Tryz.func27, Tryz.ntmps27
        go_wp2_with (go_at_call 61; (with_reducible refine (CS _).mono ?_); rintro e w1 ⟨rfl, b1⟩)
        go_ret
        exact ⟨rfl, b1⟩
  · rw [if_neg (show ¬ t < 0 by omega)]
    rcases Int.lt_or_le 65535 t with hT | hT
    · rw [if_pos hT]
      rcases Int.lt_or_le V 0 with hv | hv
      · rw [if_pos hv]
        go_enter Tryz.func27, Tryz.ntmps27
        go_wp2_with (go_at_call 61; (with_reducible refine (CS _).mono ?_); rintro e w1 ⟨rfl, b1⟩)
        go_ret
        exact ⟨rfl, b1⟩
      · rw [if_neg (by omega)]
        rcases Int.lt_or_le 65535 V with hm | hm
        · rw [if_pos hm]
          go_enter Tryz.func27, Tryz.ntmps27
          go_wp2_with (go_at_call 61; (with_reducible refine (CS _).mono ?_); rintro e w1 ⟨rfl, b1⟩)
          go_ret
          exact ⟨rfl, b1⟩
        · rw [if_neg (by omega)]
          go_enter Tryz.func27, Tryz.ntmps27
          go_wp2_with (go_at_call 61; (with_reducible refine (CS _).mono ?_); rintro e w1 ⟨rfl, b1⟩)
          go_ret
          exact ⟨rfl, b1⟩
    · rw [if_neg (show ¬ 65535 < t by omega)]
      rcases Int.lt_or_le V 0 with hv | hv
      · rw [if_pos hv]
        go_enter Tryz.func27, Tryz.ntmps27
        go_wp2_with (go_at_call 61; (with_reducible refine (CS _).mono ?_); rintro e w1 ⟨rfl, b1⟩)
        go_ret
        exact ⟨rfl, b1⟩
      · rw [if_neg (by omega)]
        rcases Int.lt_or_le t V with hm | hm
        · rw [if_pos hm]
          go_enter Tryz.func27, Tryz.ntmps27
          go_wp2_with (go_at_call 61; (with_reducible refine (CS _).mono ?_); rintro e w1 ⟨rfl, b1⟩)
          go_ret
          exact ⟨rfl, b1⟩
        · rw [if_neg (by omega)]
          go_enter Tryz.func27, Tryz.ntmps27
          go_wp2_with (go_at_call 61; (with_reducible refine (CS _).mono ?_); rintro e w1 ⟨rfl, b1⟩)
          go_ret
          exact ⟨rfl, b1⟩
end Go.Proofs.YtaafhjngnjjcmaaGreatDoor

/- What comes out: the document's sum of an output sample. -/
namespace Go.Proofs.YtaafhjngnjjcmaaGreatDoor
open Go.RowKit


theorem imAt_u16 {I : Im} (hI : ImOk I) (x y z : Int) : 0 ≤ imAt I x y z ∧ imAt I x y z ≤ 65535 := by
  obtain ⟨_, _, _, _, _, _, t1, _, _, hall⟩ := hI
  unfold imAt
  split
  · rw [List.getD_eq_getElem?_getD]
    cases h : I.il[(imPlace I x y z).toNat]? with
    | none => exact ⟨by decide, by decide⟩
    | some v =>
      have := hall v (List.mem_of_getElem? h)
      exact ⟨this.1, by show v ≤ _; omega⟩
  · exact ⟨by decide, by decide⟩
theorem calm15 {P : Program} {f : FuncId} {args : Array Value} {u : Value} (h : ∀ w : World, Calls P f args w fun e w' => e = .returned u ∧ w = w') (w : World) (n : Nat) :
    Calls P f args (w.drewN n) fun e w'' => e = .returned u ∧ ∃ m, w'' = w.drewN m :=
  (h _).mono fun _ _ q => ⟨q.1, n, q.2.symm⟩
set_option maxHeartbeats 8000000 in
set_option maxRecDepth 100000 in
theorem dsum15_any (I : Im) (S : Stg) (b cap gx px gy py x y : Nat) (c : Int) (w : World) (hI : ImOk I) (hr : RowAt .u16 w (some ⟨b, 0, none⟩) I.il) (rx : LinesAt w gx S.lx) (ry : LinesAt w gy S.ly) (ox : ∀ j, j < S.lx.length → -1099511627776 ≤ (lnAt S.lx j).1 ∧ (lnAt S.lx j).1 ≤ 1099511627776 ∧ 1 ≤ (lnAt S.lx j).2.length ∧ (lnAt S.lx j).2.length ≤ 1048576) (oy : ∀ j, j < S.ly.length → -1099511627776 ≤ (lnAt S.ly j).1 ∧ (lnAt S.ly j).1 ≤ 1099511627776 ∧ 1 ≤ (lnAt S.ly j).2.length ∧ (lnAt S.ly j).2.length ≤ 1048576) (hx : x < S.lx.length) (hy : y < S.ly.length) (_ : S.lx.length ≤ 65536) (_ : S.ly.length ≤ 65536) :
    Calls Tryz.prog 24 #[imV I b I.il.length cap, .agg #[.slice (some ⟨gx, 0, none⟩) S.lx.length px, .slice (some ⟨gy, 0, none⟩) S.ly.length py, .int .i64 S.fx, .int .i64 S.fy, .int .i64 S.sb], .int .i64 (x : Int), .int .i64 (y : Int), .int .i64 c] w fun e w' => e = .returned (.int .i64 (sumW I S x y c)) ∧ Below w.heap.size w w' := by
  obtain ⟨W0, hW0⟩ : ∃ W0, (w.alloc (.cells #[.int .i64 I.iw, .int .i64 I.ih, .int .i64 I.ic, .int .i64 I.it, .slice (some ⟨b, 0, none⟩) I.il.length cap] 52)).alloc (.cells #[.slice (some ⟨gx, 0, none⟩) S.lx.length px, .slice (some ⟨gy, 0, none⟩) S.ly.length py, .int .i64 S.fx, .int .i64 S.fy, .int .i64 S.sb] 57) = W0 := ⟨_, rfl⟩
  have B0 := hide (show Below w.heap.size w W0 by rw [← hW0]; exact ba (below1 _ _) _)
  have M0 := hide (show S5 W0 w.heap.size (.int .i64 I.iw) (.int .i64 I.ih) (.int .i64 I.ic) (.int .i64 I.it) (.slice (some ⟨b, 0, none⟩) I.il.length cap) by rw [← hW0]; exact (S5.new _ _ _ _ _ _ _).below (below1 _ _))
  have S0 := hide (show S5 W0 (w.heap.size + 1) (.slice (some ⟨gx, 0, none⟩) S.lx.length px) (.slice (some ⟨gy, 0, none⟩) S.ly.length py) (.int .i64 S.fx) (.int .i64 S.fy) (.int .i64 S.sb) by rw [← hW0]; simpa using S5.new (w.alloc (.cells #[.int .i64 I.iw, .int .i64 I.ih, .int .i64 I.ic, .int .i64 I.it, .slice (some ⟨b, 0, none⟩) I.il.length cap] 52)) 57 (.slice (some ⟨gx, 0, none⟩) S.lx.length px) (.slice (some ⟨gy, 0, none⟩) S.ly.length py) (.int .i64 S.fx) (.int .i64 S.fy) (.int .i64 S.sb))
  have HRX := hide (rx.below B0.out)
  have HRY := hide (ry.below B0.out)
  have HRI := hide (hr.below B0.out)
  have AX := ox x hx
  have AY := oy y hy
  obtain ⟨f0, f1, _, n1⟩ := AX
  obtain ⟨g0, g1, _, m1⟩ := AY
  have CDA := fun (p q : Int) w' hr' => dat_any I b cap hI p q c w' hr'
  have CAT := fun (j n : Int) (h0 : -9223372036854775808 ≤ j) (h1 : j ≤ 9223372036854775807) w' => refat_any S.sb j n h0 h1 w'
  have HV := hide (fun (p q : Int) => imAt_u16 hI p q c)
  obtain ⟨T, hT⟩ : ∃ T : Nat → Int, T = fun i => tapS (lnAt S.ly y).2 (fun k => cellF I S x y c i k) (lnAt S.ly y).2.length := ⟨_, rfl⟩
  have hsum : sumW I S x y c = IntKind.i64.wrap (tapS (lnAt S.lx x).2 T (lnAt S.lx x).2.length) := by rw [hT]; rfl
  have HX := hide (fun (wr : World) (hb : Below W0.heap.size W0 wr) => (HRX.out.below hb) x hx)
  have HY := hide (fun (wr : World) (hb : Below W0.heap.size W0 wr) => (HRY.out.below hb) y hy)
  rw [hsum]
  have HT := hide (fun i => show T i = tapS (lnAt S.ly y).2 (fun k => imAt I (atF S.sb ((lnAt S.lx x).1 + (i : Int)) I.iw) (atF S.sb ((lnAt S.ly y).1 + (k : Int)) I.ih) c) (lnAt S.ly y).2.length by rw [hT]; rfl)
  unfold imV at CDA ⊢
  clear hT hsum hr rx ry ox oy hI HRX HRY
  obtain ⟨fx, tx, hlx⟩ : ∃ f t, lnAt S.lx x = (f, t) := ⟨_, _, rfl⟩
  obtain ⟨fy, ty, hly⟩ : ∃ f t, lnAt S.ly y = (f, t) := ⟨_, _, rfl⟩
  simp only [hlx] at f0 f1 n1 HX HT ⊢
  simp only [hly] at g0 g1 m1 HY HT
  clear hlx hly
  obtain ⟨N1, hN1⟩ : ∃ N, tx.length = N := ⟨_, rfl⟩
  obtain ⟨N2, hN2⟩ : ∃ N, ty.length = N := ⟨_, rfl⟩
  simp only [hN1] at n1 HX ⊢
  simp only [hN2] at m1 HY HT
  have HN1 := hide hN1
  have HN2 := hide hN2
  clear hN1 hN2
  generalize S.lx.length = nx at *
  generalize S.ly.length = ny at *
  generalize I.iw = iw at *
  generalize I.ih = ih at *
  generalize I.ic = ic at *
  generalize I.it = it at *
  generalize I.il.length = nl at *
  generalize S.fx = sfx at *
  generalize S.fy = sfy at *
  generalize S.sb = sb at *
  obtain ⟨⟨p0, _⟩, ⟨p1, _⟩, ⟨p2, _⟩, ⟨p3, _⟩, ⟨p4, _⟩⟩ := S0.out
  obtain ⟨d1, u1, d2, adx, cpx, rfl, rowx⟩ := HX.out W0 (Below.refl _ _)
  rw [HN1.out] at d2
  obtain ⟨dy0, uy, dy1, ady, cpy, rfl, rowy⟩ := HY.out W0 (Below.refl _ _)
  rw [HN2.out] at dy1
  have HC0 := hide dy0
  have HC1 := hide dy1
  have HRY := hide rowy
  clear rowy dy0 dy1
  have HRT := hide rowx
  clear rowx
  go_enter Tryz.func24, Tryz.ntmps24
  go_wp2
  clear p0 p1 p2 p3 p4 d1 d2 hW0
  go_loopg [11, 26] N1 (fun r s i wr => ∃ k : Nat, k + r = N1 ∧ i = .int .i64 (k : Int) ∧ s = .int .i64 (IntKind.i64.wrap (tapS tx T k)) ∧ Below W0.heap.size W0 wr)
  case atStart => exact ⟨0, by omega, rfl, rfl, Below.refl _ _⟩
  case round =>
    obtain ⟨k, hk, rfl, rfl, hb⟩ := hrel
    have HB := hide hb
    have HK := hide hk
    clear hb hk
    by_cases hlt : k < N1
    · obtain ⟨q0, o0, rfl, ct⟩ := (HRT.out.below HB.out).get (j := k) (by rw [HN1.out]; exact hlt)
      obtain ⟨A, hA⟩ : ∃ A, tx.getD k 0 = A := ⟨_, rfl⟩
      rw [hA] at ct
      have HA := hide hA
      clear hA
      obtain ⟨cf, u0, cu, _⟩ := HX.out wr HB.out
      obtain ⟨⟨p0, _⟩, ⟨p1, _⟩, ⟨p2, _⟩, ⟨p3, _⟩, ⟨p4, _⟩⟩ := S0.out.below HB.out
      obtain ⟨⟨m0, _⟩, ⟨m1', _⟩, ⟨m2, _⟩, ⟨m3, _⟩, ⟨m4, _⟩⟩ := M0.out.below HB.out
      have dy1 := cb HB.out (cell_ltL HC1.out) HC1.out
      have W1 : IntKind.i64.wrap (fx + (k : Int)) = fx + (k : Int) := IntWalk.i64_in _ (by omega)
      have C1 := CAT (fx + (k : Int)) iw (by omega) (by omega)
      go_wp2
      go_quiet ((go_at_call 54; (with_reducible exact calm15 C1 _ _)))
      have HT1 := hide (HT.out k)
      clear C1 W1
      obtain ⟨G2, hG2⟩ : ∃ G2, G2 = gk := ⟨_, rfl⟩
      subst hG2
      obtain ⟨u, hu⟩ : ∃ u, atF sb (fx + (k : Int)) iw = u := ⟨_, rfl⟩
      rw [hu] at HT1
      simp only [hu]
      clear hu
      obtain ⟨G, hG⟩ : ∃ G : Nat → Int, G = fun (q : Nat) => imAt I u (atF sb (fy + (q : Int)) ih) c := ⟨_, rfl⟩
      rw [← hG] at HT1
      have HG := hide (fun (q : Nat) => show G q = imAt I u (atF sb (fy + (q : Int)) ih) c by rw [hG])
      clear hG
      have B2 := hide (show Below W0.heap.size W0 (wr.drewN nq) from bdN HB.out _)
      go_wp2
      go_loopg [15, 51] N2 (fun r s i w2 => ∃ q : Nat, q + r = N2 ∧ i = .int .i64 (q : Int) ∧ s = .int .i64 (IntKind.i64.wrap (tapS ty G q)) ∧ Below W0.heap.size W0 w2)
      case atStart => exact ⟨0, by omega, rfl, rfl, B2.out⟩
      case round =>
        obtain ⟨q, hq, rfl, rfl, hb⟩ := hrel
        have HB2 := hide hb
        have HQ := hide hq
        clear hb hq
        by_cases hlt2 : q < N2
        · obtain ⟨q1, o1, rfl, ct2⟩ := (HRY.out.below HB2.out).get (j := q) (by rw [HN2.out]; exact hlt2)
          obtain ⟨A2, hA2⟩ : ∃ A2, ty.getD q 0 = A2 := ⟨_, rfl⟩
          rw [hA2] at ct2
          have HA2 := hide hA2
          clear hA2 p0 p1 p2 p3 p4 m0 m1' m2 m3 m4 ct cf cu dy1
          have dy0 := cb HB2.out (cell_ltL HC0.out) HC0.out
          obtain ⟨⟨p0, _⟩, ⟨p1, _⟩, ⟨p2, _⟩, ⟨p3, _⟩, ⟨p4, _⟩⟩ := S0.out.below HB2.out
          obtain ⟨⟨m0, _⟩, ⟨m1', _⟩, ⟨m2, _⟩, ⟨m3, _⟩, ⟨m4, _⟩⟩ := M0.out.below HB2.out
          have W1 : IntKind.i64.wrap (fy + (q : Int)) = fy + (q : Int) := IntWalk.i64_in _ (by omega)
          have C1 := CAT (fy + (q : Int)) ih (by omega) (by omega)
          have HG1 := hide (HG.out q)
          go_wp2
          go_quiet ((go_at_call 54; (with_reducible exact calm15 C1 _ _)))
          clear C1 W1
          obtain ⟨v, hv⟩ : ∃ v, atF sb (fy + (q : Int)) ih = v := ⟨_, rfl⟩
          rw [hv] at HG1
          simp only [hv]
          clear hv
          have B3 := hide (show Below W0.heap.size W0 (wr.drewN nq) from bdN HB2.out _)
          go_wp2_with (go_at_call 55; (with_reducible refine (CDA _ _ _ (HRI.out.below B3.out)).mono ?_); rintro e w5 ⟨rfl, b5⟩)
          go_roundg (gk - 1)
          case measure => have := HQ.out; omega
          case rel => exact ⟨q + 1, by have := HQ.out; omega, by go_num, by
            have e : tapS ty G (q + 1) = tapS ty G q + ty.getD q 0 * G q := rfl
            simp only [wrap64_eq]
            rw [w64_step, e, HA2.out, HG1.out], bt B3.out b5⟩
        · obtain rfl : N2 = q := by have := HQ.out; omega
          clear hlt2
          go_wp2
          go_roundg (G2 - 1)
          case measure => have := HK.out; omega
          case rel => exact ⟨k + 1, by have := HK.out; omega, by go_num, by
            have e : tapS tx T (k + 1) = tapS tx T k + tx.getD k 0 * T k := rfl
            simp only [wrap64_eq]
            rw [w64_step, e, HA.out, HT1.out], HB2.out⟩
    · obtain rfl : N1 = k := by have := HK.out; omega
      clear hlt
      go_wp2
      go_ret
      exact ⟨rfl, bt B0.out HB.out⟩
end Go.Proofs.YtaafhjngnjjcmaaGreatDoor

/- The document's images, as values: a sample is set; an image read as a value; two of them compared. -/
namespace Go.Proofs.YtaafhjngnjjcmaaGreatDoor
open Go.RowKit

theorem img_set_any {w : World} {g h : Nat} {I : Im} (H : ImgAt w g h I) (x y z v : Int) (v0 : 0 ≤ v) (v1 : v ≤ 65535) : Calls Tryz.prog 30 #[.pointer (some ⟨g, 0, none⟩), .int .i64 x, .int .i64 y, .int .i64 z, .int .u16 v] w fun e w' => e = .returned (.bool (setOk I x y z v)) ∧ ImgAt w' g h (imSet I x y z v) ∧ w.grownBy w' (some h) := by
  cases hs : setOk I x y z v with
  | true => exact img_set_yes H x y z v v0 v1 hs
  | false =>
    have e : imSet I x y z v = I := by unfold imSet; rw [if_neg (by rw [hs]; decide)]
    rw [e]
    refine (img_set_no H x y z v v0 v1 hs).mono ?_
    rintro e w' ⟨rfl, rfl⟩
    exact ⟨rfl, H, World.grownBy.refl _ _⟩
set_option maxHeartbeats 400000 in
/-- An image read as a value. -/
theorem dref_any {w : World} {g h : Nat} {I : Im} (H : ImgAt w g h I) : Calls Tryz.prog 20 #[.pointer (some ⟨g, 0, none⟩)] w fun e w' => ∃ b cap, e = .returned (imV I b I.il.length cap) ∧ RowAt .u16 w' (some ⟨b, 0, none⟩) I.il ∧ w.heap.size ≤ b ∧ b < w'.heap.size ∧ I.il.length ≤ cap ∧ Below w.heap.size w w' := by
  unfold imV
  have HI := hide (H.below (below1 w (.cells #[.int .i64 0, .int .i64 0, .int .i64 0, .int .i64 0, .slice none 0 0] 52)))
  have CW := img_width HI.out
  have CH := img_height HI.out
  have CC := img_channels HI.out
  have CT := img_most HI.out
  have CS := img_samples HI.out
  obtain ⟨l0, l1⟩ := imOk_len H.ok
  obtain ⟨n, hn⟩ : ∃ n, I.il.length = n := ⟨_, rfl⟩
  have HN := hide hn
  rw [hn] at l0 l1 ⊢
  clear H HI hn
  generalize I.iw = a at *
  generalize I.ih = a2 at *
  generalize I.ic = a3 at *
  generalize I.it = a4 at *
  go_enter Tryz.func20, Tryz.ntmps20
  go_wp2_with (first
    | (go_at_call 17; (with_reducible refine CW.mono ?_); rintro e w1 ⟨rfl, rfl⟩)
    | (go_at_call 19; (with_reducible refine CH.mono ?_); rintro e w1 ⟨rfl, rfl⟩)
    | (go_at_call 29; (with_reducible refine CC.mono ?_); rintro e w1 ⟨rfl, rfl⟩)
    | (go_at_call 13; (with_reducible refine CT.mono ?_); rintro e w1 ⟨rfl, rfl⟩)
    | (go_at_call 14; (with_reducible refine CS.mono ?_); rintro e w1 ⟨v, rfl, own, b1⟩; obtain ⟨b', cp, rfl, hb0, hb1, hr2, hcp, _⟩ := own_row own HN.out l0; have HR2 := hide hr2; have c0 := cb b1 (b := w.heap.size) (o := 0) (v := .int .i64 0) (by simp) (by simp); have y0 := fb b1 (b := w.heap.size) (o := 0) (by simp) (by simp); have c1 := cb b1 (b := w.heap.size) (o := 1) (v := .int .i64 0) (by simp) (by simp); have y1 := fb b1 (b := w.heap.size) (o := 1) (by simp) (by simp); have c2 := cb b1 (b := w.heap.size) (o := 2) (v := .int .i64 0) (by simp) (by simp); have y2 := fb b1 (b := w.heap.size) (o := 2) (by simp) (by simp); have c3 := cb b1 (b := w.heap.size) (o := 3) (v := .int .i64 0) (by simp) (by simp); have y3 := fb b1 (b := w.heap.size) (o := 3) (by simp) (by simp); have c4 := cb b1 (b := w.heap.size) (o := 4) (v := .slice none 0 0) (by simp) (by simp); have y4 := fb b1 (b := w.heap.size) (o := 4) (by simp) (by simp)))
  have g0 : b' ≠ w.heap.size := by simp at hb0; omega
  have g1 : w.heap.size ≤ b' := by simp at hb0; omega
  have ne : some b' ≠ some w.heap.size := fun e => g0 (Option.some.inj e)
  have HF := hide (((((HR2.out.grown (grown_set _ w.heap.size 0 (.int .i64 a)) ne).grown (grown_set _ w.heap.size 1 (.int .i64 a2)) ne).grown (grown_set _ w.heap.size 2 (.int .i64 a3)) ne).grown (grown_set _ w.heap.size 3 (.int .i64 a4)) ne).grown (grown_set _ w.heap.size 4 (.slice (some ⟨b', 0, none⟩) n cp)) ne)
  have HB := hide (bs (bs (bs (bs (bs (bt (below1 w _) b1) (b := w.heap.size) (o := 0) (Nat.le_refl _) (.int .i64 a)) (b := w.heap.size) (o := 1) (Nat.le_refl _) (.int .i64 a2)) (b := w.heap.size) (o := 2) (Nat.le_refl _) (.int .i64 a3)) (b := w.heap.size) (o := 3) (Nat.le_refl _) (.int .i64 a4)) (b := w.heap.size) (o := 4) (Nat.le_refl _) (.slice (some ⟨b', 0, none⟩) n cp))
  have sz := HB.out.size
  have HZ := hide (show b' < w1.heap.size from hb1)
  clear CS HR2 hr2 own b1 hb0 hb1 sz
  exact bodyPost_ret (v := .agg #[.int .i64 a, .int .i64 a2, .int .i64 a3, .int .i64 a4, .slice (some ⟨b', 0, none⟩) n cp]) (by simp [results, Tryz.results20, go_sem, c0, c1, c2, c3, c4]) rfl ⟨b', cp, rfl, HF.out, g1, (by simp [World.setCell]; exact HZ.out), hcp, HB.out⟩
end Go.Proofs.YtaafhjngnjjcmaaGreatDoor
