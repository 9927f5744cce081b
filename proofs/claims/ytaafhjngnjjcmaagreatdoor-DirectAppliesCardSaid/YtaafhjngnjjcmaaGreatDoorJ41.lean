/- Parts, joined. -/
import Derived.Test.YtaafhjngnjjcmaaGreatDoorJ29
import Derived.Test.YtaafhjngnjjcmaaGreatDoorJ38
import Derived.Test.YtaafhjngnjjcmaaGreatDoorJ01
import Derived.Test.YtaafhjngnjjcmaaGreatDoorJ40
import Derived.Test.YtaafhjngnjjcmaaGreatDoorJ35
import Derived.Test.YtaafhjngnjjcmaaGreatDoorJ33
import Derived.Test.YtaafhjngnjjcmaaGreatDoorJ26
import Derived.Test.YtaafhjngnjjcmaaGreatDoorJ32
import Derived.IntWalk
import Derived.Deep.RegionHeld3
import Derived.Deep.LoopGhost
/- The statements' own small images: the example, a draw. -/
namespace Go.Proofs.YtaafhjngnjjcmaaGreatDoor
open Go.RowKit


theorem ex_code : codeF 2 1 3 255 = 0 := by decide
theorem ex_yes : setOk ⟨2, 1, 3, 255, List.replicate 6 0⟩ 1 0 2 255 = true := by decide
theorem ex_no : setOk ⟨2, 1, 3, 255, List.replicate 6 0⟩ 1 0 2 256 = false := by decide
theorem rlives9 (w : World) : Calls Tryz.prog 35 #[] w fun e w' => e = .returned (.bool true) ∧ Below w.heap.size w w' := by
  have CN := new_yes 2 1 3 255 ex_code
  rw [show ((2 : Int) * 1 * 3).toNat = 6 from rfl] at CN
  have E1 := hide ex_yes
  have E2 := hide ex_no
  obtain ⟨I, hI⟩ : ∃ I, (⟨2, 1, 3, 255, List.replicate 6 0⟩ : Im) = I := ⟨_, rfl⟩
  have hl : I.il.length = 6 := by rw [← hI]; rfl
  have HL := hide hl
  rw [hI] at CN E1 E2
  clear hI hl
  go_enter Tryz.func35, Tryz.ntmps35
  go_wp2_with (first
    | (go_at_call 46; (with_reducible refine (CN _).mono ?_); rintro e w1 ⟨v, rfl, ⟨g, h, rfl, gB, hB, hi⟩, b1⟩; have HI := hide hi; clear hi)
    | (go_at_call 14; (with_reducible refine (img_samples HI.out).mono ?_); rintro e w2 ⟨v2, rfl, own2, b2⟩; obtain ⟨ad2, cap2, rfl, _, _⟩ := own2.formn HL.out)
    | (go_at_call 30; (with_reducible refine (img_set_no (HI.out.below b2) 1 0 2 256 (by omega) (by omega) E2.out).mono ?_); rintro e w3 ⟨rfl, rfl⟩)
    | (go_at_call 30; (with_reducible refine (img_set_yes (HI.out.below b2) 1 0 2 255 (by omega) (by omega) E1.out).mono ?_); rintro e w4 ⟨rfl, hi4, g4⟩))
  go_ret
  exact ⟨rfl, (bt b1 b2).grown g4 ((bt b1 b2).size) (fun k hk => by have := Option.some.inj hk; omega)⟩
set_option maxHeartbeats 2000000 in
set_option maxRecDepth 100000 in
theorem draw_top (a b c t : Int) (xs : List Int) (ad : Option Addr) (cap : Nat) (w : World) (a0 : 0 ≤ a) (b0 : 0 ≤ b) (c0 : 0 ≤ c) (t0 : 0 ≤ t) (t1 : t ≤ 65535) (hr : RowAt .u16 w ad xs) (hx : ∀ x ∈ xs, 0 ≤ x ∧ x ≤ 65535) (hl : xs.length ≤ maxLen) :
    Calls Tryz.prog 38 #[.int .u16 a, .int .u16 b, .int .u16 c, .int .u16 t, .slice ad xs.length cap] w fun e w' => ∃ v I, e = .returned v ∧ ImgNew w.heap.size w' v I ∧ I.iw ≤ 20 ∧ I.ih ≤ 20 ∧ I.it = 1 + t % 65535 ∧ Below w.heap.size w w' := by
  obtain ⟨x, hx0, hx1⟩ : ∃ x, 1 + a % 20 = x ∧ (1 ≤ x ∧ x ≤ 20) := ⟨_, rfl, by omega⟩
  obtain ⟨y, hy0, hy1⟩ : ∃ y, 1 + b % 20 = y ∧ (1 ≤ y ∧ y ≤ 20) := ⟨_, rfl, by omega⟩
  obtain ⟨z, hz0, hz1⟩ : ∃ z, 1 + 2 * (c % 2) = z ∧ (z = 1 ∨ z = 3) := ⟨_, rfl, by omega⟩
  obtain ⟨top, ht0, ht1, ht2⟩ : ∃ top, 1 + t % 65535 = top ∧ 1 ≤ top ∧ top ≤ 65535 := ⟨_, rfl, by omega, by omega⟩
  have HTT := hide ht0.symm
  have m0 : 1 ≤ x * y ∧ x * y ≤ 400 := by
    have h1 := Int.mul_le_mul hx1.2 hy1.2 (by omega) (by omega)
    have h2 := (side_mul hx1.1 (show x ≤ 65536 by omega) hy1.1 (show y ≤ 65536 by omega)).1
    omega
  have m1 : 1 ≤ x * y * z ∧ x * y * z ≤ 1200 := by rcases hz1 with e | e <;> rw [e] <;> omega
  have hcd : codeF x y z top = 0 := codeF_of ht1 ht2 (by omega) (by omega) (by omega) (by omega) hz1 (by omega)
  obtain ⟨n, hn⟩ : ∃ n : Nat, (n : Int) = x * y * z := ⟨_, Int.toNat_of_nonneg (by omega)⟩
  obtain ⟨zs, MK, MO⟩ := make16 n (by omega)
  rw [hn] at MK
  have n0 : 1 ≤ n := by omega
  have n1 : n ≤ 1200 := by omega
  have HMO := hide MO
  have HR := hide hr
  have HX := hide hx
  have HN := hide hn
  have HCD := hide hcd
  obtain ⟨m, hm⟩ : ∃ m, xs.length = m := ⟨_, rfl⟩
  have HM := hide hm
  rw [hm] at hl ⊢
  have hl2 : m ≤ 9223372036854775807 := hl
  clear MO hr hx hn hcd hm hl
  go_enter Tryz.func38, Tryz.ntmps38
  go_wp2
  have O1 := HMO.out w w.heap.size (Nat.le_refl _)
  have HO1 := hide O1
  have HB1 := hide (ba (Below.refl w.heap.size w) (.cells zs 22))
  clear MK HMO O1
  generalize w.alloc (.cells zs 22) = w1 at *
  go_loopw [44] (fun i wr => ∃ k : Nat, k ≤ n ∧ i = .int .i64 (k : Int) ∧ (∃ L : List Int, L.length = n ∧ Hid (∀ q ∈ L, 0 ≤ q ∧ q ≤ top) ∧ OwnI .u16 22 wr w.heap.size (.slice (some ⟨w.heap.size, 0, none⟩) n n) L) ∧ Below w.heap.size w wr) (fun i _ => n - (intOf i).toNat)
  case atStart => exact ⟨0, by omega, rfl, ⟨_, by simp, (fun q hq => by obtain ⟨_, rfl⟩ := List.mem_replicate.1 hq; omega), HO1.out⟩, HB1.out⟩
  case round =>
    clear HO1 HB1
    obtain ⟨k, hk, rfl, ⟨L, hL, hq, ho⟩, hb⟩ := hrel
    have HO := hide ho
    have HB := hide hb
    have HL := hide hL
    clear ho hb hL
    by_cases hlt : k < n
    · by_cases hm0 : m = 0
      · subst hm0
        go_wp2
        go_roundw
        case rel => exact ⟨k + 1, by omega, by go_num, ⟨L, HL.out, hq, HO.out⟩, HB.out⟩
        case measure => simp [intOf]; omega
      · obtain ⟨j, hj, hjm⟩ : ∃ j : Nat, (j : Int) = (k : Int) % (m : Int) ∧ j < m := ⟨k % m, by omega, Nat.mod_lt _ (by omega)⟩
        obtain ⟨b2, off, rfl, hc⟩ := (HR.out).get (show j < xs.length by rw [HM.out]; exact hjm)
        have hu := allK_u16 HX.out (show j < xs.length by rw [HM.out]; exact hjm)
        generalize xs.getD j 0 = u at *
        obtain ⟨q, hq0, hq1⟩ : ∃ q : Int, (k : Int) / (m : Int) = q ∧ (0 ≤ q ∧ q ≤ 1200) := ⟨_, rfl, Int.ediv_nonneg (by omega) (by omega), by
          have := Int.ediv_le_self (m : Int) (show (0 : Int) ≤ (k : Int) by omega)
          omega⟩
        obtain ⟨r, hr0, hr1⟩ : ∃ r : Int, (u + q) % (top + 1) = r ∧ (0 ≤ r ∧ r ≤ top) := ⟨_, rfl, Int.emod_nonneg _ (by omega), by
          have := Int.emod_lt_of_pos (u + q) (show (0 : Int) < top + 1 by omega)
          omega⟩
        have e1 : (k : Int).tmod (m : Int) = (j : Int) := by rw [Int.tmod_eq_emod_of_nonneg (by omega)]; exact hj.symm
        have e1' : (k : Int) % (m : Int) = (j : Int) := hj.symm
        have e2 : (k : Int).tdiv (m : Int) = q := by rw [Int.tdiv_eq_ediv_of_nonneg (by omega)]; exact hq0
        have e2' : (k : Int) / (m : Int) = q := hq0
        have e3 : (u + q).tmod (top + 1) = r := by rw [Int.tmod_eq_emod_of_nonneg (by omega)]; exact hr0
        have e3' : (u + q) % (top + 1) = r := hr0
        have e4 : IntKind.i64.wrap (u + q) = u + q := IntWalk.i64_in _ (by omega)
        have e5 : IntKind.i64.wrap (top + 1) = top + 1 := IntWalk.i64_in _ (by omega)
        have e6 : IntKind.u16.wrap r = r := by rw [IntKind.wrap_u16]; omega
        have hc' := cb HB.out (cell_ltL hc) hc
        have hne : b2 ≠ w.heap.size := Nat.ne_of_lt (cell_ltL hc)
        have hne' : w.heap.size ≠ b2 := hne.symm
        have c1 := HO.out.cellAt HL.out hlt
        have z1 := HO.out.frozenAt HL.out k
        have mz : ((m : Int) == 0) = false := beq_eq_false_iff_ne.2 (by omega)
        have mz' : ((m : Int) != 0) = true := bne_iff_ne.2 (by omega)
        have hj0 : (0 : Int) ≤ (j : Int) := by omega
        have hj1 : (j : Int) < (m : Int) := by omega
        have H5 := hide (And.intro (show (L.set k r).length = n by rw [List.length_set]; exact HL.out) (And.intro (show ∀ q ∈ L.set k r, 0 ≤ q ∧ q ≤ top from fun q' h' => by
          rcases List.mem_or_eq_of_mem_set h' with h' | rfl
          · exact hq.out q' h'
          · exact hr1) (And.intro (HO.out.stored HL.out k r) (bs HB.out (Nat.le_refl _) (b := w.heap.size) (o := k) (.int .u16 r)))))
        clear hj hjm hq0 hr0 hm0
        go_upto_region 8 with fail
        go_region
        all_goals
          go_wp2
          go_roundw
          case rel => exact ⟨k + 1, by omega, by go_num, ⟨_, H5.out.1, H5.out.2.1, H5.out.2.2.1.below (bd (Below.refl _ _))⟩, bd H5.out.2.2.2⟩
          case measure => simp [intOf]; omega
    · obtain rfl : k = n := by omega
      obtain ⟨_, _, hv, _, _, hrow, _, _⟩ := own_row HO.out HL.out n0
      simp only [Value.slice.injEq, Option.some.injEq, Addr.mk.injEq, and_true, true_and] at hv
      obtain ⟨rfl, rfl⟩ := hv
      have hmx : mxTo L k ≤ top := by
        have := (mx_all (xs := L) (by rw [HL.out]; exact n0)).2 (fun x hx => (hq.out x hx).2)
        rw [HL.out] at this
        exact this
      have CO := fun W hr => of_yes x y z top HCD.out L k HL.out (some ⟨w.heap.size, 0, none⟩) k HN.out (fun x hx => ⟨(hq.out x hx).1, by have := (hq.out x hx).2; omega⟩) hmx W hr
      have HRW := hide hrow
      clear hrow HO
      go_wp2_with (go_at_call 33; (with_reducible refine (CO _ HRW.out).mono ?_); rintro e w2 ⟨v, rfl, ⟨g, h, rfl, gB, hB, hi⟩, b2⟩; have HI := hide hi; clear hi)
      have sB := HB.out.size
      go_ret
      exact ⟨_, _, rfl, ⟨g, h, rfl, by omega, by omega, HI.out⟩, hx1.2, hy1.2, HTT.out, bt HB.out b2⟩
theorem draw_any (a b c t : Int) (xs : List Int) (ad : Option Addr) (cap : Nat) (w : World) (a0 : 0 ≤ a) (b0 : 0 ≤ b) (c0 : 0 ≤ c) (t0 : 0 ≤ t) (t1 : t ≤ 65535) (hr : RowAt .u16 w ad xs) (hx : ∀ x ∈ xs, 0 ≤ x ∧ x ≤ 65535) (hl : xs.length ≤ maxLen) :
    Calls Tryz.prog 38 #[.int .u16 a, .int .u16 b, .int .u16 c, .int .u16 t, .slice ad xs.length cap] w fun e w' => ∃ v I, e = .returned v ∧ ImgNew w.heap.size w' v I ∧ I.iw ≤ 20 ∧ I.ih ≤ 20 ∧ Below w.heap.size w w' :=
  (draw_top a b c t xs ad cap w a0 b0 c0 t0 t1 hr hx hl).mono fun _ _ ⟨v, I, h1, h2, h3, h4, _, h6⟩ => ⟨v, I, h1, h2, h3, h4, h6⟩
end Go.Proofs.YtaafhjngnjjcmaaGreatDoor

/- What comes out: the chapter's example, and pictures, of the program. -/
namespace Go.Proofs.YtaafhjngnjjcmaaGreatDoor
open Go.RowKit

theorem row_one16 (w : World) (T : TypeId) (x : Int) : RowAt .u16 (w.alloc (.cells #[.int .u16 x] T)) (some ⟨w.heap.size, 0, none⟩) [x] := by
  refine .inr ⟨_, _, rfl, fun j hj => ?_⟩
  obtain rfl : j = 0 := by simpa using hj
  simp
theorem mod12 {a : Int} (_ : 0 ≤ a) (_ : a ≤ 65535) : 0 ≤ a % 12 ∧ a % 12 ≤ 65535 := by omega
set_option maxHeartbeats 2000000 in
set_option maxRecDepth 100000 in
theorem pdraw_any (q : Pic) (ad : Option Addr) (cap : Nat) (w : World) (hA : PicAt w q ad cap) (hF : PicFits q) :
    Calls Tryz.prog 10 #[picV q ad cap] w fun e w' => ∃ v I, e = .returned v ∧ ImgNew w.heap.size w' v I ∧ I.iw ≤ 20 ∧ I.ih ≤ 20 ∧ Below w.heap.size w w' := by
  obtain ⟨pw, ph, pc, pm, pl⟩ := q
  obtain ⟨⟨a0, a1⟩, ⟨b0, b1⟩, ⟨c0, c1⟩, ⟨t0, t1⟩, hx, hl⟩ := hF
  simp only at a0 a1 b0 b1 c0 c1 t0 t1 hx hl
  have ea : pw.tmod 12 = pw % 12 := Int.tmod_eq_emod_of_nonneg a0
  have eb : ph.tmod 12 = ph % 12 := Int.tmod_eq_emod_of_nonneg b0
  have ma := mod12 a0 a1
  have mb := mod12 b0 b1
  have wa : IntKind.u16.wrap (pw % 12) = pw % 12 := by rw [IntKind.wrap_u16]; omega
  have wb : IntKind.u16.wrap (ph % 12) = ph % 12 := by rw [IntKind.wrap_u16]; omega
  have CD := fun w' (b : Below w.heap.size w w') => draw_any (pw % 12) (ph % 12) pc pm pl ad cap w' ma.1 mb.1 c0 t0 t1 (hA.1.below b) (allU hx) hl
  have e12 : (12 : Int) ≠ 0 := by decide
  have B1 := hide (show Below w.heap.size w (w.alloc (.cells #[.int .u16 pw, .int .u16 ph, .int .u16 pc, .int .u16 pm, .slice ad pl.length cap] 25)) from below1 _ _)
  unfold picV
  clear hA hx
  go_enter Tryz.func10, Tryz.ntmps10
  go_wp2_with (go_at_call 38; (with_reducible refine (CD _ B1.out).mono ?_); rintro e w1 ⟨v, I, rfl, ⟨g, h, rfl, gB, hB, hi⟩, i0, i1, bb⟩; have HI := hide hi; clear hi)
  go_ret
  exact ⟨_, I, rfl, ⟨g, h, rfl, Nat.le_trans B1.out.size gB, Nat.le_trans B1.out.size hB, HI.out⟩, i0, i1, bt B1.out bb⟩
set_option maxHeartbeats 2000000 in
set_option maxRecDepth 100000 in
theorem lives15_any (w : World) (hk : OpK w) : Calls Tryz.prog 9 #[] w fun e w' => e = .returned (.bool true) ∧ Below w.heap.size w w' := by
  have K0 := hide (fun w' (b : Below w.heap.size w w') => opk_below _ _ hk b)
  have CO := fun (w' : World) (hr : RowAt .u16 w' (some ⟨w.heap.size, 0, none⟩) [7]) => of_yes 1 1 1 255 (by decide) [7] 1 rfl (some ⟨w.heap.size, 0, none⟩) 1 (by decide) (by simp) (by decide) w' hr
  have R0 := hide (show RowAt .u16 (w.alloc (.cells #[.int .u16 7] 22)) (some ⟨w.heap.size, 0, none⟩) [7] from row_one16 _ _ _)
  obtain ⟨e1, _, _⟩ := exB2_code
  have CM : ∀ w', Below w.heap.size w w' → Calls Tryz.prog 34 #[.agg #[.int .i64 1, .int .i64 0, .int .i64 0, .int .i64 2, .slice none 0 0, .slice none 0 0, .int .i64 0, .int .i64 0, .int .i64 0], .int .i64 1, .int .i64 1] w' fun e w'' => (∃ x y, e = .returned (.tuple #[.agg #[.pointer (some x), .pointer (some y), .int .i64 0], .int .i64 0]) ∧ Tab w'' (.pointer (some x)) 1 (stgOf exB2 1 1).lx ∧ Tab w'' (.pointer (some y)) 1 (stgOf exB2 1 1).ly) ∧ Below w'.heap.size w' w'' := fun w' b =>
    (omake_any exB2 none 0 none 0 1 1 w' (K0.out w' b) ⟨.inl rfl, .inl rfl, fun _ => rfl, fun _ => rfl⟩ exB2_fits (by unfold In64; omega) (by unfold In64; omega)).mono fun e w'' ⟨hA, hB⟩ => by
      rw [e1] at hA
      rcases hA with ⟨h0, _⟩ | ⟨_, x, y, he, tx, ty⟩
      · exact absurd rfl h0
      · obtain ⟨ax, rfl⟩ := tx.ptr
        obtain ⟨ay, rfl⟩ := ty.ptr
        exact ⟨⟨ax, ay, he, tx, ty⟩, hB⟩
  have sm : SmallS (stgOf exB2 1 1) := stg_small (s := 12) e1 (by unfold BigO exB2; decide) (by decide) (by decide) (by decide)
  have CA : ∀ w' g h x y, Below w.heap.size w w' → ImgAt w' g h im7 → Tab w' x 1 (stgOf exB2 1 1).lx → Tab w' y 1 (stgOf exB2 1 1).ly → Calls Tryz.prog 16 #[.pointer (some ⟨g, 0, none⟩), .agg #[x, y, .int .i64 0]] w' fun e w'' => (∃ v, e = .returned (.tuple #[v, .int .i64 0]) ∧ ImgNew w'.heap.size w'' v (applyF im7 (stgOf exB2 1 1))) ∧ Below w'.heap.size w' w'' := fun w' g h x y b H tx ty =>
    (dir_apply (S := stgOf exB2 1 1) (K0.out w' b) H tx ty sm).mono fun e w'' ⟨hA, hB⟩ => by
      rw [ex15_step] at hA
      rcases hA with ⟨_, v, he, hi⟩ | ⟨h0, _⟩
      · exact ⟨⟨v, he, hi⟩, hB⟩
      · exact absurd rfl h0
  have C12 := fun w' (b : Below w.heap.size w w') => olives opk_below (fun _ h => h.1) omake_any w' (K0.out w' b)
  have EV := hide ex15_seven
  obtain ⟨I7, hI7⟩ : ∃ I, (⟨1, 1, 1, 255, [7]⟩ : Im) = I := ⟨_, rfl⟩
  have e7 : im7 = I7 := by rw [← hI7]; rfl
  rw [hI7] at CO
  rw [e7] at CA EV
  generalize applyF I7 (stgOf exB2 1 1) = J at *
  generalize (stgOf exB2 1 1).lx = LX at *
  generalize (stgOf exB2 1 1).ly = LY at *
  clear hI7 e7 sm e1 hk
  have q1 : ∀ (a : Addr) (w : World), (binOp .neq 28 (.pointer (some a)) (.pointer none)).run Tryz.prog w = .ok (.bool true) w := fun a w => by kernel_rfl
  have q2 : ∀ (a : Addr) (w : World), (binOp .eql 28 (.pointer (some a)) (.pointer none)).run Tryz.prog w = .ok (.bool false) w := fun a w => by kernel_rfl
  go_enter Tryz.func9, Tryz.ntmps9
  go_wp2_with (first
    | (go_at_call 33; (with_reducible refine (CO _ R0.out).mono ?_); rintro e w1 ⟨v, rfl, ⟨g, h, rfl, gB, hB, hi⟩, b1⟩; have HI := hide hi; have B1 := hide (bt (below1 _ _) b1); clear hi)
    | (go_at_call 34; (with_reducible refine (CM _ B1.out).mono ?_); rintro e w2 ⟨⟨x, y, rfl, tx, ty⟩, b2⟩; have HX := hide tx; have HY := hide ty; have B2 := hide (bt B1.out b2); have HI2 := hide (HI.out.below b2); have S2 := hide (fun T => S3.new w2 T (.pointer (some x)) (.pointer (some y)) (.int .i64 0)); clear tx ty)
    | (go_at_call 35; (with_reducible refine (rlives9 _).mono ?_); rintro e w3 ⟨rfl, b3⟩; have B3 := hide (bt (ba B2.out _) b3); have S3' := hide ((S2.out _).below b3); have HI3 := hide ((HI2.out.below (below1 _ _)).below b3); have HX3 := hide ((HX.out.below (below1 _ _)).below b3); have HY3 := hide ((HY.out.below (below1 _ _)).below b3))
    | (go_at_call 36; (with_reducible refine (C12 _ B3.out).mono ?_); rintro e w4 ⟨rfl, b4⟩; have B4 := hide (bt B3.out b4); have S4 := S3'.out.below b4; obtain ⟨⟨s0, _⟩, ⟨s1, _⟩, ⟨s2, _⟩⟩ := S4; have HI4 := hide (HI3.out.below b4); have HX4 := hide (HX3.out.below b4); have HY4 := hide (HY3.out.below b4))
    | (go_at_call 16; (with_reducible refine (CA _ _ _ _ _ B4.out HI4.out HX4.out HY4.out).mono ?_); rintro e w5 ⟨⟨v5, rfl, ⟨g5, h5, rfl, g5B, h5B, hj⟩⟩, b5⟩; have HJ := hide hj; have B5 := hide (bt B4.out b5); clear hj)
    | (go_at_call 37; (with_reducible refine (img_at HJ.out 0 0 0).mono ?_); rintro e w6 ⟨rfl, d6⟩; have B6 := hide (bt B5.out d6.below); rw [EV.out]))
  go_ret
  exact ⟨rfl, B6.out⟩
end Go.Proofs.YtaafhjngnjjcmaaGreatDoor

/- What comes out: the document's Compose, out of what its Apply answers. -/
namespace Go.Proofs.YtaafhjngnjjcmaaGreatDoor
open Go.RowKit

/-- What the document's Apply answers. -/
def DApply15 : Prop := ∀ (I : Im) (S : Stg) (b cap gx px gy py : Nat) (w : World), ImOk I → RowAt .u16 w (some ⟨b, 0, none⟩) I.il → LinesAt w gx S.lx → LinesAt w gy S.ly → LinesOk S.lx → LinesOk S.ly → 1 ≤ S.lx.length → 1 ≤ S.ly.length → S.lx.length ≤ 65536 → S.ly.length ≤ 65536 → fitsF (S.lx.length : Int) (S.ly.length : Int) I.ic = true →
    Calls Tryz.prog 21 #[imV I b I.il.length cap, .agg #[.slice (some ⟨gx, 0, none⟩) S.lx.length px, .slice (some ⟨gy, 0, none⟩) S.ly.length py, .int .i64 S.fx, .int .i64 S.fy, .int .i64 S.sb]] w fun e w' => (∃ b' cap', e = .returned (imV (applyF I S) b' (applyF I S).il.length cap') ∧ RowAt .u16 w' (some ⟨b', 0, none⟩) (applyF I S).il ∧ w.heap.size ≤ b') ∧ Below w.heap.size w w'
/-- Lines that stages have. -/
def StgOk (S : Stg) : Prop := LinesOk S.lx ∧ LinesOk S.ly ∧ 1 ≤ S.lx.length ∧ 1 ≤ S.ly.length ∧ S.lx.length ≤ 65536 ∧ S.ly.length ≤ 65536
set_option maxHeartbeats 4000000 in
set_option maxRecDepth 100000 in
theorem dcompose15_any (CA : DApply15) (I : Im) (b cap : Nat) (ad : Option Addr) (n c : Nat) (F : Nat → Stg) (w : World) (hI : ImOk I) (hr : RowAt .u16 w (some ⟨b, 0, none⟩) I.il) (hs : StgsRef w ad n F) (hn : n ≤ 1000) (hF : ∀ j, j < n → StgOk (F j)) (hz : ∀ k, k ≤ n → compCode I (stgL F k) = 0) :
    Calls Tryz.prog 28 #[imV I b I.il.length cap, .slice ad n c] w fun e w' => (∃ b' cap', e = .returned (imV (composeF I (stgL F n)) b' (composeF I (stgL F n)).il.length cap') ∧ RowAt .u16 w' (some ⟨b', 0, none⟩) (composeF I (stgL F n)).il) ∧ Below w.heap.size w w' := by
  have HS := hide hs
  have HR := hide hr
  have HZ := hide hz
  have HCA := hide (fun (k : Nat) (hk : k < n) (b cap gx px gy py : Nat) (w' : World) (r : RowAt .u16 w' (some ⟨b, 0, none⟩) (composeF I (stgL F k)).il) (lx : LinesAt w' gx (F k).lx) (ly : LinesAt w' gy (F k).ly) => show Calls Tryz.prog 21 #[imV (composeF I (stgL F k)) b (composeF I (stgL F k)).il.length cap, .agg #[.slice (some ⟨gx, 0, none⟩) (F k).lx.length px, .slice (some ⟨gy, 0, none⟩) (F k).ly.length py, .int .i64 (F k).fx, .int .i64 (F k).fy, .int .i64 (F k).sb]] w' fun e w'' => (∃ b' cap', e = .returned (imV (composeF I (stgL F (k + 1))) b' (composeF I (stgL F (k + 1))).il.length cap') ∧ RowAt .u16 w'' (some ⟨b', 0, none⟩) (composeF I (stgL F (k + 1))).il ∧ w'.heap.size ≤ b') ∧ Below w'.heap.size w' w'' from by
    obtain ⟨o1, o2, o3, o4, o5, o6⟩ := hF k hk
    have z1 := hz k (by omega)
    have z2 := hz (k + 1) (by omega)
    rw [stgL_snoc, comp_snoc _ _ _ z1] at z2
    rw [stgL_snoc, compose_snoc]
    exact CA _ (F k) b cap gx px gy py w' (compose_ok hI _ z1).1 r lx ly o1 o2 o3 o4 o5 o6 (stepC_zero z2).2)
  have Z0 := hide (show composeF I (stgL F 0) = I from rfl)
  obtain ⟨W0, hW0⟩ : ∃ W0, (w.alloc (.cells #[.int .i64 I.iw, .int .i64 I.ih, .int .i64 I.ic, .int .i64 I.it, .slice (some ⟨b, 0, none⟩) I.il.length cap] 52)).alloc (.cells #[.int .i64 0, .int .i64 0, .int .i64 0, .int .i64 0, .slice none 0 0] 52) = W0 := ⟨_, rfl⟩
  have B0 := hide (show Below w.heap.size w W0 by rw [← hW0]; exact ba (below1 _ _) _)
  have M0 := hide (show S5 W0 w.heap.size (.int .i64 I.iw) (.int .i64 I.ih) (.int .i64 I.ic) (.int .i64 I.it) (.slice (some ⟨b, 0, none⟩) I.il.length cap) by rw [← hW0]; exact (S5.new _ _ _ _ _ _ _).below (below1 _ _))
  have R0 := hide (show S5 W0 (w.heap.size + 1) (.int .i64 0) (.int .i64 0) (.int .i64 0) (.int .i64 0) (.slice none 0 0) by rw [← hW0]; simpa using S5.new (w.alloc (.cells #[.int .i64 I.iw, .int .i64 I.ih, .int .i64 I.ic, .int .i64 I.it, .slice (some ⟨b, 0, none⟩) I.il.length cap] 52)) 52 (.int .i64 0) (.int .i64 0) (.int .i64 0) (.int .i64 0) (.slice none 0 0))
  have Z9 := hide (show W0.heap.size = w.heap.size + 1 + 1 by rw [← hW0]; simp)
  have NB0 := hide (show b ≠ w.heap.size + 1 by
    have hl : 0 < I.il.length := (by obtain ⟨a, _, b, _, c, _, _, _, d, _⟩ := hI; have h1 := Int.mul_pos (Int.mul_pos (show 0 < I.iw by omega) (show 0 < I.ih by omega)) (show 0 < I.ic by omega); omega)
    have := cell_ltL (hr.at hl)
    intro e
    rw [e] at this
    have h2 : w.heap.size + 1 < w.heap.size := this
    omega)
  clear hs hr hz hF hI CA
  unfold imV at HCA ⊢
  have HW0 := hide hW0
  clear hW0
  go_enter Tryz.func28, Tryz.ntmps28
  go_upto_region 1 with fail
  rw [HW0.out]
  clear HW0
  go_wp2
  go_loopg [9] n (fun r i wr => ∃ k : Nat, k + r = n ∧ i = .int .i64 (k : Int) ∧ (∃ b' cap', S5 wr w.heap.size (.int .i64 (composeF I (stgL F k)).iw) (.int .i64 (composeF I (stgL F k)).ih) (.int .i64 (composeF I (stgL F k)).ic) (.int .i64 (composeF I (stgL F k)).it) (.slice (some ⟨b', 0, none⟩) (composeF I (stgL F k)).il.length cap') ∧ RowAt .u16 wr (some ⟨b', 0, none⟩) (composeF I (stgL F k)).il ∧ b' ≠ w.heap.size + 1) ∧ S5 wr (w.heap.size + 1) (.int .i64 0) (.int .i64 0) (.int .i64 0) (.int .i64 0) (.slice none 0 0) ∧ Below w.heap.size w wr)
  case atStart => exact ⟨0, by omega, rfl, ⟨b, cap, M0.out, HR.out.below B0.out, NB0.out⟩, R0.out, B0.out⟩
  case round =>
    obtain ⟨k, hk, rfl, ⟨b', cap', hm, hrow, hnb⟩, hz5, hb⟩ := hrel
    have HK := hide hk
    have HM := hide hm
    have HROW := hide hrow
    have HZ5 := hide hz5
    have HB := hide hb
    clear hk hrow hb hz5
    by_cases hlt : k < n
    · obtain ⟨sb, rfl, gx, px, gy, py, d0, d1, d2, d3, d4, lx, ly⟩ := (HS.out.below HB.out).get hlt
      have CK := HCA.out k hlt b' cap' gx px gy py
      have HLT := hide (show w.heap.size < wr.heap.size from cell_ltL HM.out.1.1)
      have HLX := hide lx
      have HLY := hide ly
      clear lx ly
      obtain ⟨⟨iw, ih, ic, it, il⟩, hJ⟩ : ∃ J, composeF I (stgL F k) = J := ⟨_, rfl⟩
      obtain ⟨⟨iw2, ih2, ic2, it2, il2⟩, hJ2⟩ : ∃ J, composeF I (stgL F (k + 1)) = J := ⟨_, rfl⟩
      simp only [hJ, hJ2] at CK hm HROW
      have HJ2 := hide hJ2
      clear hJ hJ2 HM
      have HM := hide hm
      obtain ⟨⟨m0, _⟩, ⟨m1, _⟩, ⟨m2, _⟩, ⟨m3, _⟩, ⟨m4, _⟩⟩ := hm
      obtain ⟨nl, hnl⟩ : ∃ nl, il.length = nl := ⟨_, rfl⟩
      rw [hnl] at CK m4 HM
      clear hnl
      generalize (F k).fx = fx at *
      generalize (F k).fy = fy at *
      generalize (F k).sb = sbb at *
      obtain ⟨n1, hn1⟩ : ∃ n1, (F k).lx.length = n1 := ⟨_, rfl⟩
      obtain ⟨n2, hn2⟩ : ∃ n2, (F k).ly.length = n2 := ⟨_, rfl⟩
      rw [hn1] at CK d0
      rw [hn2] at CK d1
      obtain ⟨W1, hW1⟩ : ∃ W1, wr.alloc (.cells #[.slice (some ⟨gx, 0, none⟩) n1 px, .slice (some ⟨gy, 0, none⟩) n2 py, .int .i64 fx, .int .i64 fy, .int .i64 sbb] 57) = W1 := ⟨_, rfl⟩
      have B1 := hide (show Below wr.heap.size wr W1 by rw [← hW1]; exact below1 _ _)
      have T1 := hide (show S5 W1 wr.heap.size (.slice (some ⟨gx, 0, none⟩) n1 px) (.slice (some ⟨gy, 0, none⟩) n2 py) (.int .i64 fx) (.int .i64 fy) (.int .i64 sbb) by rw [← hW1]; exact S5.new _ _ _ _ _ _ _)
      have M1 := HM.out.below B1.out
      have CK1 := CK W1 (HROW.out.below B1.out) (HLX.out.below B1.out) (HLY.out.below B1.out)
      have HW1 := hide hW1
      clear hW1 hn1 hn2 CK
      go_upto_region 4 with fail
      rw [HW1.out]
      clear m0 m1 m2 m3 m4 HW1
      obtain ⟨⟨m0, _⟩, ⟨m1, _⟩, ⟨m2, _⟩, ⟨m3, _⟩, ⟨m4, _⟩⟩ := M1
      obtain ⟨⟨t0, _⟩, ⟨t1, _⟩, ⟨t2, _⟩, ⟨t3, _⟩, ⟨t4, _⟩⟩ := T1.out
      have M1 := hide (HM.out.below B1.out)
      go_wp2_with (go_at_call 21; (with_reducible refine CK1.mono ?_); rintro e w2 ⟨⟨b2, cap2, rfl, hr2, hb2⟩, bb2⟩; have HR2 := hide hr2; have HB2 := hide hb2; have HZ2 := hide ((HZ5.out.below B1.out).below bb2); have KB := hide bb2; have M2 := hide (M1.out.below bb2); obtain ⟨⟨p0, q0⟩, ⟨p1, q1⟩, ⟨p2, q2⟩, ⟨p3, q3⟩, ⟨p4, q4⟩⟩ := M2.out; clear hr2 bb2 hb2)
      have g5 := ((((grown_set w2 w.heap.size 0 (.int .i64 iw2)).trans (grown_set _ w.heap.size 1 (.int .i64 ih2))).trans (grown_set _ w.heap.size 2 (.int .i64 ic2))).trans (grown_set _ w.heap.size 3 (.int .i64 it2))).trans (grown_set _ w.heap.size 4 (.slice (some ⟨b2, 0, none⟩) il2.length cap2))
      have hsz := B1.out.size
      have hsz2 := HB.out.size
      have hw9 := cell_ltL p0
      have nb : (some b2 : Option Nat) ≠ some w.heap.size := fun e => by have := Option.some.inj e; have := HB2.out; have := HLT.out; omega
      have F5 := hide (S5.fill M2.out (.int .i64 iw2) (.int .i64 ih2) (.int .i64 ic2) (.int .i64 it2) (.slice (some ⟨b2, 0, none⟩) il2.length cap2))
      have FR := hide (HR2.out.grown g5 nb)
      have FZ := hide (HZ2.out.grown g5 (fun e => by have := Option.some.inj e; omega))
      have FB := hide (below_fill (bt (bt HB.out B1.out) KB.out) (Nat.le_refl _) (.int .i64 iw2) (.int .i64 ih2) (.int .i64 ic2) (.int .i64 it2) (.slice (some ⟨b2, 0, none⟩) il2.length cap2))
      have NB2 := hide (show b2 ≠ w.heap.size + 1 by have h1 := HB2.out; have h2 := cell_ltL HZ5.out.1.1; have h3 := B1.out.size; have h4 : w.heap.size + 1 < wr.heap.size := h2; omega)
      go_roundg (gk - 1)
      case measure => have := HK.out; omega
      case rel => exact ⟨k + 1, by have := HK.out; omega, by go_num, ⟨b2, cap2, (by rw [HJ2.out]; exact F5.out), (by rw [HJ2.out]; exact FR.out), NB2.out⟩, FZ.out, FB.out⟩
    · obtain rfl : n = k := by have := HK.out; omega
      obtain ⟨⟨iw, ih, ic, it, il⟩, hJ⟩ : ∃ J, composeF I (stgL F n) = J := ⟨_, rfl⟩
      rw [hJ] at hm HROW
      have HJ := hide hJ
      obtain ⟨⟨m0, _⟩, ⟨m1, _⟩, ⟨m2, _⟩, ⟨m3, _⟩, ⟨m4, _⟩⟩ := hm
      have hz5 := HZ5.out
      obtain ⟨⟨z0, y0⟩, ⟨z1, y1⟩, ⟨z2, y2⟩, ⟨z3, y3⟩, ⟨z4, y4⟩⟩ := HZ5.out
      have g5 := ((((grown_set wr (w.heap.size + 1) 0 (.int .i64 iw)).trans (grown_set _ (w.heap.size + 1) 1 (.int .i64 ih))).trans (grown_set _ (w.heap.size + 1) 2 (.int .i64 ic))).trans (grown_set _ (w.heap.size + 1) 3 (.int .i64 it))).trans (grown_set _ (w.heap.size + 1) 4 (.slice (some ⟨b', 0, none⟩) il.length cap'))
      have FB := hide (below_fill HB.out (Nat.le_succ _) (.int .i64 iw) (.int .i64 ih) (.int .i64 ic) (.int .i64 it) (.slice (some ⟨b', 0, none⟩) il.length cap'))
      have F5 := hide (S5.fill hz5 (.int .i64 iw) (.int .i64 ih) (.int .i64 ic) (.int .i64 it) (.slice (some ⟨b', 0, none⟩) il.length cap'))
      have HG5 := hide g5
      clear hJ hlt g5 hz5
      go_wp2
      obtain ⟨⟨v0, _⟩, ⟨v1, _⟩, ⟨v2, _⟩, ⟨v3, _⟩, ⟨v4, _⟩⟩ := F5.out
      have nb : (some b' : Option Nat) ≠ some (w.heap.size + 1) := fun e => hnb (Option.some.inj e)
      exact bodyPost_ret (v := .agg #[.int .i64 iw, .int .i64 ih, .int .i64 ic, .int .i64 it, .slice (some ⟨b', 0, none⟩) il.length cap']) (by simp [results, Tryz.results28, go_sem, v0, v1, v2, v3, v4]) rfl ⟨⟨b', ⟨cap', (by rw [HJ.out])⟩, (by rw [HJ.out]; exact HROW.out.grown HG5.out nb)⟩, FB.out⟩
end Go.Proofs.YtaafhjngnjjcmaaGreatDoor
