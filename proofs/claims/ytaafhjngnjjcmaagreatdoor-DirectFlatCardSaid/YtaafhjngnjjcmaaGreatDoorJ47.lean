/- Parts, joined. -/
import Derived.Test.YtaafhjngnjjcmaaGreatDoorJ41
import Derived.Test.YtaafhjngnjjcmaaGreatDoorJ45
import Derived.Test.YtaafhjngnjjcmaaGreatDoorJ46
import Derived.Test.YtaafhjngnjjcmaaGreatDoorJ43
/- What comes out: the law of one colour. -/
namespace Go.Proofs.YtaafhjngnjjcmaaGreatDoor
open Go.RowKit

/-- An image whose first k samples are v. -/
def fillI (I : Im) (v : Int) (k : Nat) : Im := ⟨I.iw, I.ih, I.ic, I.it, List.replicate k v ++ I.il.drop k⟩
theorem fillI_zero (I : Im) (v : Int) : fillI I v 0 = I := by unfold fillI; simp
theorem fillI_step {I : Im} {v : Int} (hI : ImOk I) (hv : v ≤ I.it) {W H C x y c : Nat} (hw : I.iw = (W : Int)) (hh : I.ih = (H : Int)) (hc : I.ic = (C : Int)) (x1 : x < W) (y1 : y < H) (c1 : c < C) : imSet (fillI I v ((y * W + x) * C + c)) (x : Int) (y : Int) (c : Int) v = fillI I v ((y * W + x) * C + c + 1) := by
  have hin := place_in (a := (W : Int)) (b := (H : Int)) (c := (C : Int)) (Int.natCast_nonneg x) (Int.ofNat_lt.2 x1) (Int.natCast_nonneg y) (Int.ofNat_lt.2 y1) (Int.natCast_nonneg c) (Int.ofNat_lt.2 c1)
  have hl : (I.il.length : Int) = (W : Int) * H * C := by
    have := hI.2.2.2.2.2.2.2.2.1
    rw [hw, hh, hc] at this
    exact this
  have hp : placeF (W : Int) (C : Int) (x : Int) (y : Int) (c : Int) = (((y * W + x) * C + c : Nat) : Int) := by
    unfold placeF
    rw [Int.natCast_add, Int.natCast_mul, Int.natCast_add, Int.natCast_mul]
  have hlt : (y * W + x) * C + c < I.il.length := by
    have := hin.2.2.2.2.2
    rw [hp, ← hl] at this
    exact Int.ofNat_lt.1 this
  have hs : setOk (fillI I v ((y * W + x) * C + c)) (x : Int) (y : Int) (c : Int) v = true := by
    unfold setOk fillI
    rw [Bool.and_eq_true]
    refine ⟨hasF_iff.2 ⟨Int.natCast_nonneg x, ?_, Int.natCast_nonneg y, ?_, Int.natCast_nonneg c, ?_⟩, decide_eq_true hv⟩
    · show (x : Int) < I.iw
      omega
    · show (y : Int) < I.ih
      omega
    · show (c : Int) < I.ic
      omega
  unfold imSet
  rw [if_pos hs]
  have hk : (imPlace (fillI I v ((y * W + x) * C + c)) (x : Int) (y : Int) (c : Int)).toNat = (y * W + x) * C + c := by
    show (placeF I.iw I.ic (x : Int) (y : Int) (c : Int)).toNat = _
    rw [hw, hc, hp]
    exact Int.toNat_natCast _
  rw [hk]
  generalize (y * W + x) * C + c = k at *
  unfold fillI
  simp only [Im.mk.injEq, true_and]
  rw [List.set_append_right _ _ (by rw [List.length_replicate]; exact Nat.le_refl _), List.length_replicate, Nat.sub_self, List.drop_eq_getElem_cons hlt, List.set_cons_zero, List.replicate_succ', List.append_assoc]
  rfl
theorem fillI_flat {I : Im} {v : Int} {k : Nat} (h : I.il.length = k) : FlatI (fillI I v k) v := by
  intro x hx
  have e : (fillI I v k).il = List.replicate k v := by
    show List.replicate k v ++ I.il.drop k = _
    rw [List.drop_eq_nil_of_le (by omega), List.append_nil]
  rw [e] at hx
  exact (List.mem_replicate.1 hx).2
theorem stgs_kept {w w' : World} {b n g h : Nat} {F : Nat → Stg} {I : Im} (hs : StgsAt w (some ⟨b, 0, none⟩) n F) (H : ImgAt w g h I) (hg : w.grownBy w' (some h)) : StgsAt w' (some ⟨b, 0, none⟩) n F := by
  have hl := (imOk_len H.ok).1
  obtain ⟨_, _, _, _, _, _, hr, _⟩ := H
  have c0 := hr.at (show 0 < I.il.length by omega)
  rw [Nat.add_zero] at c0
  rcases hs with hs | ⟨b', off, e, hs⟩
  · exact .inl hs
  · have e1 := Option.some.inj e
    simp only [Addr.mk.injEq] at e1
    obtain ⟨rfl, rfl, _⟩ := e1
    by_cases hn : n = 0
    · exact .inl hn
    · have ne : some b ≠ some h := by
        intro e2
        obtain rfl := Option.some.inj e2
        obtain ⟨x, y, d0, _, _, tx, _⟩ := hs 0 (by omega)
        obtain ⟨ax, rfl⟩ := tx.ptr
        rw [Nat.zero_mul, Nat.add_zero, c0] at d0
        cases d0
      have hp : ∀ b x, some h = some b → w.cell? ⟨b, 0, none⟩ ≠ some (.int .i64 x) := by
        intro b x e2 e3
        obtain rfl := Option.some.inj e2
        rw [c0] at e3
        cases e3
      refine .inr ⟨b, 0, rfl, fun j hj => ?_⟩
      obtain ⟨x, y, d0, d1, d2, tx, ty⟩ := hs j hj
      exact ⟨x, y, cg hg ne d0, cg hg ne d1, cg hg ne d2, tx.kept hg hp, ty.kept hg hp⟩
/-- What stays while the image is filled. -/
structure FSt (w0 w : World) (g h b n : Nat) (F : Nat → Stg) (J : Im) : Prop where
  img : ImgAt w g h J
  stg : StgsAt w (some ⟨b, 0, none⟩) n F
  bel : Below w0.heap.size w0 w
theorem FSt.set {w0 w w' : World} {g h b n : Nat} {F : Nat → Stg} {J J' : Im} (D : FSt w0 w g h b n F J) (hh : w0.heap.size ≤ h) (H : ImgAt w' g h J') (hg : w.grownBy w' (some h)) : FSt w0 w' g h b n F J' :=
  ⟨H, stgs_kept D.stg D.img hg, D.bel.grown hg D.bel.size (fun k hk => by have := Option.some.inj hk; omega)⟩
set_option maxHeartbeats 4000000 in
set_option maxRecDepth 100000 in
theorem law_DirectFlat (q : Pic) (pd : Option Addr) (pc : Nat) (L : List Opr) (ad : Option Addr) (cap : Nat) (v : Int) (w : World) (hk : OpK w) (hp : PicAt w q pd pc ∧ PicFits q) (hr : OpsAt w ad L ∧ OpsFit L) (h1 : L.length ≤ maxLen) (hz : ad = none → cap = 0) (hv : 0 ≤ v ∧ v ≤ 65535) :
    Calls Tryz.prog 7 #[picV q pd pc, .slice ad L.length cap, .int .u16 v] w fun e w' => e = .returned (.bool true) ∧ Below w.heap.size w w' := by
  obtain ⟨n, hn⟩ : ∃ n, L.length = n := ⟨_, rfl⟩
  have K0 := hide (fun w' (b : Below w.heap.size w w') => opk_below _ _ hk b)
  have CL := fun w' (b : Below w.heap.size w w') => lives15_any w' (K0.out w' b)
  have CD := fun w' (b : Below w.heap.size w w') => pdraw_any q pd pc w' (hp.1.below b) hp.2
  have CN := hide (fun w' (b : Below w.heap.size w w') g h I (H : ImgAt w' g h I) hy => stages_no hn (hn ▸ h1) hz (K0.out w' b) (hr.1.below b) hr.2 H hy)
  have CY := hide (fun w' (b : Below w.heap.size w w') g h I (H : ImgAt w' g h I) hy => stages_own (cap := cap) hn (hn ▸ h1) (K0.out w' b) (hr.1.below b) hr.2 H hy)
  have GD := hide (fun I (hI : ImOk I) i0 i1 hy => stages_good (L := L) hn hI i0 i1 hy)
  have GO := hide (fun (a b c : Int) (hz : allCode L a b c = 0) => hn ▸ stgs_one hz)
  rw [hn] at h1 ⊢
  have HN := hide hn
  have q1 : ∀ (a : Addr) (w : World), (binOp .neq 28 (.pointer (some a)) (.pointer none)).run Tryz.prog w = .ok (.bool true) w := fun a w => by kernel_rfl
  have q2 : ∀ (a : Addr) (w : World), (binOp .eql 28 (.pointer (some a)) (.pointer none)).run Tryz.prog w = .ok (.bool false) w := fun a w => by kernel_rfl
  obtain ⟨pw, ph, pcc, pm, pl⟩ := q
  have P0 := hide (S5.new w 25 (.int .u16 pw) (.int .u16 ph) (.int .u16 pcc) (.int .u16 pm) (.slice pd pl.length pc))
  have B0 := hide (below1 w (.cells #[.int .u16 pw, .int .u16 ph, .int .u16 pcc, .int .u16 pm, .slice pd pl.length pc] 25))
  unfold picV at CD ⊢
  clear hk hp hr hz hn
  go_enter Tryz.func7, Tryz.ntmps7
  go_upto_region 4 with (first
    | (go_at_call 9; (with_reducible refine (CL _ B0.out).mono ?_); rintro e w1 ⟨rfl, b1⟩; have B1 := hide (bt B0.out b1); obtain ⟨⟨p0, _⟩, ⟨p1, _⟩, ⟨p2, _⟩, ⟨p3, _⟩, ⟨p4, _⟩⟩ := P0.out.below b1)
    | (go_at_call 10; (with_reducible refine (CD _ B1.out).mono ?_); rintro e w2 ⟨v2, I, rfl, ⟨g, h, rfl, gB, hB, hi⟩, i0, i1, b2⟩; have HI := hide hi; have B2 := hide (bt B1.out b2); have hB0 := Nat.le_trans B1.out.size hB; clear hi))
  by_cases hy : allCode L I.iw I.ih I.ic = 0 ∧ n ≤ 4 ∧ bigB 12 L n = false
  · have HIO := hide HI.out.ok
    have ONE := hide (GO.out _ _ _ hy.1)
    have CS := CY.out w2 B2.out g h I HI.out hy
    have HYY := hide hy
    obtain ⟨_, h4, _⟩ := hy
    obtain ⟨F, hFF⟩ : ∃ F, stgAt L I.iw I.ih = F := ⟨_, rfl⟩
    have GD2 := hide (fun (J : Im) (hJ : ImOk J) (e0 : J.iw = I.iw) (e1 : J.ih = I.ih) (e2 : J.ic = I.ic) => show (∀ j, j < n → SmallS (F j)) ∧ ∀ k, k ≤ n → compCode J (stgL F k) = 0 from by
      have := GD.out J hJ (by omega) (by omega) (by rw [e0, e1, e2]; exact HYY.out)
      rw [e0, e1, hFF] at this
      exact this)
    rw [hFF] at CS ONE
    clear CN CY GO GD hFF HYY
    obtain ⟨a0, _, b0, _, c0, t0, t1, _, hlen, _⟩ := HIO.out
    obtain ⟨W, hW⟩ : ∃ W : Nat, I.iw = (W : Int) := ⟨I.iw.toNat, by omega⟩
    obtain ⟨H, hH⟩ : ∃ H : Nat, I.ih = (H : Int) := ⟨I.ih.toNat, by omega⟩
    obtain ⟨C, hC⟩ : ∃ C : Nat, I.ic = (C : Int) := ⟨I.ic.toNat, by omega⟩
    obtain ⟨T, hT⟩ : ∃ T, I.it = T := ⟨_, rfl⟩
    obtain ⟨one, h1o⟩ : ∃ one, v % (T + 1) = one := ⟨_, rfl⟩
    have o0 : 0 ≤ one := h1o ▸ Int.emod_nonneg _ (by omega)
    have o1 : one < T + 1 := h1o ▸ Int.emod_lt_of_pos _ (by omega)
    have eR : v.tmod (T + 1) = one := by rw [Int.tmod_eq_emod_of_nonneg hv.1, h1o]
    rw [hT] at t0 t1
    have n0 : T + 1 ≠ 0 := by omega
    have eW : IntKind.i64.wrap v = v := by rw [IntKind.wrap_i64]; omega
    have eT : IntKind.i64.wrap (T + 1) = T + 1 := by rw [IntKind.wrap_i64]; omega
    have eO : IntKind.i64.wrap one = one := by rw [IntKind.wrap_i64]; omega
    have eU : IntKind.u16.wrap one = one := by rw [IntKind.wrap_u16]; omega
    have C0 := hide (fillI_zero I one)
    have STEP := hide (fun (x y c : Nat) (x1 : x < W) (y1 : y < H) (c1 : c < C) => fillI_step HIO.out (v := one) (by omega) hW hH hC x1 y1 c1)
    have FULL := hide (show FlatI (fillI I one (H * W * C)) one from fillI_flat (by
      have : (I.il.length : Int) = ((H * W * C : Nat) : Int) := by rw [hlen, hW, hH, hC, Int.natCast_mul, Int.natCast_mul, Int.mul_comm (W : Int)]
      omega))
    have CMW := hide (fun w' k (D : ImgAt w' g h (fillI I one k)) => show Calls Tryz.prog 17 #[.pointer (some ⟨g, 0, none⟩)] w' fun e w'' => e = .returned (.int .i64 (W : Int)) ∧ w' = w'' from by
      have := img_width D
      rw [show (fillI I one k).iw = (W : Int) from hW] at this
      exact this)
    have CMH := hide (fun w' k (D : ImgAt w' g h (fillI I one k)) => show Calls Tryz.prog 19 #[.pointer (some ⟨g, 0, none⟩)] w' fun e w'' => e = .returned (.int .i64 (H : Int)) ∧ w' = w'' from by
      have := img_height D
      rw [show (fillI I one k).ih = (H : Int) from hH] at this
      exact this)
    have CMC := hide (fun w' k (D : ImgAt w' g h (fillI I one k)) => show Calls Tryz.prog 29 #[.pointer (some ⟨g, 0, none⟩)] w' fun e w'' => e = .returned (.int .i64 (C : Int)) ∧ w' = w'' from by
      have := img_channels D
      rw [show (fillI I one k).ic = (C : Int) from hC] at this
      exact this)
    have CMT := hide (fun w' k (D : ImgAt w' g h (fillI I one k)) => show Calls Tryz.prog 13 #[.pointer (some ⟨g, 0, none⟩)] w' fun e w'' => e = .returned (.int .i64 T) ∧ w' = w'' from by
      have := img_most D
      rw [show (fillI I one k).it = T from hT] at this
      exact this)
    go_upto_region 9 with (first
      | (go_at_call 11; (with_reducible refine CS.mono ?_); rintro e w3 ⟨⟨b3, cap3, ad4, cap4, rfl, hs3, _⟩, bb3⟩; have B3 := hide (bt B2.out bb3); have D3 := hide (show FSt w w3 g h b3 n F (fillI I one 0) from C0.out.symm ▸ ⟨HI.out.below bb3, hs3, bt B2.out bb3⟩); clear hs3)
      | (go_at_call 13; (with_reducible refine (CMT.out _ _ D3.out.img).mono ?_); rintro e w9 ⟨rfl, rfl⟩)
      | (go_at_call 19; (with_reducible refine (CMH.out _ _ D3.out.img).mono ?_); rintro e w9 ⟨rfl, rfl⟩))
    go_loopg [43] H (fun r i wr => ∃ y : Nat, y + r = H ∧ i = .int .i64 (y : Int) ∧ FSt w wr g h b3 n F (fillI I one (y * W * C)))
    case atStart => exact ⟨0, by omega, rfl, by rw [Nat.zero_mul, Nat.zero_mul]; exact D3.out⟩
    case round =>
      obtain ⟨y, hyy, rfl, hd⟩ := hrel
      have HD := hide hd
      have HY := hide hyy
      clear hd hyy
      obtain ⟨G, hG⟩ : ∃ G, G = gk := ⟨_, rfl⟩
      subst hG
      by_cases hlt : y < H
      · go_wp2_with (go_at_call 17; (with_reducible refine (CMW.out _ _ HD.out.img).mono ?_); rintro e w9 ⟨rfl, rfl⟩)
        go_loopg [48] W (fun r i wr => ∃ x : Nat, x + r = W ∧ i = .int .i64 (x : Int) ∧ FSt w wr g h b3 n F (fillI I one ((y * W + x) * C)))
        case atStart => exact ⟨0, by omega, rfl, HD.out⟩
        case round =>
          obtain ⟨x, hxx, rfl, hd⟩ := hrel
          have HD2 := hide hd
          have HX := hide hxx
          clear hd hxx
          obtain ⟨G2, hG2⟩ : ∃ G2, G2 = gk := ⟨_, rfl⟩
          subst hG2
          by_cases hlt2 : x < W
          · go_wp2_with (go_at_call 29; (with_reducible refine (CMC.out _ _ HD2.out.img).mono ?_); rintro e w9 ⟨rfl, rfl⟩)
            go_loopg [53] C (fun r i wr => ∃ c : Nat, c + r = C ∧ i = .int .i64 (c : Int) ∧ FSt w wr g h b3 n F (fillI I one ((y * W + x) * C + c)))
            case atStart => exact ⟨0, by omega, rfl, HD2.out⟩
            case round =>
              obtain ⟨c, hcc, rfl, hd⟩ := hrel
              have HD3 := hide hd
              have HC := hide hcc
              clear hd hcc
              by_cases hlt3 : c < C
              · have CSET := img_set_any HD3.out.img (x : Int) (y : Int) (c : Int) one o0 (by omega)
                rw [STEP.out x y c hlt2 hlt hlt3] at CSET
                go_wp2_with (go_at_call 30; (with_reducible refine CSET.mono ?_); rintro e w4 ⟨rfl, hi4, g4⟩; have D4 := hide (HD3.out.set hB0 hi4 g4); clear hi4 g4)
                go_roundg (gk - 1)
                case measure => have := HC.out; omega
                case rel => exact ⟨c + 1, by have := HC.out; omega, by go_num, D4.out⟩
              · obtain rfl : C = c := by have := HC.out; omega
                have e1 := Nat.succ_mul (y * W + x) C
                have QF := HD3.out
                rw [← e1] at QF
                have QF2 := hide QF
                clear QF e1 hlt3
                go_wp2
                go_roundg (G2 - 1)
                case measure => have := HX.out; omega
                case rel => exact ⟨x + 1, by have := HX.out; omega, by go_num, QF2.out⟩
          · obtain rfl : W = x := by have := HX.out; omega
            have e1 := Nat.succ_mul y W
            have QF := HD2.out
            rw [← e1] at QF
            have QF2 := hide QF
            clear QF e1 hlt2
            go_wp2
            go_roundg (G - 1)
            case measure => have := HY.out; omega
            case rel => exact ⟨y + 1, by have := HY.out; omega, by go_num, QF2.out⟩
      · obtain rfl : H = y := by have := HY.out; omega
        have HI4 := hide HD.out.img
        have HS4 := hide HD.out.stg
        have B4 := hide HD.out.bel
        have FU := FULL.out
        have KM := CMT.out wr (H * W * C)
        have KC := CMC.out wr (H * W * C)
        obtain ⟨Q, hQ⟩ : ∃ Q, fillI I one (H * W * C) = Q := ⟨_, rfl⟩
        have q0 : Q.iw = I.iw := by rw [← hQ]; rfl
        have q3 : Q.ih = I.ih := by rw [← hQ]; rfl
        have q4 : Q.ic = I.ic := by rw [← hQ]; rfl
        have q5 : Q.it = T := by rw [← hQ]; exact hT
        rw [hQ] at HI4 FU KM KC
        obtain ⟨sm, cz⟩ := GD2.out Q HI4.out.ok q0 q3 q4
        have CZN := cz n (Nat.le_refl _)
        have FL := compose_flat HI4.out.ok FU o0 (by omega) _ CZN ONE.out
        obtain ⟨zok, zc, zt⟩ := compose_ok HI4.out.ok _ CZN
        have CP : Calls Tryz.prog 12 #[.pointer (some ⟨g, 0, none⟩), .slice (some ⟨b3, 0, none⟩) n cap3] wr fun e w'' => (∃ v, e = .returned (.tuple #[v, .int .i64 0]) ∧ ImgNew wr.heap.size w'' v (composeF Q (stgL F n))) ∧ Below wr.heap.size wr w'' :=
          (dir_compose (K0.out wr B4.out) HI4.out HS4.out h1 sm).mono fun e w'' ⟨hA, hB⟩ => by
            rw [CZN] at hA
            rcases hA with ⟨_, v, he, hi⟩ | ⟨h0, _⟩
            · exact ⟨⟨v, he, hi⟩, hB⟩
            · exact absurd rfl h0
        obtain ⟨Z, hZ⟩ : ∃ Z, composeF Q (stgL F n) = Z := ⟨_, rfl⟩
        rw [hZ] at FL zok zc zt CP
        obtain ⟨N, hN⟩ : ∃ N, Z.il.length = N := ⟨_, rfl⟩
        have NL := imOk_len zok
        rw [hN] at NL
        have HNL := hide NL
        have HNN := hide hN
        have ZM := hide (show ∀ k, k < N → Z.il.getD k 0 = one from fun k hk => by
          rw [List.getD_eq_getElem?_getD, List.getElem?_eq_getElem (show k < Z.il.length by omega)]
          exact FL _ (List.getElem_mem _))
        have CZT := hide (fun w' g h (D : ImgAt w' g h Z) => show Calls Tryz.prog 13 #[.pointer (some ⟨g, 0, none⟩)] w' fun e w'' => e = .returned (.int .i64 T) ∧ w' = w'' from by
          have := img_most D
          rw [show Z.it = T from zt.trans q5] at this
          exact this)
        have CZC := hide (fun w' g h (D : ImgAt w' g h Z) => show Calls Tryz.prog 29 #[.pointer (some ⟨g, 0, none⟩)] w' fun e w'' => e = .returned (.int .i64 (C : Int)) ∧ w' = w'' from by
          have := img_channels D
          rw [show Z.ic = (C : Int) from zc.trans (q4.trans hC)] at this
          exact this)
        have CQT := hide (fun w' (D : ImgAt w' g h Q) => show Calls Tryz.prog 13 #[.pointer (some ⟨g, 0, none⟩)] w' fun e w'' => e = .returned (.int .i64 T) ∧ w' = w'' from by
          have := img_most D
          rw [q5] at this
          exact this)
        have CQC := hide (fun w' (D : ImgAt w' g h Q) => show Calls Tryz.prog 29 #[.pointer (some ⟨g, 0, none⟩)] w' fun e w'' => e = .returned (.int .i64 (C : Int)) ∧ w' = w'' from by
          have := img_channels D
          rw [q4.trans hC] at this
          exact this)
        clear hZ hQ sm cz CZN FL zok zc zt q0 q3 q4 q5 FU KM KC hlt HD STEP FULL C0 GD2 ONE D3
        go_upto_region 25 with (first
          | (go_at_call 12; (with_reducible refine CP.mono ?_); rintro e w5 ⟨⟨v5, rfl, ⟨g5, h5, rfl, g5B, h5B, hj⟩⟩, b5⟩; have B5 := hide (bt B4.out b5); have HJ5 := hide hj; have HI5 := hide (HI4.out.below b5); clear hj)
          | (go_at_call 13; (with_reducible refine (CZT.out _ _ _ HJ5.out).mono ?_); rintro e w9 ⟨rfl, rfl⟩)
          | (go_at_call 13; (with_reducible refine (CQT.out _ HI5.out).mono ?_); rintro e w9 ⟨rfl, rfl⟩)
          | (go_at_call 29; (with_reducible refine (CZC.out _ _ _ HJ5.out).mono ?_); rintro e w9 ⟨rfl, rfl⟩)
          | (go_at_call 29; (with_reducible refine (CQC.out _ HI5.out).mono ?_); rintro e w9 ⟨rfl, rfl⟩)
          | (go_at_call 14; (with_reducible refine (img_samples HJ5.out).mono ?_); rintro e w6 ⟨v6, rfl, own6, bb6⟩; have B6 := hide (bt B5.out bb6); obtain ⟨b6, cp6, rfl, _, _, hr6, _, _⟩ := own_row own6 HNN.out HNL.out.1; have HR6 := hide hr6; clear hr6 own6))
        go_loopg [94] N (fun r i wr => ∃ k : Nat, k + r = N ∧ i = .int .i64 (k : Int) ∧ wr = w6)
        case atStart => exact ⟨0, by omega, rfl, rfl⟩
        case round =>
          obtain ⟨k, hkk, rfl, rfl⟩ := hrel
          have HKK := hide hkk
          clear hkk
          by_cases hlt : k < N
          · have c := HR6.out.at (show k < Z.il.length by rw [HNN.out]; exact hlt)
            rw [Nat.zero_add, ZM.out k hlt] at c
            go_wp2
            go_roundg (gk - 1)
            case measure => have := HKK.out; omega
            case rel => exact ⟨k + 1, by have := HKK.out; omega, by go_num, rfl⟩
          · obtain rfl : N = k := by have := HKK.out; omega
            go_wp2
            go_ret
            exact ⟨rfl, B6.out⟩
  · have CS := CN.out w2 B2.out g h I HI.out hy
    clear GD GO CN CY hy
    go_wp2_with (go_at_call 11; (with_reducible refine CS.mono ?_); rintro e w3 ⟨⟨v3, v4, rfl⟩, b3⟩; have B3 := hide (bt B2.out b3))
    go_ret
    exact ⟨rfl, B3.out⟩
end Go.Proofs.YtaafhjngnjjcmaaGreatDoor
