/- Parts, joined. -/
import Derived.Test.YtlknopmpbkepjaaDoorJ23
import Derived.Test.YtlknopmpbkepjaaDoorJ14
import Derived.Test.YtlknopmpbkepjaaDoorJ10
/- Operations as texts: the program's Parse. -/
namespace Go.Proofs.YtlknopmpbkepjaaDoor
open Go.RowKit Go.Shelf

attribute [local go_sem] Oper.semAt_some
theorem store3 {w W : World} {v u1 u2 : Value} {L : List Opr} (hv : Boxed W w.heap.size 22 v) (c1 : Boxed W (w.heap.size + 1) 3 u1) (c2 : Boxed W (w.heap.size + 1 + 1) 36 u2) (hso : HiSo 30 w.heap.size (w.heap.size + 1 + 1 + 1 + 1 + 1) W L v) (hB : Below w.heap.size w W) (n c : Value) :
    Boxed (((W.setCell ⟨w.heap.size, 0, none⟩ v).setCell ⟨w.heap.size + 1, 0, none⟩ n).setCell ⟨w.heap.size + 1 + 1, 0, none⟩ c) w.heap.size 22 v ∧
    Boxed (((W.setCell ⟨w.heap.size, 0, none⟩ v).setCell ⟨w.heap.size + 1, 0, none⟩ n).setCell ⟨w.heap.size + 1 + 1, 0, none⟩ c) (w.heap.size + 1) 3 n ∧
    Boxed (((W.setCell ⟨w.heap.size, 0, none⟩ v).setCell ⟨w.heap.size + 1, 0, none⟩ n).setCell ⟨w.heap.size + 1 + 1, 0, none⟩ c) (w.heap.size + 1 + 1) 36 c ∧
    HiSo 30 w.heap.size (w.heap.size + 1 + 1 + 1 + 1 + 1) (((W.setCell ⟨w.heap.size, 0, none⟩ v).setCell ⟨w.heap.size + 1, 0, none⟩ n).setCell ⟨w.heap.size + 1 + 1, 0, none⟩ c) L v ∧
    KeepsOthers W (((W.setCell ⟨w.heap.size, 0, none⟩ v).setCell ⟨w.heap.size + 1, 0, none⟩ n).setCell ⟨w.heap.size + 1 + 1, 0, none⟩ c) ∧
    Below w.heap.size w (((W.setCell ⟨w.heap.size, 0, none⟩ v).setCell ⟨w.heap.size + 1, 0, none⟩ n).setCell ⟨w.heap.size + 1 + 1, 0, none⟩ c) := by
  have hv2 := (hv.set v).other (B' := w.heap.size + 1) (by omega) n
  have c12 := (c1.other (B' := w.heap.size) (by omega) v).set n
  have c22 := (c2.other (B' := w.heap.size) (by omega) v).other (B' := w.heap.size + 1) (by omega) n
  have hs1 := hso.set hv (by decide) (by omega) v
  have hs2 := hs1.set (c1.other (B' := w.heap.size) (by omega) v) (by decide) (by omega) n
  refine ⟨hv2.other (by omega) c, c12.other (by omega) c, c22.set c, hs2.set c22 (by decide) (by omega) c, ((KeepsOthers.setCell _ _ _).trans (KeepsOthers.setCell _ _ _)).trans (KeepsOthers.setCell _ _ _), ?_⟩
  exact ((hB.setCell (p := ⟨w.heap.size, 0, none⟩) (Nat.le_refl _) _).setCell (p := ⟨w.heap.size + 1, 0, none⟩) (by show w.heap.size ≤ w.heap.size + 1; omega) _).setCell (p := ⟨w.heap.size + 1 + 1, 0, none⟩) (by show w.heap.size ≤ w.heap.size + 1 + 1; omega) _
set_option maxRecDepth 100000 in
set_option maxHeartbeats 8000000 in
theorem pparse_any (f : List Int → Option Opr) (hf : OneOf f) (s : ByteArray) (hs : s.size ≤ 100000) (w : World) (hk : KP w) :
    Calls Tryd.prog 16 #[.string s] w fun e w' => PParseAns f s e w' ∧ Below w.heap.size w w' := by
  obtain ⟨i0, hi, hz0, hz1, hz2⟩ := info_parts infoOpP
  have HK := hide hk
  have HF := hide hf
  refine (callsIn_wide (n := 4)).1 ?_
  refine callsIn_of_wp_marks Tryd.func16 rfl trivial ?_ rfl
  simp only [Tryd.ntmps16, List.size_toArray, List.length_cons, List.length_nil, Nat.reduceAdd, Nat.reduceSub, Array.replicate_succ, Array.replicate_zero, List.push_toArray, List.append_toArray, List.nil_append, List.cons_append]
  have HP := sparts_any s ⟨#[59]⟩
  clear hk hf
  gi_wp2_with (refine ⟨trivial, ?_⟩; gi_at_call 32; refine (callsIn_wide.2 (HP _)).mono ?_; rintro e w' ⟨rfl, rfl⟩)
  obtain ⟨W0, hW0⟩ : ∃ W0, W0 = (((((w.alloc (.cells #[.slice none 0 0] 22)).alloc (.cells #[.int .i64 0] 3)).alloc (.cells #[.int .i64 0] 36)).alloc (.cells #[.string s] 9)).alloc (.cells #[.string ⟨#[59]⟩] 9)) := ⟨_, rfl⟩
  rw [← hW0]
  have hsz : W0.heap.size = w.heap.size + 1 + 1 + 1 + 1 + 1 := by rw [hW0]; simp
  have b0 : Boxed W0 w.heap.size 22 (.slice none 0 0) := by rw [hW0]; exact ((((Boxed.new w _ _).alloc _).alloc _).alloc _).alloc _
  have b1 : Boxed W0 (w.heap.size + 1) 3 (.int .i64 0) := by
    have := Boxed.new (w.alloc (.cells #[.slice none 0 0] 22)) 3 (.int .i64 0)
    rw [World.size_alloc] at this
    rw [hW0]; exact ((this.alloc _).alloc _).alloc _
  have b2 : Boxed W0 (w.heap.size + 1 + 1) 36 (.int .i64 0) := by
    have := Boxed.new ((w.alloc (.cells #[.slice none 0 0] 22)).alloc (.cells #[.int .i64 0] 3)) 36 (.int .i64 0)
    rw [World.size_alloc, World.size_alloc] at this
    rw [hW0]; exact (this.alloc _).alloc _
  have b3 : Boxed W0 (w.heap.size + 1 + 1 + 1) 9 (.string s) := by
    have := Boxed.new (((w.alloc (.cells #[.slice none 0 0] 22)).alloc (.cells #[.int .i64 0] 3)).alloc (.cells #[.int .i64 0] 36)) 9 (.string s)
    rw [World.size_alloc, World.size_alloc, World.size_alloc] at this
    rw [hW0]; exact this.alloc _
  have b4 : Boxed W0 (w.heap.size + 1 + 1 + 1 + 1) 9 (.string (txt [59])) := by
    have := Boxed.new ((((w.alloc (.cells #[.slice none 0 0] 22)).alloc (.cells #[.int .i64 0] 3)).alloc (.cells #[.int .i64 0] 36)).alloc (.cells #[.string s] 9)) 9 (.string ⟨#[59]⟩)
    rw [World.size_alloc, World.size_alloc, World.size_alloc, World.size_alloc] at this
    rw [hW0]; exact this
  have hB0 : Below w.heap.size w W0 := by
    rw [hW0]
    exact (((((Below.refl _ w).alloc (Nat.le_refl _) _).alloc (by simp) _).alloc (by simp; omega) _).alloc (by simp; omega) _).alloc (by simp; omega) _
  clear hW0 HP
  refine wpIn_rangeFunc_ownG rfl (by omega) (gf := 43) (lb := #[.pointer (some ⟨w.heap.size + 1 + 1 + 1, 0, none⟩), .pointer (some ⟨w.heap.size + 1 + 1 + 1 + 1, 0, none⟩)]) rfl trivial (enters_of Tryd.func43 (by kernel_rfl) rfl)
    (parts_stops (4 - 1) (by omega) (w.heap.size + 1 + 1 + 1) (w.heap.size + 1 + 1 + 1 + 1) w.heap.size 59 (by omega) (by omega) s hs W0 (by omega) (by omega) (by omega) b3.cell b4.cell (fun W' hb => (kp_below HK.out (hB0.trans hb)).2.1))
    kpm_t (kpm_b (by omega)) (Below.refl _ _) (fun _ => rfl)
    (fun pre W => PSt f w W pre ∧ Below w.heap.size w W)
    (fun c pre W => (c = .ret ∧ PBad f w W pre) ∧ Below w.heap.size w W)
    (OwnFrom.and (pst_own f w _) (ownFrom_below (Nat.le_refl _) (by omega)))
    (fun c => OwnFrom.and (fun s W W' row h hg hr => ⟨h.1, pbad_own f w _ s W W' row h.2 hg hr⟩) (ownFrom_below (Nat.le_refl _) (by omega)))
    ⟨⟨⟨[], _, rfl, b0, HiSo.nil _ _ _ _⟩, ⟨b1, b2⟩, b4⟩, hB0⟩
    (fun x => { tmps := #[.string s, undef, .pointer (some ⟨w.heap.size, 0, none⟩), .pointer (some ⟨w.heap.size + 1, 0, none⟩), .pointer (some ⟨w.heap.size + 1 + 1, 0, none⟩), .string x.1, undef, undef, .string s,
      .func (.func 43) #[] #[.pointer (some ⟨w.heap.size + 1 + 1 + 1, 0, none⟩), .pointer (some ⟨w.heap.size + 1 + 1 + 1 + 1, 0, none⟩)], .string x.1, undef, undef, undef, undef, undef, undef, undef, undef, undef, undef, undef, undef, undef, undef, undef], defers := [] }) ?assign ?body ?done ?stop
  case assign =>
    intro l x W K hK
    gi_wp2
    exact hK
  case body =>
    rintro l pre x W ⟨⟨⟨L, v, hA, hv, hso⟩, ⟨c1, c2⟩, c4⟩, hB⟩ hlt
    have hlen : L.length < 1000002 := by rw [hA.len]; exact hlt
    have h11 : 1 ≤ 4 - 1 - 1 := by omega
    cases ho : f (byt x.1) with
    | none =>
      have CP := pread_no HF.out (p := x.1) x.2 ho W (kp_below HK.out hB)
      have HSO := hide hso
      obtain ⟨ad, cap, rfl, _, _⟩ := hso.so.ops
      generalize hnl : L.length = nL at *
      unfold opV at CP
      clear hso
      gi_wp2_with (refine ⟨trivial, ?_⟩; gi_at_call 33; refine (CallsIn.inRound l (callsIn_wide.2 CP)).mono ?_; rintro e w1 ⟨⟨o, ax, cx, ay, cy, rfl⟩, q1⟩; have Q2 := hide (ba q1 (.cells #[.int .i64 o.kd, .int .i64 o.bd, .int .i64 o.sg, .int .i64 o.rd, .slice ax o.xs.length cx, .slice ay o.ys.length cy, .int .i64 o.fl, .int .i64 o.wd, .int .i64 o.ht] 30)); have d0 := boxed_below hv Q2.out; have d1 := boxed_below c1 Q2.out; have d2 := boxed_below c2 Q2.out; have d0c := d0.cell; have d0f := d0.frozen; have d1c := d1.cell; have d1f := d1.frozen; have d2c := d2.cell; have d2f := d2.frozen)
      subst hnl
      obtain ⟨e0, e1, e2, e3, e4, e5⟩ := store3 d0 d1 d2 (HSO.out.below Q2.out) (bt hB Q2.out) (.int .i64 (L.length : Int)) (.int .i64 6)
      exact ⟨((others_below Q2.out).trans e4).from _, ⟨rfl, pre, x, L, _, rfl, hA, ho, e0, e3, e1, e2⟩, e5⟩
    | some o =>
      have hA2 := hA.more ho
      have CP := pread_yes HF.out (p := x.1) x.2 ho W (kp_below HK.out hB)
      have hWs := c4.lt
      obtain ⟨us, hu, ⟨how, h9⟩, hc⟩ := hso
      rw [hu] at how
      have HMO := hide (fun (wb wc w2 : World) (v' : Value) (ax ay : Option Addr) (cx cy : Nat) (b1 : Below W.heap.size W wb) (b2 : Below wb.heap.size wb wc) (rx : RowNew wb W.heap.size ax o.xs) (ry : RowNew wb W.heap.size ay o.ys) (zx : ax = none → cx = 0) (zy : ay = none → cy = 0) (own : w2.ownsRow w.heap.size 30 9 v' (L.length + 1) (us.flatten ++ opCells o ax cx ay cy)) (grow : wc.grownBy w2 v.ownBlock) (ap : v'.ownBlock = v.ownBlock ∨ ∀ g, v'.ownBlock = some g → wc.heap.size ≤ g) =>
        HiSo.more (T := 30) (B := w.heap.size) (N := w.heap.size + 1 + 1 + 1 + 1 + 1) hu h9 (fun j hj => by obtain ⟨a1, a2, a3, a4, a5, a6, a7⟩ := hc j hj; exact ⟨a1, a2, a3, a4, a5, (a6.below b1).below b2, a7⟩) ((OpBy.new (how : W.ownsRow _ _ 9 v _ _) rx ry zx zy).below b2) (fun a e => by have := (rx.2 a e).1; omega) (fun a e => by have := (ry.2 a e).1; omega) own grow ap)
      have HOW := hide how
      have HONE := hide (fun ax cx ay cy => opCells_one o ax cx ay cy)
      have HSZ := hide (And.intro hB.size hWs)
      clear hc h9 how
      unfold opV at CP
      unfold opCells at HMO HONE
      obtain ⟨o', ho2⟩ : ∃ o', o = o' := ⟨_, rfl⟩
      have HOO := hide ho2
      generalize hkd : o.kd = kd at CP HMO HONE
      generalize hbo : o.bd = bo at CP HMO HONE
      generalize hsg : o.sg = sg at CP HMO HONE
      generalize hrd : o.rd = rd at CP HMO HONE
      generalize hnx : o.xs.length = nx at CP HMO HONE
      generalize hny : o.ys.length = ny at CP HMO HONE
      generalize hfl : o.fl = fl at CP HMO HONE
      generalize hwd : o.wd = wd at CP HMO HONE
      generalize hht : o.ht = ht at CP HMO HONE
      clear hkd hbo hsg hrd hnx hny hfl hwd hht ho2 hu
      gi_wp2_with (first
        | (refine ⟨trivial, ?_⟩; gi_at_call 33; refine (CallsIn.inRound l (callsIn_wide.2 CP)).mono ?_; rintro e w1 ⟨⟨ax, cx, ay, cy, rfl, rx, ry, zx, zy⟩, q1⟩; have RX := hide (And.intro rx (And.intro ry (And.intro zx zy))); have Q1 := hide q1; have Q2 := hide (ba q1 (.cells #[.int .i64 kd, .int .i64 bo, .int .i64 sg, .int .i64 rd, .slice ax nx cx, .slice ay ny cy, .int .i64 fl, .int .i64 wd, .int .i64 ht] 30)); have dv := boxed_below hv Q2.out; have dvc := dv.cell; have drow := recs_below HOW.out Q2.out; have s1 := Nat.le_trans HSZ.out.1 Q1.out.size; clear rx ry zx zy q1)
        | (gi_at_builtin; refine wpListIn_append_apart _ rfl _ _ 22 rfl w.heap.size 30 i0 (.agg #[.int .i64 0, .int .i64 0, .int .i64 0, .int .i64 0, .slice none 0 0, .slice none 0 0, .int .i64 0, .int .i64 0, .int .i64 0]) 9 104 Tryd.underlying22 hi hz0 hz1 hz2 rfl (by decide) v L.length us.flatten rfl (World.ownsRow.alloc drow _) ⟨w1.heap.size + 1, 0, none⟩ 1 1 [.int .i64 kd, .int .i64 bo, .int .i64 sg, .int .i64 rd, .slice ax nx cx, .slice ay ny cy, .int .i64 fl, .int .i64 wd, .int .i64 ht] rfl rfl (new_at _ _ _) (HONE.out _ _ _ _) (by unfold maxLen; omega) (by omega) (by simp; omega) ?_; intro v' w4 own4 grow4 ap4; obtain ⟨g', cap', rfl⟩ := ownsRow_succ own4; obtain ⟨hv1, hv2, hr2, hk2, hb2⟩ := dv.appended (by decide) drow (by simp; omega) (Nat.le_refl _) own4 grow4; have hc1 := hv1.cell; have hf1 := hv1.frozen))
      have M4 := HMO.out w1 _ w4 _ ax ay cx cy Q1.out (ba (below1 _ _) _) RX.out.1 RX.out.2.1 RX.out.2.2.1 RX.out.2.2.2 own4 grow4 ap4
      exact ⟨((others_below Q2.out).trans hk2).from _, ⟨(Q2.out.mono HSZ.out.1).trans hb2, fun _ => (boxed_app (boxed_below c4 Q2.out) (by decide) (by omega) drow grow4 _).cell⟩, ⟨⟨L ++ [o], _, hA2, hv2, M4.set hv1 (by decide) (by omega) _⟩, ⟨boxed_app (boxed_below c1 Q2.out) (by decide) (by omega) drow grow4 _, boxed_app (boxed_below c2 Q2.out) (by decide) (by omega) drow grow4 _⟩, boxed_app (boxed_below c4 Q2.out) (by decide) (by omega) drow grow4 _⟩, (bt hB Q2.out).trans hb2⟩
  case done =>
    rintro D ys W hD hS ⟨⟨⟨L, v, hA, hv, hso⟩, ⟨c1, c2⟩, c4⟩, hB⟩ hK
    obtain ⟨ad, cap, rfl, _, _⟩ := hso.so.ops
    have c0c := hv.cell
    have c0f := hv.frozen
    have c1c := c1.cell
    have c1f := c1.frozen
    have c2c := c2.cell
    have c2f := c2.frozen
    gi_wp2
    obtain ⟨e0, e1, e2, e3, e4, e5⟩ := store3 hv c1 c2 hso hB (.int .i64 0) (.int .i64 0)
    have hK2 := e4.same D _ hK rfl
    have f0 := (put_boxed hK2 e0).cell
    have f1 := (put_boxed hK2 e1).cell
    have f2 := (put_boxed hK2 e2).cell
    have hso2 := e3.own (grownBy_putObj' _ D (.deferred none)) (fun r e => by cases e; exact ⟨_, hK2, rfl⟩)
    have hB3 := e5.trans (belowK_b (w := w) (Nat.le_refl _) _ D _ (.deferred none) (by omega) hK2 rfl rfl)
    refine ⟨by simp, .inl ⟨_, _, rfl, run_takeDeferred hK2, ?_⟩⟩
    refine ⟨.tuple #[.slice ad L.length cap, .int .i64 0, .int .i64 0], by simp [results, Tryd.results16, go_sem, f0, f1, f2], ?_, hB3⟩
    unfold PParseAns
    rw [parsed_all hS hA]
    obtain ⟨ad2, cap2, e, ho2, hz⟩ := hso2.so.ops
    cases e
    exact ⟨_, _, rfl, ho2, hz⟩
  case stop =>
    rintro D c pre W hD hS ⟨⟨rfl, ⟨qs, p, L, v, rfl, hA, hp, c0, hso, c1, c2⟩⟩, hB⟩ hK
    obtain ⟨ad, cap, rfl, _, _⟩ := hso.so.ops
    gi_wp2
    have f0 := (put_boxed hK c0).cell
    have f1 := (put_boxed hK c1).cell
    have f2 := (put_boxed hK c2).cell
    have hso2 := hso.own (grownBy_putObj' _ D (.deferred none)) (fun r e => by cases e; exact ⟨_, hK, rfl⟩)
    have hB3 := hB.trans (belowK_b (w := w) (Nat.le_refl _) W D _ (.deferred none) (by omega) hK rfl rfl)
    refine ⟨by simp, .inl ⟨_, _, rfl, run_takeDeferred hK, ?_⟩⟩
    refine ⟨.tuple #[.slice ad L.length cap, .int .i64 (L.length : Int), .int .i64 6], by simp [results, Tryd.results16, go_sem, f0, f1, f2], ?_, hB3⟩
    unfold PParseAns
    rw [parsed_bad hS hA hp]
    obtain ⟨ad2, cap2, e, ho2, hz⟩ := hso2.so.ops
    cases e
    exact ⟨_, _, rfl, ho2, hz⟩
end Go.Proofs.YtlknopmpbkepjaaDoor

/- Operations as texts: the program's Clean, of every kind; what the statements call the same. -/
namespace Go.Proofs.YtlknopmpbkepjaaDoor
open Go.RowKit


set_option maxHeartbeats 4000000 in
set_option maxRecDepth 100000 in
theorem clean_any (o : Opr) (ax : Option Addr) (cx : Nat) (ay : Option Addr) (cy : Nat) (w : World) (hA : OpAt w o ax cx ay cy) (l1 : o.xs.length ≤ 1000000) (l2 : o.ys.length ≤ 1000000) :
    Calls Tryd.prog 13 #[opV o ax cx ay cy] w fun e w' => (∃ bx dx by_ dy, e = .returned (opV (clnO o) bx dx by_ dy) ∧ OpAt w' (clnO o) bx dx by_ dy) ∧ Below w.heap.size w w' := by
  by_cases k2 : o.kd = 2
  · exact clean_two o ax cx ay cy w hA l1 l2 k2
  unfold opV clnO
  obtain ⟨kd, bo, sg, rd, xs, ys, fl, wd, ht⟩ := o
  simp only at *
  clear hA l1 l2
  generalize xs.length = nx at *
  generalize ys.length = ny at *
  rcases kind_of kd with rfl | rfl | rfl | rfl | ⟨h0, h1, h2, h3⟩
  · simp only [Int.reduceEq, if_true, if_false]
    go_enter Tryd.func13, Tryd.ntmps13
    go_wp2
    exact bodyPost_ret (v := .agg #[.int .i64 0, .int .i64 bo, .int .i64 sg, .int .i64 0, .slice none 0 0, .slice none 0 0, .int .i64 0, .int .i64 0, .int .i64 0]) (by simp [results, Tryd.results13, go_sem]) rfl ⟨⟨none, 0, none, 0, rfl, ⟨.inl rfl, .inl rfl, fun _ => rfl, fun _ => rfl⟩⟩, by repeat (first | exact Below.refl _ _ | with_reducible refine ba ?_ _)⟩
  · simp only [Int.reduceEq, if_true, if_false]
    go_enter Tryd.func13, Tryd.ntmps13
    go_wp2
    exact bodyPost_ret (v := .agg #[.int .i64 1, .int .i64 bo, .int .i64 0, .int .i64 rd, .slice none 0 0, .slice none 0 0, .int .i64 0, .int .i64 0, .int .i64 0]) (by simp [results, Tryd.results13, go_sem]) rfl ⟨⟨none, 0, none, 0, rfl, ⟨.inl rfl, .inl rfl, fun _ => rfl, fun _ => rfl⟩⟩, by repeat (first | exact Below.refl _ _ | with_reducible refine ba ?_ _)⟩
  · exact absurd rfl k2
  · simp only [Int.reduceEq, if_true, if_false]
    go_enter Tryd.func13, Tryd.ntmps13
    go_upto_region 10 with fail
    go_region
    all_goals
      go_wp2
      exact bodyPost_ret (v := .agg #[.int .i64 3, .int .i64 bo, .int .i64 0, .int .i64 0, .slice none 0 0, .slice none 0 0, .int .i64 fl, .int .i64 wd, .int .i64 ht]) (by simp [results, Tryd.results13, go_sem]) rfl ⟨⟨none, 0, none, 0, rfl, ⟨.inl rfl, .inl rfl, fun _ => rfl, fun _ => rfl⟩⟩, by repeat (first | exact Below.refl _ _ | with_reducible refine ba ?_ _ | with_reducible refine bdN ?_ _ | with_reducible refine bd ?_)⟩
  · simp only [if_neg h0, if_neg h1, if_neg h2, if_neg h3]
    have e0 : (kd == 0) = false := beq_eq_false_iff_ne.2 h0
    have e1 : (kd == 1) = false := beq_eq_false_iff_ne.2 h1
    have e2 : (kd == 2) = false := beq_eq_false_iff_ne.2 h2
    have e3 : (kd == 3) = false := beq_eq_false_iff_ne.2 h3
    clear h0 h1 h2 h3 k2
    go_enter Tryd.func13, Tryd.ntmps13
    go_wp2
    exact bodyPost_ret (v := .agg #[.int .i64 kd, .int .i64 bo, .int .i64 0, .int .i64 0, .slice none 0 0, .slice none 0 0, .int .i64 0, .int .i64 0, .int .i64 0]) (by simp [results, Tryd.results13, go_sem]) rfl ⟨⟨none, 0, none, 0, rfl, ⟨.inl rfl, .inl rfl, fun _ => rfl, fun _ => rfl⟩⟩, by repeat (first | exact Below.refl _ _ | with_reducible refine ba ?_ _)⟩
set_option maxHeartbeats 4000000 in
set_option maxRecDepth 100000 in
/-- The same operation, twice in memory. -/
theorem same13_any (o : Opr) (ax : Option Addr) (cx : Nat) (ay : Option Addr) (cy : Nat) (bx : Option Addr) (dx : Nat) (by_ : Option Addr) (dy : Nat) (w : World) (hA : OpAt w o ax cx ay cy) (hB : OpAt w o bx dx by_ dy) (l1 : o.xs.length ≤ 1000000) (l2 : o.ys.length ≤ 1000000) :
    Calls Tryd.prog 12 #[opV o ax cx ay cy, opV o bx dx by_ dy] w fun e w' => e = .returned (.bool true) ∧ Below w.heap.size w w' := by
  have CX := fun w' (b : Below w.heap.size w w') => same_n o.xs.length o.xs rfl ax bx cx dx w' (hA.1.below b) (hB.1.below b) (by omega)
  have CY := fun w' (b : Below w.heap.size w w') => same_n o.ys.length o.ys rfl ay by_ cy dy w' (hA.2.1.below b) (hB.2.1.below b) (by omega)
  clear hA hB
  unfold opV
  obtain ⟨kd, bo, sg, rd, xs, ys, fl, wd, ht⟩ := o
  simp only at *
  generalize xs.length = nx at *
  generalize ys.length = ny at *
  have HA := hide (P9.new w 30 kd bo sg rd (.slice ax nx cx) (.slice ay ny cy) fl wd ht)
  have HC := hide (P9.new (w.alloc (.cells #[.int .i64 kd, .int .i64 bo, .int .i64 sg, .int .i64 rd, .slice ax nx cx, .slice ay ny cy, .int .i64 fl, .int .i64 wd, .int .i64 ht] 30)) 34 kd bo sg rd (.slice bx nx dx) (.slice by_ ny dy) fl wd ht)
  rw [World.size_alloc] at HC
  go_enter Tryd.func12, Tryd.ntmps12
  go_wp2_with (first
    | (go_at_call 28; (with_reducible refine (CX _ (ba (below1 _ _) _)).mono ?_); rintro e w3 ⟨rfl, b3⟩; obtain ⟨_, _, _, _, _, x5, _, _, _⟩ := (HA.out.below (below1 _ _)).below b3; obtain ⟨_, _, _, _, _, y5, _, _, _⟩ := HC.out.below b3; have B3 := hide (bt (ba (below1 _ _) _) b3); clear CX b3)
    | (go_at_call 28; (with_reducible refine (CY _ B3.out).mono ?_); rintro e w4 ⟨rfl, b4⟩; have B4 := hide (bt B3.out b4)))
  exact bodyPost_ret (v := .bool true) (by simp [results, Tryd.results12, go_sem]) rfl ⟨rfl, B4.out⟩
end Go.Proofs.YtlknopmpbkepjaaDoor

/- Operations as texts: the law on what is printed. Written by gen_XS13AO.py. -/
namespace Go.Proofs.YtlknopmpbkepjaaDoor
open Go.RowKit

/-- The text of the first ones, put together word by word. -/
def wantB (L : List Opr) : Nat → List Int
  | 0 => []
  | k + 1 => (if k = 0 then [] else wantB L k ++ [59]) ++ (if mayW (opAt L k) = true then wordB (opAt L k) else [])
theorem want_byts (L : List Opr) : ∀ k, Byts (wantB L k)
  | 0 => fun _ h => by cases h
  | k + 1 => by
    unfold wantB
    refine byts_app ?_ ?_
    · split
      · exact fun _ h => by cases h
      · exact byts_app (want_byts L k) (byts_one (by decide) (by decide))
    · split
      · exact byts_word _
      · exact fun _ h => by cases h
theorem want_all {L : List Opr} : ∀ {k : Nat}, k ≤ L.length → allW (L.take k) = true → wantB L k = printB (L.take k)
  | 0, _, _ => by rw [List.take_zero]; rfl
  | k + 1, hk, h => by
    have hk1 : k < L.length := by omega
    rw [take_op hk1, allW_app, Bool.and_eq_true] at h
    have hw : mayW (opAt L k) = true := by
      have := h.2
      unfold allW at this
      rw [List.all_cons, List.all_nil, Bool.and_true] at this
      exact this
    have ih := want_all (L := L) (k := k) (by omega) h.1
    unfold wantB
    rw [if_pos hw, take_op hk1]
    by_cases e : k = 0
    · subst e
      rw [if_pos rfl]
      rfl
    · rw [if_neg e, ih, printB_more (fun q => ?_), List.append_assoc]
      · rfl
      · have hl : 0 < (L.take k).length := by rw [List.length_take]; omega
        rw [q] at hl
        cases hl
theorem want_len {L : List Opr} (h : ∀ k, k < L.length → (wordB (opAt L k)).length ≤ 2600) : ∀ {k : Nat}, k ≤ L.length → (wantB L k).length ≤ 2601 * k
  | 0, _ => Nat.le_refl _
  | k + 1, hk => by
    have ih := want_len h (k := k) (by omega)
    have hw := h k (by omega)
    unfold wantB
    rw [List.length_append]
    have h1 : (if k = 0 then ([] : List Int) else wantB L k ++ [59]).length ≤ 2601 * k + 1 := by
      split
      · exact Nat.zero_le _
      · rw [List.length_append, List.length_singleton]; omega
    have h2 : (if mayW (opAt L k) = true then wordB (opAt L k) else []).length ≤ 2600 := by
      split
      · exact hw
      · exact Nat.zero_le _
    omega
theorem wordT_size {o : Opr} (h : (wordB o).length ≤ 2600) : (wordT o).size ≤ 2600 := by
  unfold wordT
  split
  · rw [txt_size (byts_word o)]; exact h
  · exact Nat.zero_le _
theorem want_next (L : List Opr) (k : Nat) (h : k ≠ 0) : txt (wantB L k) ++ ⟨#[59]⟩ ++ wordT (opAt L k) = txt (wantB L (k + 1)) := by
  have hb : Byts (if mayW (opAt L k) = true then wordB (opAt L k) else []) := by
    split
    · exact byts_word _
    · exact fun _ h => by cases h
  rw [show (⟨#[59]⟩ : ByteArray) = txt [59] from rfl, txt_app (want_byts L k) (byts_one (by decide) (by decide))]
  unfold wordT
  rw [txt_app (byts_app (want_byts L k) (byts_one (by decide) (by decide))) hb]
  congr 1
  show _ = (if k = 0 then [] else wantB L k ++ [59]) ++ _
  rw [if_neg h]
theorem want_first (L : List Opr) : txt (wantB L 0) ++ wordT (opAt L 0) = txt (wantB L 1) := by
  have hb : Byts (if mayW (opAt L 0) = true then wordB (opAt L 0) else []) := by
    split
    · exact byts_word _
    · exact fun _ h => by cases h
  unfold wordT
  rw [txt_app (want_byts L 0) hb]
  rfl
theorem all_next {L : List Opr} {k : Nat} (hk : k < L.length) : allW (L.take (k + 1)) = (allW (L.take k) && mayW (opAt L k)) := by
  rw [take_op hk, allW_app]
  congr 1
  unfold allW
  rw [List.all_cons, List.all_nil, Bool.and_true]
theorem cln_len {o : Opr} {n : Nat} (h1 : o.xs.length ≤ n) (h2 : o.ys.length ≤ n) : (clnO o).xs.length ≤ n ∧ (clnO o).ys.length ≤ n := by
  unfold clnO
  simp only
  split
  · exact ⟨h1, h2⟩
  · exact ⟨Nat.zero_le _, Nat.zero_le _⟩
/-- Operations of at most so many weights. -/
def SmW (o : Opr) : Prop := FitW o ∧ o.xs.length ≤ 60 ∧ o.ys.length ≤ 60
theorem SmW.lit {o : Opr} (h : SmW o) : LitW o := ⟨h.1, by have := h.2.1; omega, by have := h.2.2; omega⟩
theorem SmW.word {o : Opr} (h : SmW o) : (wordB o).length ≤ 2600 := by
  have := word_len h.1
  have := h.2.1
  have := h.2.2
  omega
theorem small_of {L : List Opr} {n : Nat} (hF : OpsFit L) (h : fewB L n = true) : ∀ o ∈ L, SmW o := fun o ho => by
  obtain ⟨_, h2⟩ := few_iff h
  exact ⟨(lit_of hF h o ho).1, h2 o ho⟩
set_option maxHeartbeats 8000000 in
set_option maxRecDepth 100000 in
theorem prints_no (L : List Opr) (n : Nat) (hn : L.length = n) (h1 : n ≤ maxLen) (ad : Option Addr) (cap : Nat) (w : World) (hk : KW w) (hr : OpsAt w ad L) (h : fewB L n = false) :
    Calls Tryd.prog 3 #[.slice ad n cap] w fun e w' => e = .returned (.bool true) ∧ Below w.heap.size w w' := by
  have CL := fun w' (b : Below w.heap.size w w') => lives13_any w' (kw_below hk b)
  have CF := fun w' (b : Below w.heap.size w w') => few_any L n hn h1 ad cap w' (hr.below b)
  rw [h] at CF
  clear hr hk hn h
  go_enter Tryd.func3, Tryd.ntmps3
  go_wp2_with (first
    | (go_at_call 8; (with_reducible refine (CF _ B1.out).mono ?_); rintro e w2 ⟨rfl, b2⟩; have B2 := hide (bt B1.out b2); clear B1)
    | (go_at_call 7; (with_reducible refine (CL _ B2.out).mono ?_); rintro e w3 ⟨rfl, b3⟩)
    | (go_at_call 7; (with_reducible refine (CL _ (Below.refl _ _)).mono ?_); rintro e w1 ⟨rfl, b1⟩; have B1 := hide b1))
  exact bodyPost_ret (v := .bool true) (by simp [results, Tryd.results3, go_sem]) rfl ⟨rfl, bt B2.out b3⟩
end Go.Proofs.YtlknopmpbkepjaaDoor
