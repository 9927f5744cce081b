/- Parts, joined. -/
import Derived.Test.YtlknopmpbkepjaaDoorJ22
import Derived.Test.YtlknopmpbkepjaaDoorJ19
/- Operations as texts: a word read by the program. -/
namespace Go.Proofs.YtlknopmpbkepjaaDoor
open Go.RowKit

theorem sgn_rest {a r : ByteArray} {k : Int} (h : byt a = sgnB k ++ byt r) : a.extract (sgnB k).length a.size = r := by
  have := (sgn_cut h).2.2
  rwa [txt_size (byts_sgn k)] at this
theorem row_new9 {w : World} {B b : Nat} {ad : Option Addr} {xs : List Int} (h : RowNew w B ad xs) (hb : b < B) (v0 v1 v2 v3 v4 v5 v6 v7 v8 : Value) : RowNew (((((((((w.setCell ⟨b, 0, none⟩ v0).setCell ⟨b, 1, none⟩ v1).setCell ⟨b, 2, none⟩ v2).setCell ⟨b, 3, none⟩ v3).setCell ⟨b, 4, none⟩ v4).setCell ⟨b, 5, none⟩ v5).setCell ⟨b, 6, none⟩ v6).setCell ⟨b, 7, none⟩ v7).setCell ⟨b, 8, none⟩ v8) B ad xs :=
  (((((((((h.set hb 0 v0).set hb 1 v1).set hb 2 v2).set hb 3 v3).set hb 4 v4).set hb 5 v5).set hb 6 v6).set hb 7 v7).set hb 8 v8)
theorem ans_no14 {f : List Int → Option Opr} (hf : OneOf f) {s : ByteArray} (h : ∀ o, ¬ IsWord (byt s) o) (B : Nat) (w' : World) : OneAns f s B (.returned (.tuple #[.agg #[.int .i64 0, .int .i64 0, .int .i64 0, .int .i64 0, .slice none 0 0, .slice none 0 0, .int .i64 0, .int .i64 0, .int .i64 0], .bool false])) w' :=
  .inr ⟨hf.no.2 h, ⟨0, 0, 0, 0, [], [], 0, 0, 0⟩, none, 0, none, 0, rfl⟩
set_option maxHeartbeats 4000000 in
set_option maxRecDepth 100000 in
theorem pread_any (f : List Int → Option Opr) (hf : OneOf f) (s : ByteArray) (hs : s.size ≤ 100000) (w : World) (hk : KP w) :
    Calls Tryd.prog 33 #[.string s] w fun e w' => OneAns f s w.heap.size e w' ∧ Below w.heap.size w w' := by
  obtain ⟨a, nm, isb, hcut, hyes, hno, hza⟩ : ∃ (a nm : ByteArray) (isb : Bool), (∀ w, MaxL w → Calls Tryd.prog 44 #[.string s, .string ⟨#[124]⟩] w fun e w' => e = .returned (.tuple #[.string a, .string nm, .bool isb]) ∧ Drew w w') ∧ (isb = true → byt s = byt a ++ 124 :: byt nm ∧ (124 : Int) ∉ byt a) ∧ (isb = false → nm = ⟨#[]⟩ ∧ (124 : Int) ∉ byt s) ∧ a.size ≤ s.size := by
    rcases cutp_or (c := 124) (by decide) (by decide) (s := s) (by omega) with ⟨a, b, h1, h2, h3, C⟩ | ⟨h1, C⟩
    · exact ⟨a, b, true, C, fun _ => ⟨h1, h2⟩, (fun e => by cases e), by omega⟩
    · exact ⟨s, ⟨#[]⟩, false, C, (fun e => by cases e), fun _ => ⟨rfl, h1⟩, Nat.le_refl _⟩
  obtain ⟨BO, hBO⟩ := bord_is (byt nm)
  have CN := fun w' (h : NamesE w') => bnamed_any hBO w' h
  obtain ⟨W1, hW1⟩ : ∃ W, w.alloc (.cells #[.int .i64 0, .int .i64 0, .int .i64 0, .int .i64 0, .slice none 0 0, .slice none 0 0, .int .i64 0, .int .i64 0, .int .i64 0] 30) = W := ⟨_, rfl⟩
  have HP := hide (show ∀ w2, Below W1.heap.size W1 w2 → P9 w2 w.heap.size 0 0 0 0 (.slice none 0 0) (.slice none 0 0) 0 0 0 ∧ F9 w2 w.heap.size ∧ Below w.heap.size w w2 by rw [← hW1]; exact fun w2 b => asked_new 0 w w2 b)
  have hk1 : KP W1 := by rw [← hW1]; exact kp_below hk (below1 _ _)
  have HK := hide (fun w' (b : Below W1.heap.size W1 w') => kp_below hk1 b)
  have HN := hide (fun w' (b : Below W1.heap.size W1 w') => show NamesE w' from (kp_below hk1 b).1.2.2)
  have HU := hide (fun w' (b : Below W1.heap.size W1 w') => show Utf8P w' from (kp_below hk1 b).2.2.1)
  have hs1 : W1.heap.size = w.heap.size + 1 := by rw [← hW1, World.size_alloc]
  have HS := hide (And.intro (show w.heap.size ≤ w.heap.size from Nat.le_refl _) hs1)
  have HBN := hide (fun n => bdN (Below.refl W1.heap.size W1) n)
  have CC := hcut W1 hk1.2.1
  clear hcut hk hk1 hs1
  by_cases hb : 0 ≤ BO
  case neg =>
    have HA := hide (fun (w' : World) => ans_no14 hf (s := s) (by
      cases isb with
      | false => exact no_bar (hno rfl).2
      | true =>
        rcases hBO with ⟨_, h⟩ | ⟨h, _⟩
        · exact no_bord (hyes rfl).1 (hyes rfl).2 h
        · exact absurd h.1 hb) w.heap.size w')
    rw [decide_eq_false hb] at CN
    clear hyes hno hBO hf
    go_enter Tryd.func33, Tryd.ntmps33
    go_upto_region 1 with fail
    try simp only [hW1]
    clear hW1
    go_wp2_with (first
      | (go_at_call 44; (with_reducible refine CC.mono ?_); rintro e w2 ⟨rfl, n2, rfl⟩; obtain ⟨⟨z0, z1, z2, z3, z4, z5, z6, z7, z8⟩, ⟨f0, f1, f2, f3, f4, f5, f6, f7, f8, _⟩, hB9⟩ := HP.out _ (HBN.out n2); have B9 := hide hB9; clear hB9)
      | (go_at_call 45; (with_reducible refine (CN _ (HN.out _ (HBN.out n2))).mono ?_); rintro e w3 ⟨⟨x, rfl, hx⟩, rfl⟩))
    obtain ⟨y0, y1, y2, y3, y4, y5, y6, y7, y8⟩ := p9_store ⟨z0, z1, z2, z3, z4, z5, z6, z7, z8⟩ 0 0 0 0 (.slice none 0 0) (.slice none 0 0) 0 0 0
    clear z0 z1 z2 z3 z4 z5 z6 z7 z8
    exact bodyPost_ret (v := .tuple #[.agg #[.int .i64 0, .int .i64 0, .int .i64 0, .int .i64 0, .slice none 0 0, .slice none 0 0, .int .i64 0, .int .i64 0, .int .i64 0], .bool false]) (by simp [results, Tryd.results33, go_sem, y0, y1, y2, y3, y4, y5, y6, y7, y8]) rfl ⟨HA.out _, below_set9 B9.out HS.out.1 _ _ _ _ _ _ _ _ _⟩
  case pos =>
    have hb2 : (0 ≤ BO ∧ BO ≤ 2) ∧ byt nm = bordB BO := by rcases hBO with ⟨h, _⟩ | h; omega; exact h
    have hisb : isb = true := by
      cases isb with
      | true => rfl
      | false =>
        have h2 := congrArg List.length hb2.2
        rw [(hno rfl).1] at h2
        have h3 : 1 ≤ (bordB BO).length := by rcases (show BO = 0 ∨ BO = 1 ∨ BO = 2 by omega) with h | h | h <;> rw [h] <;> decide
        rw [← h2] at h3
        exact absurd h3 (by decide)
    obtain ⟨h1, h2⟩ := hyes hisb
    subst hisb
    rw [hb2.2] at h1
    have hb01 := hb2.1
    have CN3 : ∀ w', NamesE w' → Calls Tryd.prog 45 #[.string nm] w' fun e w'' => e = .returned (.tuple #[.int .i64 BO, .bool true]) ∧ w' = w'' := fun w' h => (CN w' h).mono fun e w'' ⟨⟨x, hx, hx2⟩, he⟩ => ⟨by rw [hx, hx2 hb, decide_eq_true hb], he⟩
    clear CN hyes hno hBO hb2 hb
    rcases sgn_or (byt a) with ⟨K, hK, c, hc⟩ | hns
    case inr =>
      have HA := hide (fun (w' : World) => ans_no14 hf (s := s) (no_sgn h1 h2 hns) w.heap.size w')
      have CU := rune_any a
      have CG := signed_no ((Go.Lib.decodeGo a).1 : Int) (fun k hk e => by
        obtain ⟨c, hc⟩ := of_dec hk e
        exact hns k hk c hc)
      clear h1 h2 hns hf
      generalize ((Go.Lib.decodeGo a).1 : Int) = RU at *
      generalize ((Go.Lib.decodeGo a).2 : Int) = SZ at *
      go_enter Tryd.func33, Tryd.ntmps33
      go_upto_region 1 with fail
      try simp only [hW1]
      clear hW1
      go_wp2_with (first
        | (go_at_call 44; (with_reducible refine CC.mono ?_); rintro e w2 ⟨rfl, n2, rfl⟩)
        | (go_at_call 45; (with_reducible refine (CN3 _ (HN.out _ (HBN.out n2))).mono ?_); rintro e w3 ⟨rfl, rfl⟩)
        | (go_at_call 46; (with_reducible refine (CU _ (HU.out _ (HBN.out n2))).mono ?_); rintro e w4 ⟨rfl, b4⟩; have HB4 := hide (bt (HBN.out n2) b4); clear b4)
        | (go_at_call 47; (with_reducible refine (CG _).mono ?_); rintro e w5 ⟨rfl, b5⟩; have HB5 := hide (bt HB4.out b5); clear b5 HB4; obtain ⟨⟨z0, z1, z2, z3, z4, z5, z6, z7, z8⟩, ⟨f0, f1, f2, f3, f4, f5, f6, f7, f8, _⟩, hB9⟩ := HP.out _ HB5.out; have B9 := hide hB9; clear hB9))
      obtain ⟨y0, y1, y2, y3, y4, y5, y6, y7, y8⟩ := p9_store ⟨z0, z1, z2, z3, z4, z5, z6, z7, z8⟩ 0 0 0 0 (.slice none 0 0) (.slice none 0 0) 0 0 0
      clear z0 z1 z2 z3 z4 z5 z6 z7 z8
      exact bodyPost_ret (v := .tuple #[.agg #[.int .i64 0, .int .i64 0, .int .i64 0, .int .i64 0, .slice none 0 0, .slice none 0 0, .int .i64 0, .int .i64 0, .int .i64 0], .bool false]) (by simp [results, Tryd.results33, go_sem, y0, y1, y2, y3, y4, y5, y6, y7, y8]) rfl ⟨HA.out _, below_set9 B9.out HS.out.1 _ _ _ _ _ _ _ _ _⟩
    case inl =>
      obtain ⟨r, hr⟩ : ∃ r : ByteArray, byt a = sgnB K ++ byt r := ⟨txt c, by rw [byt_txt (fun x hx => byt_in a x (by rw [hc]; exact List.mem_append.2 (.inr hx)))]; exact hc⟩
      have hrz : r.size ≤ a.size := by rw [← byt_len a, ← byt_len r, hr, List.length_append]; omega
      obtain ⟨o, ok, ⟨o1, o2⟩, oy, on, CA⟩ := asked_p K hK r (by omega)
      obtain ⟨d1, d2⟩ := dec_of hK hr
      have CU : ∀ w', Utf8P w' → Calls Tryd.prog 46 #[.string a] w' fun e w'' => e = .returned (.tuple #[.int .i32 (runeB K), .int .i64 ((sgnB K).length : Int)]) ∧ Below w'.heap.size w' w'' := fun w' h => by
        have := rune_any a w' h
        rw [d1, d2] at this
        exact this
      have CG := signed_yes K hK
      have q3 := sgn_rest hr
      have q0 : (sgnB K).length ≤ a.size := by rw [← byt_len a, hr, List.length_append]; omega
      have qd : decide ((sgnB K).length ≤ a.size) = true := decide_eq_true q0
      have qi : ((sgnB K).length : Int) ≤ (a.size : Int) := by omega
      obtain ⟨kd, bd, sg, rd, xs, ys, fl, wd, ht⟩ := o
      simp only at o1 o2
      subst o1 o2
      have HANS := hide (fun (w' : World) ax cx ay cy (hX : RowNew w' w.heap.size ax xs) (hY : RowNew w' w.heap.size ay ys) (hx : ax = none → cx = 0) (hy : ay = none → cy = 0) (e : ok = true) => show OneAns f s w.heap.size (.returned (.tuple #[opV ⟨kd, BO, sg, rd, xs, ys, fl, wd, ht⟩ ax cx ay cy, .bool true])) w' from
        .inl ⟨_, ax, cx, ay, cy, hf.yes (oy e _ _ BO hb01 h1 hr), rfl, hX, hY, hx, hy⟩)
      have HA := hide (fun (e : ok = false) (w' : World) => ans_no14 hf (s := s) (on e _ _ _ h1 h2 hr) w.heap.size w')
      unfold opV at CA HANS
      simp only at CA HANS
      generalize hnx : xs.length = nx at *
      generalize hny : ys.length = ny at *
      generalize hsk : (sgnB kd).length = SK at *
      generalize runeB kd = RU at *
      clear h1 h2 hf oy on d1 d2 hc hr c hrz hK
      cases ok with
      | false =>
        go_enter Tryd.func33, Tryd.ntmps33
        go_upto_region 1 with fail
        try simp only [hW1]
        clear hW1
        go_wp2_with (first
          | (go_at_call 44; (with_reducible refine CC.mono ?_); rintro e w2 ⟨rfl, n2, rfl⟩)
          | (go_at_call 45; (with_reducible refine (CN3 _ (HN.out _ (HBN.out n2))).mono ?_); rintro e w3 ⟨rfl, rfl⟩)
          | (go_at_call 46; (with_reducible refine (CU _ (HU.out _ (HBN.out n2))).mono ?_); rintro e w4 ⟨rfl, b4⟩; have HB4 := hide (bt (HBN.out n2) b4); clear b4)
          | (go_at_call 47; (with_reducible refine (CG _).mono ?_); rintro e w5 ⟨rfl, b5⟩; have HB5 := hide (bt HB4.out b5); clear b5 HB4)
          | (go_at_call 48; (with_reducible refine (CA _ (HK.out _ HB5.out)).mono ?_); rintro e w6 ⟨⟨ax, cx, ay, cy, rfl, rx, ry, zx, zy⟩, b6⟩; have HB6 := hide (bt HB5.out b6); clear b6 HB5; obtain ⟨⟨z0, z1, z2, z3, z4, z5, z6, z7, z8⟩, ⟨f0, f1, f2, f3, f4, f5, f6, f7, f8, _⟩, hB9⟩ := HP.out (w6.alloc (.cells #[.int .i64 kd, .int .i64 0, .int .i64 sg, .int .i64 rd, .slice ax nx cx, .slice ay ny cy, .int .i64 fl, .int .i64 wd, .int .i64 ht] 30)) (ba HB6.out _); have B9 := hide hB9; clear hB9 rx ry zx zy))
        obtain ⟨y0, y1, y2, y3, y4, y5, y6, y7, y8⟩ := p9_store ⟨z0, z1, z2, z3, z4, z5, z6, z7, z8⟩ 0 0 0 0 (.slice none 0 0) (.slice none 0 0) 0 0 0
        clear z0 z1 z2 z3 z4 z5 z6 z7 z8
        exact bodyPost_ret (v := .tuple #[.agg #[.int .i64 0, .int .i64 0, .int .i64 0, .int .i64 0, .slice none 0 0, .slice none 0 0, .int .i64 0, .int .i64 0, .int .i64 0], .bool false]) (by simp [results, Tryd.results33, go_sem, y0, y1, y2, y3, y4, y5, y6, y7, y8]) rfl ⟨HA.out trivial _, below_set9 B9.out HS.out.1 _ _ _ _ _ _ _ _ _⟩
      | true =>
        go_enter Tryd.func33, Tryd.ntmps33
        go_upto_region 1 with fail
        try simp only [hW1]
        clear hW1
        go_wp2_with (first
          | (go_at_call 44; (with_reducible refine CC.mono ?_); rintro e w2 ⟨rfl, n2, rfl⟩)
          | (go_at_call 45; (with_reducible refine (CN3 _ (HN.out _ (HBN.out n2))).mono ?_); rintro e w3 ⟨rfl, rfl⟩)
          | (go_at_call 46; (with_reducible refine (CU _ (HU.out _ (HBN.out n2))).mono ?_); rintro e w4 ⟨rfl, b4⟩; have HB4 := hide (bt (HBN.out n2) b4); clear b4)
          | (go_at_call 47; (with_reducible refine (CG _).mono ?_); rintro e w5 ⟨rfl, b5⟩; have HB5 := hide (bt HB4.out b5); clear b5 HB4)
          | (go_at_call 48; (with_reducible refine (CA _ (HK.out _ HB5.out)).mono ?_); rintro e w6 ⟨⟨ax, cx, ay, cy, rfl, rx, ry, zx, zy⟩, b6⟩; have HB6 := hide (bt HB5.out b6); have RX := hide ((rx.mono (show w.heap.size + 1 ≤ w5.heap.size from by have := HB5.out.size; have := HS.out.2; omega)).below (below1 w6 (.cells #[.int .i64 kd, .int .i64 BO, .int .i64 sg, .int .i64 rd, .slice ax nx cx, .slice ay ny cy, .int .i64 fl, .int .i64 wd, .int .i64 ht] 30))); have RY := hide ((ry.mono (show w.heap.size + 1 ≤ w5.heap.size from by have := HB5.out.size; have := HS.out.2; omega)).below (below1 w6 (.cells #[.int .i64 kd, .int .i64 BO, .int .i64 sg, .int .i64 rd, .slice ax nx cx, .slice ay ny cy, .int .i64 fl, .int .i64 wd, .int .i64 ht] 30))); have ZZ := hide (And.intro zx zy); clear b6 rx ry zx zy; obtain ⟨⟨z0, z1, z2, z3, z4, z5, z6, z7, z8⟩, ⟨f0, f1, f2, f3, f4, f5, f6, f7, f8, _⟩, hB9⟩ := HP.out (w6.alloc (.cells #[.int .i64 kd, .int .i64 BO, .int .i64 sg, .int .i64 rd, .slice ax nx cx, .slice ay ny cy, .int .i64 fl, .int .i64 wd, .int .i64 ht] 30)) (ba HB6.out _); have B9 := hide hB9; clear hB9))
        obtain ⟨y0, y1, y2, y3, y4, y5, y6, y7, y8⟩ := p9_store ⟨z0, z1, z2, z3, z4, z5, z6, z7, z8⟩ kd BO sg rd (.slice ax nx cx) (.slice ay ny cy) fl wd ht
        clear z0 z1 z2 z3 z4 z5 z6 z7 z8
        have HT := hide (show w.heap.size < w.heap.size + 1 from Nat.lt_succ_self _)
        exact bodyPost_ret (v := .tuple #[.agg #[.int .i64 kd, .int .i64 BO, .int .i64 sg, .int .i64 rd, .slice ax nx cx, .slice ay ny cy, .int .i64 fl, .int .i64 wd, .int .i64 ht], .bool true]) (by simp [results, Tryd.results33, go_sem, y0, y1, y2, y3, y4, y5, y6, y7, y8]) rfl
          ⟨HANS.out _ ax cx ay cy ((row_new9 RX.out HT.out _ _ _ _ _ _ _ _ _).mono (Nat.le_succ _)) ((row_new9 RY.out HT.out _ _ _ _ _ _ _ _ _).mono (Nat.le_succ _)) ZZ.out.1 ZZ.out.2 trivial, below_set9 B9.out HS.out.1 _ _ _ _ _ _ _ _ _⟩
theorem pread_yes {f : List Int → Option Opr} (hf : OneOf f) {p : ByteArray} (hp : p.size ≤ 100000) {o : Opr} (h : f (byt p) = some o) (w : World) (hk : KP w) :
    Calls Tryd.prog 33 #[.string p] w fun e w' => (∃ ax cx ay cy, e = .returned (.tuple #[opV o ax cx ay cy, .bool true]) ∧ RowNew w' w.heap.size ax o.xs ∧ RowNew w' w.heap.size ay o.ys ∧ (ax = none → cx = 0) ∧ (ay = none → cy = 0)) ∧ Below w.heap.size w w' :=
  (pread_any f hf p hp w hk).mono fun e w' ⟨hA, hB⟩ => by
    rcases hA with ⟨o', ax, cx, ay, cy, h1, h2⟩ | ⟨h1, _⟩
    · rw [h] at h1
      obtain rfl := Option.some.inj h1
      exact ⟨⟨ax, cx, ay, cy, h2⟩, hB⟩
    · rw [h] at h1
      cases h1
theorem pread_no {f : List Int → Option Opr} (hf : OneOf f) {p : ByteArray} (hp : p.size ≤ 100000) (h : f (byt p) = none) (w : World) (hk : KP w) :
    Calls Tryd.prog 33 #[.string p] w fun e w' => (∃ o ax cx ay cy, e = .returned (.tuple #[opV o ax cx ay cy, .bool false])) ∧ Below w.heap.size w w' :=
  (pread_any f hf p hp w hk).mono fun e w' ⟨hA, hB⟩ => by
    rcases hA with ⟨o', ax, cx, ay, cy, h1, _⟩ | ⟨_, h2⟩
    · rw [h] at h1
      cases h1
    · exact ⟨h2, hB⟩
end Go.Proofs.YtlknopmpbkepjaaDoor

/- Operations as texts: rows of operations beyond some block; the program's Parse. -/
namespace Go.Proofs.YtlknopmpbkepjaaDoor
open Go.RowKit Go.Shelf

attribute [local go_sem] Oper.semAt_some
/-- 'append', inside a fence, where it is told that the row stays in its block or goes to a new one. -/
theorem wpListIn_append_apart {F : Fence} {n : Nat} {P : Program} (w : World) {ops : Array Oper} {rest : List Oper} {o : Oper} {a : Act} {Q : Exit → Act → World → Prop}
    (hg : o.guard = none) (s x : Operand) (t : TypeId) (hop : o.op = Op.call { callee := Callee.builtin Builtin.append, args := #[s, x], argTypes := #[t, t] })
    (base : Nat) (e : TypeId) (i : TypeInfo) (z : Value) (size bytes : Nat) (h1 : P.underlying t = some (.slice e)) (h2 : P.info? e = some i) (h3 : i.zero = some z) (h4 : i.size = size) (h5 : i.bytes = bytes) (h6 : z.cells.size = size) (h7 : 0 < size)
    (v : Value) (k : Nat) (xs : List Value) (hs : a.eval s = v) (hown : w.ownsRow base e size v k xs) (ad : Addr) (m c : Nat) (news : List Value) (hx : a.eval x = .slice (some ad) m c) (hn : news.length = m * size)
    (hc : ∀ j u, news[j]? = some u → w.cell? (ad.add j) = some u) (h1c : ∀ u ∈ news, u.oneCell' = true) (b1 : k + m ≤ maxLen) (b2 : (k + m) * bytes ≤ 140737488355328) (b3 : base ≤ w.heap.size)
    (hK : ∀ v' w', w'.ownsRow base e size v' (k + m) (xs ++ news) → w.grownBy w' v.ownBlock → (v'.ownBlock = v.ownBlock ∨ ∀ g, v'.ownBlock = some g → w.heap.size ≤ g) → wpListIn F n P ops Q rest (a.put o.dst v') w') :
    wpListIn F n P ops Q (o :: rest) a w := by
  refine wpListIn_plain hg fun K hK' => ?_
  obtain ⟨v', w', hrun, r1, r2, r3⟩ : ∃ v' w', (Builtin.append_ #[t, t] o.type #[v, .slice (some ad) m c]).run P w = .ok v' w' ∧ w'.ownsRow base e size v' (k + m) (xs ++ news) ∧ w.grownBy w' v.ownBlock ∧ (v'.ownBlock = v.ownBlock ∨ ∀ g, v'.ownBlock = some g → w.heap.size ≤ g) := by
    have hown2 := hown
    rcases hown.2 with ⟨rfl, h0⟩ | ⟨g, cap, cur, rfl, hB, hg2, hnc, hcm, hcs, htake⟩
    · obtain ⟨v', w', hrun, r1, r2, _⟩ := run_append_own (P := P) w w.heap.size t o.type e i z size bytes h1 h2 h3 h4 h5 h6 h7 (.slice none 0 0) k xs ⟨hown.1, .inl ⟨rfl, h0⟩⟩ ad m c news hn hc h1c b1 b2 (Nat.le_refl _)
      exact ⟨v', w', hrun, own_mono r1 b3, r2, .inr (own_fresh r1)⟩
    · by_cases hr : k + m ≤ cap
      · obtain ⟨w', hrun, r1, r2⟩ := run_append_fits (P := P) w base t o.type e i size h1 h2 h4 g k cap xs hown ad m c news hn hc h1c hr
        exact ⟨_, w', hrun, r1, r2, .inl rfl⟩
      · obtain ⟨v', w', hrun, r1, r2⟩ := run_append_arg_grows (P := P) w t o.type e i z size bytes h1 h2 h3 h4 h5 h6 h7 ⟨g, 0, none⟩ k cap xs hown.1 (fun j u hj => hown2.cells (g := g) rfl j u hj) ad m c news hn hc (by omega) b1 b2
        exact ⟨v', w', hrun, own_mono r1 b3, grown_none r2, .inr (own_fresh r1)⟩
  unfold Oper.wpIn
  refine ⟨?_, ?_⟩
  · simp [Oper.about, hop, resolve, Target.leads, Sem.run_pure]
  · rw [Oper.semAt_plain F _ _ (by rw [hop]; intro c hc'; cases hc')]
    simp [execOp, hop, resolve, invoke, builtin, hs, hx, hrun, Result.andThen]
    exact hK' _ _ (hK v' w' r1 r2 r3)
/-- Operations so far, the weights of each beyond some block. -/
def HiSo (T : TypeId) (B N : Nat) (w : World) (L : List Opr) (v : Value) : Prop :=
  ∃ us, us.length = L.length ∧ OwnRec T 9 w B v us ∧ ∀ j, j < L.length → ∃ ax cx ay cy, us.getD j [] = opCells (opAt L j) ax cx ay cy ∧ OpBy w v (opAt L j) ax cx ay cy ∧ (∀ a, ax = some a → N ≤ a.block) ∧ ∀ a, ay = some a → N ≤ a.block
theorem HiSo.nil (T : TypeId) (B N : Nat) (w : World) : HiSo T B N w [] (.slice none 0 0) := ⟨[], rfl, OwnRec.nil _ _ _ _, fun _ hj => absurd hj (Nat.not_lt_zero _)⟩
theorem HiSo.so {T : TypeId} {B N : Nat} {w : World} {L : List Opr} {v : Value} (h : HiSo T B N w L v) : OpsSo T B w L v := by
  obtain ⟨us, h1, h2, h3⟩ := h
  exact ⟨us, h1, h2, fun j hj => by obtain ⟨ax, cx, ay, cy, e, a, _⟩ := h3 j hj; exact ⟨ax, cx, ay, cy, e, a⟩⟩
theorem HiSo.below {T : TypeId} {B N : Nat} {w w' : World} {L : List Opr} {v : Value} (h : HiSo T B N w L v) (hb : Below w.heap.size w w') : HiSo T B N w' L v := by
  obtain ⟨us, h1, h2, h3⟩ := h
  exact ⟨us, h1, h2.below hb, fun j hj => by obtain ⟨ax, cx, ay, cy, e, a, r⟩ := h3 j hj; exact ⟨ax, cx, ay, cy, e, a.below hb, r⟩⟩
theorem RowBy.grown {w w' : World} {v : Value} {ad : Option Addr} {xs : List Int} {row : Option Nat} {N : Nat} (h : RowBy w v ad xs) (hN : ∀ a, ad = some a → N ≤ a.block) (hg : w.grownBy w' row) (hr : ∀ r, row = some r → r < N ∨ ∃ o : Obj, w.heap[r]? = some o ∧ o.isCells = false) : RowBy w' v ad xs := by
  refine ⟨?_, fun a e => ⟨(h.2 a e).1, Nat.lt_of_lt_of_le (h.2 a e).2 hg.size⟩⟩
  rcases h.1 with e | ⟨g, off, e, c⟩
  · exact .inl e
  · by_cases hx : xs = []
    · exact .inl hx
    · refine .inr ⟨g, off, e, fun j hj => ?_⟩
      refine cg hg (fun q => ?_) (c j hj)
      rcases hr g q.symm with h1 | ⟨o, ho, hc⟩
      · have := hN _ e
        simp only at this
        omega
      · obtain ⟨o', ho', hc'⟩ := cells_of_cell (c j hj)
        rw [ho] at ho'
        obtain rfl := Option.some.inj ho'
        rw [hc] at hc'
        cases hc'
theorem HiSo.grown {T : TypeId} {B N : Nat} {w w' : World} {L : List Opr} {v : Value} {row : Option Nat} (h : HiSo T B N w L v) (hg : w.grownBy w' row) (hv : v.ownBlock = none ∨ v.ownBlock ≠ row) (hr : ∀ r, row = some r → r < N ∨ ∃ o : Obj, w.heap[r]? = some o ∧ o.isCells = false) : HiSo T B N w' L v := by
  obtain ⟨us, h1, h2, h3⟩ := h
  refine ⟨us, h1, ⟨World.ownsRow.kept h2.1 hg hv, h2.2⟩, fun j hj => ?_⟩
  obtain ⟨ax, cx, ay, cy, e, ⟨a1, a2, a3⟩, r1, r2⟩ := h3 j hj
  exact ⟨ax, cx, ay, cy, e, ⟨a1.grown r1 hg hr, a2.grown r2 hg hr, a3⟩, r1, r2⟩
theorem HiSo.form {T : TypeId} {B N : Nat} {w : World} {L : List Opr} {v : Value} (h : HiSo T B N w L v) : ∃ us : List (List Value), w.ownsRow B T 9 v L.length us.flatten := by
  obtain ⟨us, h1, h2, _⟩ := h
  exact ⟨us, by rw [← h1]; exact h2.1⟩
/-- A box is written. -/
theorem HiSo.set {T t : TypeId} {B N b : Nat} {w : World} {L : List Opr} {v u : Value} (h : HiSo T B N w L v) (hbx : Boxed w b t u) (ht : t ≠ T) (hb : b < N) (u' : Value) : HiSo T B N (w.setCell ⟨b, 0, none⟩ u') L v := by
  obtain ⟨us, ho⟩ := h.form
  exact h.grown (grownBy_setCell' w b u') (.inr (hbx.not_row ht ho).symm) (fun r e => by cases e; exact .inl hb)
theorem HiSo.own {T : TypeId} {B N : Nat} {A W : World} {L : List Opr} {v : Value} {row : Option Nat} (h : HiSo T B N A L v) (hg : A.grownBy W row) (nc : ∀ r, row = some r → ∃ o : Obj, A.heap[r]? = some o ∧ o.isCells = false) : HiSo T B N W L v := by
  obtain ⟨us, ho⟩ := h.form
  refine h.grown hg ?_ (fun r e => .inr (nc r e))
  rcases ho.2 with ⟨rfl, _⟩ | ⟨g, cap, cur, rfl, _, hgb, _⟩
  · exact .inl rfl
  · refine .inr fun e' => ?_
    obtain ⟨o, ho, hc⟩ := nc g (by simpa [Value.ownBlock] using e'.symm)
    rw [hgb] at ho; cases ho; cases hc
theorem HiSo.more {T : TypeId} {B N : Nat} {wc w2 : World} {L : List Opr} {o : Opr} {v v' : Value} {ax ay : Option Addr} {cx cy : Nat} {us : List (List Value)} (hu : us.length = L.length) (h9 : ∀ x ∈ us, x.length = 9)
    (hc : ∀ j, j < L.length → ∃ ax cx ay cy, us.getD j [] = opCells (opAt L j) ax cx ay cy ∧ OpBy wc v (opAt L j) ax cx ay cy ∧ (∀ a, ax = some a → N ≤ a.block) ∧ ∀ a, ay = some a → N ≤ a.block) (ha : OpBy wc v o ax cx ay cy) (hn1 : ∀ a, ax = some a → N ≤ a.block) (hn2 : ∀ a, ay = some a → N ≤ a.block)
    (own : w2.ownsRow B T 9 v' (L.length + 1) (us.flatten ++ opCells o ax cx ay cy)) (grow : wc.grownBy w2 v.ownBlock) (ap : v'.ownBlock = v.ownBlock ∨ ∀ g, v'.ownBlock = some g → wc.heap.size ≤ g) : HiSo T B N w2 (L ++ [o]) v' := by
  refine ⟨us ++ [opCells o ax cx ay cy], by rw [List.length_append, List.length_append, hu]; rfl, OwnRec.more h9 rfl (by rw [hu]) own, fun j hj => ?_⟩
  rw [List.length_append, List.length_singleton] at hj
  by_cases e : j = L.length
  · subst e
    refine ⟨ax, cx, ay, cy, ?_, ?_, hn1, hn2⟩
    · rw [← hu, List.getD_eq_getElem?_getD, List.getElem?_append_right (Nat.le_refl _), Nat.sub_self, hu, show opAt (L ++ [o]) L.length = o from opAt_right (j := 0)]
      rfl
    · rw [show opAt (L ++ [o]) L.length = o from opAt_right (j := 0)]
      exact ⟨ha.1.kept grow ap, ha.2.1.kept grow ap, ha.2.2⟩
  · obtain ⟨a, b, c, d, h1, h2, h3⟩ := hc j (by omega)
    refine ⟨a, b, c, d, ?_, ?_, h3⟩
    · rw [List.getD_eq_getElem?_getD, List.getElem?_append_left (by omega), ← List.getD_eq_getElem?_getD, opAt_left (by omega)]
      exact h1
    · rw [opAt_left (by omega)]
      exact ⟨h2.1.kept grow ap, h2.2.1.kept grow ap, h2.2.2⟩
/-! ### Whose words the parts are -/
theorem goW_all (f : List Int → Option Opr) : ∀ {ps : List (List Int)} {L : List Opr}, ps.map f = L.map some → goW f ps = (L, true)
  | [], [], _ => rfl
  | [], _ :: _, h => by cases h
  | _ :: _, [], h => by cases h
  | p :: ps, o :: L, h => by
    obtain ⟨h1, h2⟩ := List.cons.inj h
    rw [goW_some h1, goW_all f h2]
theorem goW_bad (f : List Int → Option Opr) : ∀ {qs : List (List Int)} {L : List Opr} {p : List Int} {r : List (List Int)}, qs.map f = L.map some → f p = none → goW f (qs ++ p :: r) = (L, false)
  | [], [], _, _, _, hp => goW_none hp _
  | [], _ :: _, _, _, h, _ => by cases h
  | _ :: _, [], _, _, h, _ => by cases h
  | q :: qs, o :: L, _, _, h, hp => by
    obtain ⟨h1, h2⟩ := List.cons.inj h
    rw [List.cons_append, goW_some h1, goW_bad f h2 hp]
def AreO (f : List Int → Option Opr) (pre : List Sm) (L : List Opr) : Prop := (pre.map fun p => byt p.1).map f = L.map some
theorem AreO.more {f : List Int → Option Opr} {pre : List Sm} {L : List Opr} (h : AreO f pre L) {p : Sm} {o : Opr} (hp : f (byt p.1) = some o) : AreO f (pre ++ [p]) (L ++ [o]) := by
  unfold AreO at *
  rw [List.map_append, List.map_append, List.map_append, h, List.map_singleton, List.map_singleton, List.map_singleton, hp]
theorem AreO.len {f : List Int → Option Opr} {pre : List Sm} {L : List Opr} (h : AreO f pre L) : L.length = pre.length := by
  have := congrArg List.length h
  rw [List.length_map, List.length_map, List.length_map] at this
  exact this.symm
theorem parsed_all {f : List Int → Option Opr} {s : ByteArray} {ys : List Sm} {L : List Opr} (h : ys.map (·.1) = pieces 59 s) (hA : AreO f ys L) : parseW f (byt s) = (L, true) := by
  have e : (pieces 59 s).map byt = ys.map fun p => byt p.1 := by rw [← h, List.map_map]; rfl
  rw [pieces_byt] at e
  unfold parseW
  by_cases hs : byt s = []
  · rw [if_pos hs] at e ⊢
    unfold AreO at hA
    rw [← e] at hA
    rw [List.map_eq_nil_iff.1 hA.symm]
  · rw [if_neg hs] at e ⊢
    rw [e]
    exact goW_all f hA
theorem parsed_bad {f : List Int → Option Opr} {s : ByteArray} {qs : List Sm} {p : Sm} {L : List Opr} (h : (qs ++ [p]).map (·.1) <+: pieces 59 s) (hA : AreO f qs L) (hp : f (byt p.1) = none) : parseW f (byt s) = (L, false) := by
  obtain ⟨r, hr⟩ := h
  have e : (pieces 59 s).map byt = (qs.map fun p => byt p.1) ++ byt p.1 :: r.map byt := by
    rw [← hr, List.map_append, List.map_append, List.map_append, List.map_map, List.append_assoc]
    rfl
  rw [pieces_byt] at e
  unfold parseW
  by_cases hs : byt s = []
  · rw [if_pos hs] at e
    simp at e
  · rw [if_neg hs] at e ⊢
    rw [e]
    exact goW_bad f hA hp
/-- What the program's Parse answers. -/
def PParseAns (f : List Int → Option Opr) (s : ByteArray) (e : Ending) (w' : World) : Prop :=
  ∃ ad cap, e = .returned (.tuple #[.slice ad (parseW f (byt s)).1.length cap, .int .i64 (if (parseW f (byt s)).2 = true then 0 else ((parseW f (byt s)).1.length : Int)), .int .i64 (if (parseW f (byt s)).2 = true then 0 else 6)]) ∧ OpsAt w' ad (parseW f (byt s)).1 ∧ (ad = none → cap = 0)
def PSt (f : List Int → Option Opr) (w W : World) (pre : List Sm) : Prop :=
  (∃ L v, AreO f pre L ∧ Boxed W w.heap.size 22 v ∧ HiSo 30 w.heap.size (w.heap.size + 1 + 1 + 1 + 1 + 1) W L v) ∧
  (Boxed W (w.heap.size + 1) 3 (.int .i64 0) ∧ Boxed W (w.heap.size + 1 + 1) 36 (.int .i64 0)) ∧ Boxed W (w.heap.size + 1 + 1 + 1 + 1) 9 (.string (txt [59]))
def PBad (f : List Int → Option Opr) (w W : World) (pre : List Sm) : Prop :=
  ∃ qs p L v, pre = qs ++ [p] ∧ AreO f qs L ∧ f (byt p.1) = none ∧ Boxed W w.heap.size 22 v ∧ HiSo 30 w.heap.size (w.heap.size + 1 + 1 + 1 + 1 + 1) W L v ∧ Boxed W (w.heap.size + 1) 3 (.int .i64 (L.length : Int)) ∧ Boxed W (w.heap.size + 1 + 1) 36 (.int .i64 6)
theorem pst_own (f : List Int → Option Opr) (w : World) (B : Nat) : OwnFrom B (fun pre W => PSt f w W pre) := by
  rintro pre A W row ⟨⟨L, v, h1, h2, h2b⟩, ⟨h3, h4⟩, h5⟩ hg hr
  have nc : ∀ r, row = some r → ∃ o : Obj, A.heap[r]? = some o ∧ o.isCells = false := fun r e => (hr r e).2
  have bx := fun {b : Nat} {t : TypeId} {v : Value} (h : Boxed A b t v) => boxed_own (β := Unit) b t (fun _ => v) () A W row h hg nc
  exact ⟨⟨L, v, h1, bx h2, h2b.own hg nc⟩, ⟨bx h3, bx h4⟩, bx h5⟩
theorem pbad_own (f : List Int → Option Opr) (w : World) (B : Nat) : OwnFrom B (fun pre W => PBad f w W pre) := by
  rintro pre A W row ⟨qs, p, L, v, h0, h1, h2, h3, h4, h5, h6⟩ hg hr
  have nc : ∀ r, row = some r → ∃ o : Obj, A.heap[r]? = some o ∧ o.isCells = false := fun r e => (hr r e).2
  have bx := fun {b : Nat} {t : TypeId} {v : Value} (h : Boxed A b t v) => boxed_own (β := Unit) b t (fun _ => v) () A W row h hg nc
  exact ⟨qs, p, L, v, h0, h1, h2, bx h3, h4.own hg nc, bx h5, bx h6⟩
end Go.Proofs.YtlknopmpbkepjaaDoor
