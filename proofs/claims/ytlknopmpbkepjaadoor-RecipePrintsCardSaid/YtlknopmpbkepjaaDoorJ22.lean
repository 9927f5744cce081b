/- Parts, joined. -/
import Derived.Test.YtlknopmpbkepjaaDoorJ21
import Derived.Test.YtlknopmpbkepjaaDoorJ17
import Derived.Test.YtlknopmpbkepjaaDoorJ18
/- Operations as texts: what a kind asks for, read by the program; a word. -/
namespace Go.Proofs.YtlknopmpbkepjaaDoor
open Go.RowKit

theorem asked_new (k : Int) (w w2 : World) (b : Below (w.alloc (.cells #[.int .i64 k, .int .i64 0, .int .i64 0, .int .i64 0, .slice none 0 0, .slice none 0 0, .int .i64 0, .int .i64 0, .int .i64 0] 30)).heap.size (w.alloc (.cells #[.int .i64 k, .int .i64 0, .int .i64 0, .int .i64 0, .slice none 0 0, .slice none 0 0, .int .i64 0, .int .i64 0, .int .i64 0] 30)) w2) :
    P9 w2 w.heap.size k 0 0 0 (.slice none 0 0) (.slice none 0 0) 0 0 0 ∧ F9 w2 w.heap.size ∧ Below w.heap.size w w2 :=
  ⟨(P9.new w 30 _ _ _ _ _ _ _ _ _).below b, (F9.new w _ 30).below b, bt (below1 w _) b⟩
theorem p9_set2 {w : World} {b : Nat} {k d s r : Int} {x y : Value} {f a h : Int} (p : P9 w b k d s r x y f a h) (s' : Int) : P9 (w.setCell ⟨b, 2, none⟩ (.int .i64 s')) b k d s' r x y f a h := by
  obtain ⟨p0, p1, p2, p3, p4, p5, p6, p7, p8⟩ := p
  have o := fun (i : Nat) (hi : 2 ≠ i) => World.cell?_setCell_other w ⟨b, 2, none⟩ ⟨b, i, none⟩ (.int .i64 s') (by intro e; simp only [Addr.mk.injEq] at e; omega)
  exact ⟨(o 0 (by omega)).trans p0, (o 1 (by omega)).trans p1, World.cell?_setCell_same' _ _ _ (by rw [p2]; rfl), (o 3 (by omega)).trans p3, (o 4 (by omega)).trans p4, (o 5 (by omega)).trans p5, (o 6 (by omega)).trans p6, (o 7 (by omega)).trans p7, (o 8 (by omega)).trans p8⟩
theorem p9_set3 {w : World} {b : Nat} {k d s r : Int} {x y : Value} {f a h : Int} (p : P9 w b k d s r x y f a h) (r' : Int) : P9 (w.setCell ⟨b, 3, none⟩ (.int .i64 r')) b k d s r' x y f a h := by
  obtain ⟨p0, p1, p2, p3, p4, p5, p6, p7, p8⟩ := p
  have o := fun (i : Nat) (hi : 3 ≠ i) => World.cell?_setCell_other w ⟨b, 3, none⟩ ⟨b, i, none⟩ (.int .i64 r') (by intro e; simp only [Addr.mk.injEq] at e; omega)
  exact ⟨(o 0 (by omega)).trans p0, (o 1 (by omega)).trans p1, (o 2 (by omega)).trans p2, World.cell?_setCell_same' _ _ _ (by rw [p3]; rfl), (o 4 (by omega)).trans p4, (o 5 (by omega)).trans p5, (o 6 (by omega)).trans p6, (o 7 (by omega)).trans p7, (o 8 (by omega)).trans p8⟩
theorem p9_set5 {w : World} {b : Nat} {k d s r : Int} {x y : Value} {f a h : Int} (p : P9 w b k d s r x y f a h) (y' : Value) : P9 (w.setCell ⟨b, 5, none⟩ y') b k d s r x y' f a h := by
  obtain ⟨p0, p1, p2, p3, p4, p5, p6, p7, p8⟩ := p
  have o := fun (i : Nat) (hi : 5 ≠ i) => World.cell?_setCell_other w ⟨b, 5, none⟩ ⟨b, i, none⟩ y' (by intro e; simp only [Addr.mk.injEq] at e; omega)
  exact ⟨(o 0 (by omega)).trans p0, (o 1 (by omega)).trans p1, (o 2 (by omega)).trans p2, (o 3 (by omega)).trans p3, (o 4 (by omega)).trans p4, World.cell?_setCell_same' _ _ _ (by rw [p5]; rfl), (o 6 (by omega)).trans p6, (o 7 (by omega)).trans p7, (o 8 (by omega)).trans p8⟩
theorem p9_store {w : World} {b : Nat} {k d s r : Int} {x y : Value} {f a h : Int} (p : P9 w b k d s r x y f a h) (k' d' s' r' : Int) (x' y' : Value) (f' a' h' : Int) :
    P9 (((((((((w.setCell ⟨b, 0, none⟩ (.int .i64 k')).setCell ⟨b, 1, none⟩ (.int .i64 d')).setCell ⟨b, 2, none⟩ (.int .i64 s')).setCell ⟨b, 3, none⟩ (.int .i64 r')).setCell ⟨b, 4, none⟩ x').setCell ⟨b, 5, none⟩ y').setCell ⟨b, 6, none⟩ (.int .i64 f')).setCell ⟨b, 7, none⟩ (.int .i64 a')).setCell ⟨b, 8, none⟩ (.int .i64 h')) b k' d' s' r' x' y' f' a' h' :=
  p9_set8 (p9_set7 (p9_set6 (p9_set5 (p9_set4 (p9_set3 (p9_set2 (p9_set1 (p9_set0 p k') d') s') r') x') y') f') a') h'
theorem row_new11 {w : World} {B b c : Nat} {ad : Option Addr} {xs : List Int} (h : RowNew w B ad xs) (hb : b < B) (hc : c < B) (i j : Nat) (x y v0 v1 v2 v3 v4 v5 v6 v7 v8 : Value) : RowNew (((((((((((w.setCell ⟨c, i, none⟩ x).setCell ⟨c, j, none⟩ y).setCell ⟨b, 0, none⟩ v0).setCell ⟨b, 1, none⟩ v1).setCell ⟨b, 2, none⟩ v2).setCell ⟨b, 3, none⟩ v3).setCell ⟨b, 4, none⟩ v4).setCell ⟨b, 5, none⟩ v5).setCell ⟨b, 6, none⟩ v6).setCell ⟨b, 7, none⟩ v7).setCell ⟨b, 8, none⟩ v8) B ad xs :=
  (((((((((((h.set hc i x).set hc j y).set hb 0 v0).set hb 1 v1).set hb 2 v2).set hb 3 v3).set hb 4 v4).set hb 5 v5).set hb 6 v6).set hb 7 v7).set hb 8 v8)
set_option maxHeartbeats 2000000 in
set_option maxRecDepth 100000 in
theorem asked_0 (r : ByteArray) (x : Int) (ok : Bool) (CN : ∀ w, KP w → Calls Tryd.prog 58 #[.string r] w fun e w' => e = .returned (.tuple #[.int .i64 x, .bool ok]) ∧ Below w.heap.size w w') (w : World) (hk : KP w) :
    Calls Tryd.prog 48 #[.int .i64 0, .string r] w fun e w' => e = .returned (.tuple #[.agg #[.int .i64 0, .int .i64 0, .int .i64 x, .int .i64 0, .slice none 0 0, .slice none 0 0, .int .i64 0, .int .i64 0, .int .i64 0], .bool ok]) ∧ Below w.heap.size w w' := by
  have HK := hide hk
  clear hk
  have HS := hide (show w.heap.size ≤ w.heap.size from Nat.le_refl _)
  have HP := hide (fun (w2 : World) (b : Below (w.alloc (.cells #[.int .i64 0, .int .i64 0, .int .i64 0, .int .i64 0, .slice none 0 0, .slice none 0 0, .int .i64 0, .int .i64 0, .int .i64 0] 30)).heap.size (w.alloc (.cells #[.int .i64 0, .int .i64 0, .int .i64 0, .int .i64 0, .slice none 0 0, .slice none 0 0, .int .i64 0, .int .i64 0, .int .i64 0] 30)) w2) => asked_new 0 w w2 b)
  go_enter Tryd.func48, Tryd.ntmps48
  go_wp2_with (go_at_call 58; (with_reducible refine (CN _ (kp_below HK.out (below1 _ _))).mono ?_); rintro e w2 ⟨rfl, b2⟩; have HQ := hide (HP.out _ b2); obtain ⟨⟨z0, z1, z2, z3, z4, z5, z6, z7, z8⟩, ⟨f0, f1, f2, f3, f4, f5, f6, f7, f8, _⟩, _⟩ := HP.out _ b2)
  have B9 := HQ.out.2.2
  exact bodyPost_ret (v := .tuple #[.agg #[.int .i64 0, .int .i64 0, .int .i64 x, .int .i64 0, .slice none 0 0, .slice none 0 0, .int .i64 0, .int .i64 0, .int .i64 0], .bool ok]) (by simp [results, Tryd.results48, go_sem, z0, z1, z2, z3, z4, z5, z6, z7, z8]) rfl ⟨rfl, below_set10 B9 HS.out HS.out _ _ _ _ _ _ _ _ _ _ _⟩
set_option maxHeartbeats 2000000 in
set_option maxRecDepth 100000 in
theorem asked_1 (r : ByteArray) (x : Int) (ok : Bool) (CN : ∀ w, KP w → Calls Tryd.prog 59 #[.string r] w fun e w' => e = .returned (.tuple #[.int .i64 x, .bool ok]) ∧ Below w.heap.size w w') (w : World) (hk : KP w) :
    Calls Tryd.prog 48 #[.int .i64 1, .string r] w fun e w' => e = .returned (.tuple #[.agg #[.int .i64 1, .int .i64 0, .int .i64 0, .int .i64 x, .slice none 0 0, .slice none 0 0, .int .i64 0, .int .i64 0, .int .i64 0], .bool ok]) ∧ Below w.heap.size w w' := by
  have HK := hide hk
  clear hk
  have HS := hide (show w.heap.size ≤ w.heap.size from Nat.le_refl _)
  have HP := hide (fun (w2 : World) (b : Below (w.alloc (.cells #[.int .i64 1, .int .i64 0, .int .i64 0, .int .i64 0, .slice none 0 0, .slice none 0 0, .int .i64 0, .int .i64 0, .int .i64 0] 30)).heap.size (w.alloc (.cells #[.int .i64 1, .int .i64 0, .int .i64 0, .int .i64 0, .slice none 0 0, .slice none 0 0, .int .i64 0, .int .i64 0, .int .i64 0] 30)) w2) => asked_new 1 w w2 b)
  go_enter Tryd.func48, Tryd.ntmps48
  go_wp2_with (go_at_call 59; (with_reducible refine (CN _ (kp_below HK.out (below1 _ _))).mono ?_); rintro e w2 ⟨rfl, b2⟩; have HQ := hide (HP.out _ b2); obtain ⟨⟨z0, z1, z2, z3, z4, z5, z6, z7, z8⟩, ⟨f0, f1, f2, f3, f4, f5, f6, f7, f8, _⟩, _⟩ := HP.out _ b2)
  have B9 := HQ.out.2.2
  exact bodyPost_ret (v := .tuple #[.agg #[.int .i64 1, .int .i64 0, .int .i64 0, .int .i64 x, .slice none 0 0, .slice none 0 0, .int .i64 0, .int .i64 0, .int .i64 0], .bool ok]) (by simp [results, Tryd.results48, go_sem, z0, z1, z2, z3, z4, z5, z6, z7, z8]) rfl ⟨rfl, below_set10 B9 HS.out HS.out _ _ _ _ _ _ _ _ _ _ _⟩
set_option maxHeartbeats 2000000 in
set_option maxRecDepth 100000 in
theorem asked_2 (r : ByteArray) (xs ys : List Int) (nx ny : Nat) (ok : Bool) (CN : ∀ w, KP w → Calls Tryd.prog 60 #[.string r] w fun e w' => (∃ ax cx ay cy, e = .returned (.tuple #[.slice ax nx cx, .slice ay ny cy, .bool ok]) ∧ RowNew w' w.heap.size ax xs ∧ RowNew w' w.heap.size ay ys ∧ (ax = none → cx = 0) ∧ (ay = none → cy = 0)) ∧ Below w.heap.size w w') (w : World) (hk : KP w) :
    Calls Tryd.prog 48 #[.int .i64 2, .string r] w fun e w' => (∃ ax cx ay cy, e = .returned (.tuple #[.agg #[.int .i64 2, .int .i64 0, .int .i64 0, .int .i64 0, .slice ax nx cx, .slice ay ny cy, .int .i64 0, .int .i64 0, .int .i64 0], .bool ok]) ∧ RowNew w' w.heap.size ax xs ∧ RowNew w' w.heap.size ay ys ∧ (ax = none → cx = 0) ∧ (ay = none → cy = 0)) ∧ Below w.heap.size w w' := by
  have HK := hide hk
  clear hk
  have HS := hide (show w.heap.size ≤ w.heap.size from Nat.le_refl _)
  have HP := hide (fun (w2 : World) (b : Below (w.alloc (.cells #[.int .i64 2, .int .i64 0, .int .i64 0, .int .i64 0, .slice none 0 0, .slice none 0 0, .int .i64 0, .int .i64 0, .int .i64 0] 30)).heap.size (w.alloc (.cells #[.int .i64 2, .int .i64 0, .int .i64 0, .int .i64 0, .slice none 0 0, .slice none 0 0, .int .i64 0, .int .i64 0, .int .i64 0] 30)) w2) => asked_new 2 w w2 b)
  have HT := hide (show w.heap.size < w.heap.size + 1 from Nat.lt_succ_self _)
  go_enter Tryd.func48, Tryd.ntmps48
  go_wp2_with (go_at_call 60; (with_reducible refine (CN _ (kp_below HK.out (below1 _ _))).mono ?_); rintro e w2 ⟨⟨ax, cx, ay, cy, rfl, rx, ry, zx, zy⟩, b2⟩; have RX := hide (show RowNew w2 (w.heap.size + 1) ax xs by rw [World.size_alloc] at rx; exact rx); have RY := hide (show RowNew w2 (w.heap.size + 1) ay ys by rw [World.size_alloc] at ry; exact ry); have ZZ := hide (And.intro zx zy); clear rx ry zx zy; have HQ := hide (HP.out _ b2); obtain ⟨⟨z0, z1, z2, z3, z4, z5, z6, z7, z8⟩, ⟨f0, f1, f2, f3, f4, f5, f6, f7, f8, _⟩, _⟩ := HP.out _ b2)
  have B9 := HQ.out.2.2
  obtain ⟨y0, y1, y2, y3, y4, y5, y6, y7, y8⟩ := p9_store (p9_set5 (p9_set4 ⟨z0, z1, z2, z3, z4, z5, z6, z7, z8⟩ (.slice ax nx cx)) (.slice ay ny cy)) 2 0 0 0 (.slice ax nx cx) (.slice ay ny cy) 0 0 0
  clear z0 z1 z2 z3 z4 z5 z6 z7 z8
  exact bodyPost_ret (v := .tuple #[.agg #[.int .i64 2, .int .i64 0, .int .i64 0, .int .i64 0, .slice ax nx cx, .slice ay ny cy, .int .i64 0, .int .i64 0, .int .i64 0], .bool ok]) (by simp [results, Tryd.results48, go_sem, y0, y1, y2, y3, y4, y5, y6, y7, y8]) rfl ⟨⟨ax, cx, ay, cy, rfl, (row_new11 RX.out HT.out HT.out _ _ _ _ _ _ _ _ _ _ _ _ _).mono (Nat.le_succ _), (row_new11 RY.out HT.out HT.out _ _ _ _ _ _ _ _ _ _ _ _ _).mono (Nat.le_succ _), ZZ.out.1, ZZ.out.2⟩, below_set11 B9 HS.out HS.out _ _ _ _ _ _ _ _ _ _ _ _ _⟩
set_option maxHeartbeats 2000000 in
set_option maxRecDepth 100000 in
theorem asked_3 (r : ByteArray) (wd ht fl : Int) (ok : Bool) (CN : ∀ w, KP w → Calls Tryd.prog 61 #[.string r] w fun e w' => e = .returned (.tuple #[.int .i64 wd, .int .i64 ht, .int .i64 fl, .bool ok]) ∧ Below w.heap.size w w') (w : World) (hk : KP w) :
    Calls Tryd.prog 48 #[.int .i64 3, .string r] w fun e w' => e = .returned (.tuple #[.agg #[.int .i64 3, .int .i64 0, .int .i64 0, .int .i64 0, .slice none 0 0, .slice none 0 0, .int .i64 fl, .int .i64 wd, .int .i64 ht], .bool ok]) ∧ Below w.heap.size w w' := by
  have HK := hide hk
  clear hk
  have HS := hide (show w.heap.size ≤ w.heap.size from Nat.le_refl _)
  have HP := hide (fun (w2 : World) (b : Below (w.alloc (.cells #[.int .i64 3, .int .i64 0, .int .i64 0, .int .i64 0, .slice none 0 0, .slice none 0 0, .int .i64 0, .int .i64 0, .int .i64 0] 30)).heap.size (w.alloc (.cells #[.int .i64 3, .int .i64 0, .int .i64 0, .int .i64 0, .slice none 0 0, .slice none 0 0, .int .i64 0, .int .i64 0, .int .i64 0] 30)) w2) => asked_new 3 w w2 b)
  go_enter Tryd.func48, Tryd.ntmps48
  go_wp2_with (go_at_call 61; (with_reducible refine (CN _ (kp_below HK.out (below1 _ _))).mono ?_); rintro e w2 ⟨rfl, b2⟩; have HQ := hide (HP.out _ b2); obtain ⟨⟨z0, z1, z2, z3, z4, z5, z6, z7, z8⟩, ⟨f0, f1, f2, f3, f4, f5, f6, f7, f8, _⟩, _⟩ := HP.out _ b2)
  have B9 := HQ.out.2.2
  obtain ⟨y0, y1, y2, y3, y4, y5, y6, y7, y8⟩ := p9_store (p9_set6 (p9_set8 (p9_set7 ⟨z0, z1, z2, z3, z4, z5, z6, z7, z8⟩ wd) ht) fl) 3 0 0 0 (.slice none 0 0) (.slice none 0 0) fl wd ht
  clear z0 z1 z2 z3 z4 z5 z6 z7 z8
  exact bodyPost_ret (v := .tuple #[.agg #[.int .i64 3, .int .i64 0, .int .i64 0, .int .i64 0, .slice none 0 0, .slice none 0 0, .int .i64 fl, .int .i64 wd, .int .i64 ht], .bool ok]) (by simp [results, Tryd.results48, go_sem, y0, y1, y2, y3, y4, y5, y6, y7, y8]) rfl ⟨rfl, below_set11 (B9.setCell (p := ⟨w.heap.size, 7, none⟩) HS.out _) HS.out HS.out _ _ _ _ _ _ _ _ _ _ _ _ _⟩
/-- What a kind asks for, out of what stands between the sign and the bar. -/
theorem asked_p (k : Int) (hk : 0 ≤ k ∧ k ≤ 3) (r : ByteArray) (hr : r.size ≤ 100000) : ∃ (o : Opr) (ok : Bool), (o.kd = k ∧ o.bd = 0) ∧ (ok = true → ∀ (s a : List Int) (bo : Int), 0 ≤ bo ∧ bo ≤ 2 → s = a ++ 124 :: bordB bo → a = sgnB k ++ byt r → IsWord s { o with bd := bo }) ∧
    (ok = false → ∀ (s a b : List Int), s = a ++ 124 :: b → (124 : Int) ∉ a → a = sgnB k ++ byt r → ∀ o, ¬ IsWord s o) ∧
    ∀ w, KP w → Calls Tryd.prog 48 #[.int .i64 k, .string r] w fun e w' => (∃ ax cx ay cy, e = .returned (.tuple #[opV o ax cx ay cy, .bool ok]) ∧ RowNew w' w.heap.size ax o.xs ∧ RowNew w' w.heap.size ay o.ys ∧ (ax = none → cx = 0) ∧ (ay = none → cy = 0)) ∧ Below w.heap.size w w' := by
  rcases (show k = 0 ∨ k = 1 ∨ k = 2 ∨ k = 3 by omega) with rfl | rfl | rfl | rfl
  · obtain ⟨x, ok, h1, h0, C⟩ := num_p r (by omega)
    refine ⟨g0 0 x, ok, ⟨rfl, rfl⟩, fun e s a bo hb hs ha => is_g0 hb (h1 e).1 hs ha (h1 e).2, fun e s a b hs hn ha => no_g0 hs hn ha (h0 e), fun w hw => (asked_0 r x ok C w hw).mono fun e w' ⟨he, hB⟩ => ⟨⟨none, 0, none, 0, he, ⟨.inl rfl, fun a e => by cases e⟩, ⟨.inl rfl, fun a e => by cases e⟩, fun _ => rfl, fun _ => rfl⟩, hB⟩⟩
  · obtain ⟨x, ok, h1, h0, C⟩ := cnt_p r (by omega)
    refine ⟨g1 0 x, ok, ⟨rfl, rfl⟩, fun e s a bo hb hs ha => is_g1 hb (h1 e).1 hs ha (h1 e).2, fun e s a b hs hn ha => no_g1 hs hn ha (h0 e), fun w hw => (asked_1 r x ok C w hw).mono fun e w' ⟨he, hB⟩ => ⟨⟨none, 0, none, 0, he, ⟨.inl rfl, fun a e => by cases e⟩, ⟨.inl rfl, fun a e => by cases e⟩, fun _ => rfl, fun _ => rfl⟩, hB⟩⟩
  · obtain ⟨xs, ys, ok, h1, h0, C⟩ := weights_p r hr
    refine ⟨g2 0 xs ys, ok, ⟨rfl, rfl⟩, fun e s a bo hb hs ha => is_g2 hb (h1 e).1 (h1 e).2.1 hs ha (h1 e).2.2, fun e s a b hs hn ha => no_g2 hs hn ha (h0 e), fun w hw => asked_2 r xs ys xs.length ys.length ok C w hw⟩
  · obtain ⟨wd, ht, fl, ok, h1, h0, C⟩ := resize_p r hr
    refine ⟨g3 0 fl wd ht, ok, ⟨rfl, rfl⟩, fun e s a bo hb hs ha => is_g3 hb (h1 e).2.2.1 (h1 e).1 (h1 e).2.1 hs ha (h1 e).2.2.2, fun e s a b hs hn ha => no_g3 hs hn ha (h0 e), fun w hw => (asked_3 r wd ht fl ok C w hw).mono fun e w' ⟨he, hB⟩ => ⟨⟨none, 0, none, 0, he, ⟨.inl rfl, fun a e => by cases e⟩, ⟨.inl rfl, fun a e => by cases e⟩, fun _ => rfl, fun _ => rfl⟩, hB⟩⟩
end Go.Proofs.YtlknopmpbkepjaaDoor
