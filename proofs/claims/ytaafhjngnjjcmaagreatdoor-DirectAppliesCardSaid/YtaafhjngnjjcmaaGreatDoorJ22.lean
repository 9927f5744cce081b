/- Parts, joined. -/
import Derived.Test.YtaafhjngnjjcmaaGreatDoorJ18
import Derived.Test.YtaafhjngnjjcmaaGreatDoorJ17
import Derived.Test.YtaafhjngnjjcmaaGreatDoorJ19
import Derived.Test.YtaafhjngnjjcmaaGreatDoorJ21
import Derived.Lib.LazyBuf
import Derived.BigQuiet
/- The program's table in memory: what it holds, its getters, a line, what some outputs take. -/
namespace Go.Proofs.YtaafhjngnjjcmaaGreatDoor
open Go.RowKit


theorem infoLnT : (Tryz.prog.info? 127).map (fun i => (i.zero, i.size, i.bytes)) = some (some (.agg #[.int .i64 0, .slice none 0 0]), 2, 32) := by kernel_rfl
/-- Lines of a table in memory, each one's taps at the head of a block. -/
def LinesHead (w : World) (h : Nat) (L : List (Int × List Int)) : Prop :=
  ∀ j, j < L.length → w.cell? ⟨h, j * 2, none⟩ = some (.int .i64 (lnAt L j).1) ∧ ∃ b cap, w.cell? ⟨h, j * 2 + 1, none⟩ = some (.slice (some ⟨b, 0, none⟩) (lnAt L j).2.length cap) ∧ RowAt .i64 w (some ⟨b, 0, none⟩) (lnAt L j).2
theorem LinesHead.lines {w : World} {h : Nat} {L : List (Int × List Int)} (H : LinesHead w h L) : LinesAt w h L := by
  intro j hj
  obtain ⟨c1, b, cap, c2, hr⟩ := H j hj
  exact ⟨c1, _, c2, _, cap, rfl, hr⟩
theorem LinesHead.below {w w' : World} {h : Nat} {L : List (Int × List Int)} (H : LinesHead w h L) (hb : Below w.heap.size w w') : LinesHead w' h L := by
  intro j hj
  obtain ⟨c1, b, cap, c2, hr⟩ := H j hj
  exact ⟨cb hb (cell_ltL c1) c1, b, cap, cb hb (cell_ltL c2) c2, hr.below hb⟩
/-- In memory v is a table from n with these lines. -/
def Tab (w : World) (v : Value) (n : Int) (L : List (Int × List Int)) : Prop :=
  ∃ g h cap, v = .pointer (some ⟨g, 0, none⟩) ∧ w.cell? ⟨g, 0, none⟩ = some (.int .i64 n) ∧ w.cell? ⟨g, 1, none⟩ = some (.slice (some ⟨h, 0, none⟩) L.length cap) ∧ w.cell? ⟨g, 2, none⟩ = some (.int .i64 (mostF L)) ∧ w.cell? ⟨g, 3, none⟩ = some (.int .i64 (sizeF L)) ∧
    LinesHead w h L ∧ LinesOk L ∧ Moves L ∧ 1 ≤ L.length ∧ L.length ≤ 65536 ∧ 1 ≤ n ∧ n ≤ 65536
/-- What memory holds of it. -/
def TabM (w : World) (v : Value) (n : Int) (L : List (Int × List Int)) : Prop :=
  ∃ g h cap, v = .pointer (some ⟨g, 0, none⟩) ∧ w.cell? ⟨g, 0, none⟩ = some (.int .i64 n) ∧ w.cell? ⟨g, 1, none⟩ = some (.slice (some ⟨h, 0, none⟩) L.length cap) ∧ w.cell? ⟨g, 2, none⟩ = some (.int .i64 (mostF L)) ∧ w.cell? ⟨g, 3, none⟩ = some (.int .i64 (sizeF L)) ∧ LinesHead w h L
theorem TabM.tab {w : World} {v : Value} {n : Int} {L : List (Int × List Int)} (h : TabM w v n L) (hok : LinesOk L) (hm : Moves L) (l0 : 1 ≤ L.length) (l1 : L.length ≤ 65536) (n0 : 1 ≤ n) (n1 : n ≤ 65536) : Tab w v n L := by
  obtain ⟨g, h, cap, e, c0, c1, c2, c3, hl⟩ := h
  exact ⟨g, h, cap, e, c0, c1, c2, c3, hl, hok, hm, l0, l1, n0, n1⟩
theorem Tab.below {w w' : World} {v : Value} {n : Int} {L : List (Int × List Int)} (h : Tab w v n L) (hb : Below w.heap.size w w') : Tab w' v n L := by
  obtain ⟨g, h, cap, rfl, c0, c1, c2, c3, hl, r⟩ := h
  have gl := cell_ltL c0
  exact ⟨g, h, cap, rfl, cb hb gl c0, cb hb gl c1, cb hb gl c2, cb hb gl c3, hl.below hb, r⟩
/-- A write to a block that has no int at its head leaves a table alone. -/
theorem Tab.kept {w w' : World} {v : Value} {n : Int} {L : List (Int × List Int)} {r : Option Nat} (h : Tab w v n L) (hg : w.grownBy w' r) (hp : ∀ b x, r = some b → w.cell? ⟨b, 0, none⟩ ≠ some (.int .i64 x)) : Tab w' v n L := by
  obtain ⟨g, h, cap, rfl, c0, c1, c2, c3, hl, hok, hm, l0, l1, n0, n1⟩ := h
  have ng : some g ≠ r := fun e => hp g _ e.symm c0
  refine ⟨g, h, cap, rfl, cg hg ng c0, cg hg ng c1, cg hg ng c2, cg hg ng c3, fun j hj => ?_, hok, hm, l0, l1, n0, n1⟩
  have nh : some h ≠ r := by
    have := (hl 0 l0).1
    rw [Nat.zero_mul] at this
    exact fun e => hp h _ e.symm this
  obtain ⟨d1, b, cp, d2, hr⟩ := hl j hj
  have nb : some b ≠ r := by
    have := hr.at (hok j hj).2.2.1
    rw [Nat.zero_add] at this
    exact fun e => hp b _ e.symm this
  exact ⟨cg hg nh d1, b, cp, cg hg nh d2, hr.grown hg nb⟩
theorem Tab.ptr {w : World} {v : Value} {n : Int} {L : List (Int × List Int)} (h : Tab w v n L) : ∃ a, v = .pointer (some a) := by
  obtain ⟨g, h, cap, rfl, _⟩ := h
  exact ⟨_, rfl⟩
theorem Tab.ok {w : World} {v : Value} {n : Int} {L : List (Int × List Int)} (h : Tab w v n L) : LinesOk L ∧ 1 ≤ L.length ∧ L.length ≤ 65536 ∧ 1 ≤ n ∧ n ≤ 65536 := by
  obtain ⟨g, h, cap, _, _, _, _, _, _, a, _, b⟩ := h
  exact ⟨a, b⟩
theorem tab_from {w : World} {v : Value} {n : Int} {L : List (Int × List Int)} (h : Tab w v n L) : Calls Tryz.prog 53 #[v] w fun e w' => e = .returned (.int .i64 n) ∧ Below w.heap.size w w' := by
  obtain ⟨g, h, cap, rfl, c0, c1, c2, c3, hl, hok, hm, l0, l1, n0, n1⟩ := h
  clear hl hok hm c1 c2 c3
  go_enter Tryz.func53, Tryz.ntmps53
  go_wp2
  go_ret
  exact ⟨rfl, Below.refl _ _⟩
theorem tab_to {w : World} {v : Value} {n : Int} {L : List (Int × List Int)} (h : Tab w v n L) : Calls Tryz.prog 18 #[v] w fun e w' => e = .returned (.int .i64 (L.length : Int)) ∧ Below w.heap.size w w' := by
  obtain ⟨g, h, cap, rfl, c0, c1, c2, c3, hl, hok, hm, l0, l1, n0, n1⟩ := h
  clear hl hok hm c0 c2 c3
  generalize L.length = m at *
  go_enter Tryz.func18, Tryz.ntmps18
  go_wp2
  go_ret
  exact ⟨rfl, Below.refl _ _⟩
theorem tab_to_d {w : World} {v : Value} {n : Int} {L : List (Int × List Int)} (h : Tab w v n L) : Calls Tryz.prog 18 #[v] w fun e w' => e = .returned (.int .i64 (L.length : Int)) ∧ Drew w w' := by
  obtain ⟨g, h, cap, rfl, c0, c1, c2, c3, hl, hok, hm, l0, l1, n0, n1⟩ := h
  clear hl hok hm c0 c2 c3
  generalize L.length = m at *
  go_enter Tryz.func18, Tryz.ntmps18
  go_wp2
  go_ret
  exact ⟨rfl, Drew.refl _⟩
/-- slices.Clone. -/
theorem clone_any (xs : List Int) (n : Nat) (hn : xs.length = n) (b off cap : Nat) (h1 : n ≤ 1048576) (w : World) (hr : RowAt .i64 w (some ⟨b, off, none⟩) xs) :
    Calls Tryz.prog 113 #[.slice (some ⟨b, off, none⟩) n cap] w fun e w' => ∃ v, e = .returned v ∧ OwnI .i64 2 w' w.heap.size v xs ∧ Below w.heap.size w w' := by
  have HR := hide hr
  have HN := hide hn
  obtain ⟨i0, hi, hz0, hz1, hz2⟩ := info_parts infoI64Q
  have q : ∀ w : World, (binOp .eql 47 (.slice (some ⟨b, off, none⟩) n cap) (.slice none 0 0)).run Tryz.prog w = .ok (.bool false) w := fun w => Lib.run_eql_slice_nil w _ _ _ n cap 0 0 Tryz.underlying47
  clear hr hn
  go_enter Tryz.func113, Tryz.ntmps113
  go_wp2_with (at_builtin; refine wpList_append_row .i64 _ rfl _ _ 47 rfl w.heap.size 2 i0 (.int .i64 0) 8 Tryz.underlying47 hi hz0 hz1 hz2 rfl (.slice (some ⟨w.heap.size, 0, none⟩) 0 0) [] rfl (own_lit0 _ _ _ _ (Nat.le_refl _)) (some ⟨b, off, none⟩) n cap xs rfl HN.out (HR.out.below (below1 _ _)) (fun e => by cases e) (by simp; unfold maxLen; omega) (by simp; omega) (by simp) ?_; intro v1 w2 own2 grow2 _; have bw2 := grown_lit (Below.refl _ _) grow2; rw [List.nil_append] at own2)
  go_ret
  exact ⟨v1, rfl, own2, bw2⟩
theorem set_apart {w : World} {a b o j : Nat} {u : Value} (h : a ≠ b ∨ o ≠ j) : (w.setCell ⟨a, o, none⟩ u).cell? ⟨b, j, none⟩ = w.cell? ⟨b, j, none⟩ :=
  World.cell?_setCell_other _ _ _ _ (by intro e; simp only [Addr.mk.injEq, and_true] at e; omega)
theorem own_set {k : IntKind} {T : TypeId} {w : World} {base : Nat} {v : Value} {xs : List Int} (h : OwnI k T w base v xs) {b : Nat} (o : Nat) (u : Value) (hb : b < base) : OwnI k T (w.setCell ⟨b, o, none⟩ u) base v xs := by
  refine ⟨h.1, ?_⟩
  rcases h.2 with h2 | ⟨g', cap', cur, hv, hB, hg, r⟩
  · exact .inl h2
  · refine .inr ⟨g', cap', cur, hv, hB, ?_, r⟩
    rw [heap_setCell_other w ⟨b, o, none⟩ g' u (by show g' ≠ b; omega)]
    exact hg
set_option maxRecDepth 100000 in
theorem tab_line {w : World} {v : Value} {n : Int} {L : List (Int × List Int)} (h : Tab w v n L) (j : Nat) (hj : j < L.length) :
    Calls Tryz.prog 80 #[v, .int .i64 (j : Int)] w fun e w' => ∃ u, e = .returned (.agg #[.int .i64 (lnAt L j).1, u]) ∧ OwnI .i64 2 w' w.heap.size u (lnAt L j).2 ∧ Below w.heap.size w w' := by
  obtain ⟨g, h, cap, rfl, c0, c1, c2, c3, hl, hok, hm, l0, l1, n0, n1⟩ := h
  replace hl := hl.lines
  obtain ⟨d1, u, d2, ad, cp, rfl, hr⟩ := hl j hj
  obtain ⟨f0, f1, t0, t1, hx⟩ := hok j hj
  obtain ⟨f, ts, he⟩ : ∃ f ts, lnAt L j = (f, ts) := ⟨_, _, rfl⟩
  rw [he] at d1 d2 hr f0 f1 t0 t1 hx ⊢
  obtain ⟨m, hmm⟩ : ∃ m, ts.length = m := ⟨_, rfl⟩
  replace d1 : w.cell? ⟨h, j * 2, none⟩ = some (.int .i64 f) := d1
  replace d2 : w.cell? ⟨h, j * 2 + 1, none⟩ = some (.slice ad ts.length cp) := d2
  replace t0 : 1 ≤ ts.length := t0
  replace t1 : ts.length ≤ 1048576 := t1
  obtain ⟨b, off, rfl, _⟩ := hr.get (show 0 < ts.length by omega)
  have CC := fun w' hr => clone_any ts m hmm b off cp (by omega) w' hr
  rw [hmm] at d2 t0 t1
  obtain ⟨M, hM⟩ : ∃ M, L.length = M := ⟨_, rfl⟩
  rw [hM] at c1 hj l1
  have HR := hide hr
  have HMM := hide hmm
  have gl := cell_ltL c1
  have hlt := cell_ltL d1
  clear hl hok hm he hmm hr hx c0 c2 c3 l0 hM n0 n1 f0 f1
  go_enter Tryz.func80, Tryz.ntmps80
  go_upto_region 4 with fail
  go_region_with (go_at_call 113; (with_reducible refine (CC _ (HR.out.below (by repeat (first | exact Below.refl _ _ | (with_reducible refine bt ?_ (by assumption)) | with_reducible refine bd ?_ | with_reducible refine ba ?_ _)))).mono ?_); rintro e w4 ⟨v, rfl, own, b4⟩; obtain ⟨ad2, cap2, rfl, _, _⟩ := own.formn HMM.out; have q0 := cb b4 (b := w.heap.size) (o := 0) (v := .int .i64 0) (by simp; omega) (by simp); have q1 := cb b4 (b := w.heap.size) (o := 1) (v := .slice none 0 0) (by simp; omega) (by simp); have q2 := fb b4 (b := w.heap.size) (o := 0) (by simp; omega) (by simp); have q3 := fb b4 (b := w.heap.size) (o := 1) (by simp; omega) (by simp); have q4 := cb b4 (b := w.heap.size + 1) (o := 0) (v := .int .i64 f) (by simp) (by simp); have q5 := cb b4 (b := w.heap.size + 1) (o := 1) (v := .slice (some ⟨b, off, none⟩) m cp) (by simp) (by simp))
  all_goals go_wp2
  all_goals
    have r0 : ((w4.setCell ⟨w.heap.size, 0, none⟩ (.int .i64 f)).setCell ⟨w.heap.size, 1, none⟩ (.slice ad2 m cap2)).cell? ⟨w.heap.size, 0, none⟩ = some (.int .i64 f) := (set_apart (Or.inr (by omega))).trans (World.cell?_setCell_same' _ _ _ (by rw [q0]; rfl))
    have r1 : ((w4.setCell ⟨w.heap.size, 0, none⟩ (.int .i64 f)).setCell ⟨w.heap.size, 1, none⟩ (.slice ad2 m cap2)).cell? ⟨w.heap.size, 1, none⟩ = some (.slice ad2 m cap2) := World.cell?_setCell_same' _ _ _ (by rw [set_apart (Or.inr (by omega)), q1]; rfl)
    have own2 := own_set (own_set own 0 (.int .i64 f) (b := w.heap.size) (by simp; omega)) 1 (.slice ad2 m cap2) (b := w.heap.size) (by simp; omega)
    have own3 := own2.mono (base' := w.heap.size) (by simp; omega)
    have B5 := bs (bs (bt (bd (ba (ba (Below.refl _ w) (.cells #[.int .i64 0, .slice none 0 0] 127)) (.cells #[.int .i64 f, .slice (some ⟨b, off, none⟩) m cp] 127))) b4) (b := w.heap.size) (o := 0) (Nat.le_refl _) (.int .i64 f)) (b := w.heap.size) (o := 1) (Nat.le_refl _) (.slice ad2 m cap2)
    have E5 := hide (And.intro own3 B5)
    clear own2 own3 B5 own b4
    exact bodyPost_ret (v := .agg #[.int .i64 f, .slice ad2 m cap2]) (by simp [results, Tryz.results80, go_sem, r0, r1]) rfl ⟨.slice ad2 m cap2, rfl, E5.out.1, E5.out.2⟩
set_option maxRecDepth 100000 in
theorem tab_noline {w : World} {v : Value} {n : Int} {L : List (Int × List Int)} (h : Tab w v n L) (i : Int) (i0 : -9223372036854775808 ≤ i) (i1 : i ≤ 9223372036854775807) (hi : i < 0 ∨ (L.length : Int) ≤ i) :
    Calls Tryz.prog 80 #[v, .int .i64 i] w fun e w' => ∃ ad cap, e = .returned (.agg #[.int .i64 0, .slice ad 0 cap]) ∧ Below w.heap.size w w' := by
  obtain ⟨g, h, cap, rfl, c0, c1, c2, c3, hl, hok, hm, l0, l1, n0, n1⟩ := h
  have gl := cell_ltL c1
  clear hl hok hm c0 c2 c3 n0 n1
  generalize L.length = M at *
  by_cases h0 : i < 0
  · clear hi
    go_enter Tryz.func80, Tryz.ntmps80
    go_wp2
    exact bodyPost_ret (v := .agg #[.int .i64 0, .slice none 0 0]) (by simp [results, Tryz.results80, go_sem]) rfl (by first | exact ⟨⟨none, 0, rfl⟩, ba (Below.refl _ _) _⟩ | exact ⟨none, 0, rfl, ba (Below.refl _ _) _⟩)
  · have hi : (M : Int) ≤ i := by omega
    go_enter Tryz.func80, Tryz.ntmps80
    go_wp2
    exact bodyPost_ret (v := .agg #[.int .i64 0, .slice none 0 0]) (by simp [results, Tryz.results80, go_sem]) rfl (by first | exact ⟨⟨none, 0, rfl⟩, ba (Below.refl _ _) _⟩ | exact ⟨none, 0, rfl, ba (Below.refl _ _) _⟩)
theorem tab_reach_no {w : World} {v : Value} {n : Int} {L : List (Int × List Int)} (h : Tab w v n L) (i k : Int) (hno : min k (L.length : Int) ≤ max i 0) :
    Calls Tryz.prog 78 #[v, .int .i64 i, .int .i64 k] w fun e w' => e = .returned (.tuple #[.int .i64 0, .int .i64 0]) ∧ Below w.heap.size w w' := by
  obtain ⟨g, h, cap, rfl, c0, c1, c2, c3, hl, hok, hm, l0, l1, n0, n1⟩ := h
  have gl := cell_ltL c1
  clear hl hok hm c0 c2 c3 n0 n1
  generalize L.length = M at *
  go_enter Tryz.func78, Tryz.ntmps78
  go_upto_region 1 with fail
  go_region
  all_goals go_wp2
  all_goals exact bodyPost_ret (v := .tuple #[.int .i64 0, .int .i64 0]) (by simp [results, Tryz.results78, go_sem]) rfl ⟨rfl, bd (Below.refl _ _)⟩
set_option maxRecDepth 100000 in
theorem tab_reach_yes {w : World} {v : Value} {n : Int} {L : List (Int × List Int)} (h : Tab w v n L) (i k : Int) {p q : Nat} (hp : (p : Int) = max i 0) (hq : (q : Int) + 1 = min k (L.length : Int)) (hpq : p ≤ q) :
    Calls Tryz.prog 78 #[v, .int .i64 i, .int .i64 k] w fun e w' => e = .returned (.tuple #[.int .i64 (lnAt L p).1, .int .i64 ((lnAt L q).1 + ((lnAt L q).2.length : Int) - (lnAt L p).1)]) ∧ Below w.heap.size w w' := by
  obtain ⟨g, h, cap, rfl, c0, c1, c2, c3, hl, hok, hm, l0, l1, n0, n1⟩ := h
  have gl := cell_ltL c1
  have hqM : q < L.length := by omega
  replace hl := hl.lines
  obtain ⟨d1, -⟩ := hl p (by omega)
  obtain ⟨e1, u, e2, ad, cp, rfl, -⟩ := hl q hqM
  obtain ⟨f0, f1, -, -, -⟩ := hok p (by omega)
  obtain ⟨f2, f3, t0, t1, -⟩ := hok q hqM
  obtain ⟨len, hlen⟩ : ∃ len, (lnAt L q).2.length = len := ⟨_, rfl⟩
  rw [hlen] at e2 t0 t1 ⊢
  have hlt := cell_ltL d1
  clear hl hok hm c0 c2 c3 n0 n1 hlen
  generalize (lnAt L p).1 = f at *
  generalize (lnAt L q).1 = f' at *
  generalize L.length = M at *
  go_enter Tryz.func78, Tryz.ntmps78
  go_upto_region 1 with fail
  go_cut [1, 2, 10, 17] (fun a b c d wx => a = .int .i64 (p : Int) ∧ b = .int .i64 ((q : Int) + 1) ∧ c = .int .i64 (p : Int) ∧ d = .int .i64 ((q : Int) + 1) ∧ wx = w.drew)
  case first =>
    go_region
    all_goals (go_wp2_with fail; go_meet)
    all_goals exact ⟨by rw [hp], by rw [hq], by rw [hp], by rw [hq], rfl⟩
  case rest =>
    obtain ⟨rfl, rfl, rfl, rfl, rfl⟩ := hcut
    clear hp hq
    go_wp2_with fail
    go_quiet (fail)
    go_wp2
    exact bodyPost_ret (v := .tuple #[.int .i64 f, .int .i64 (f' - f + (len : Int))]) (by simp [results, Tryz.results78, go_sem]) rfl ⟨by rw [show f' - f + (len : Int) = f' + (len : Int) - f by omega], (by repeat (first | exact Below.refl _ _ | (with_reducible refine bdN ?_ _) | with_reducible refine bd ?_ | with_reducible refine ba ?_ _))⟩
theorem tab_reach {w : World} {v : Value} {n : Int} {L : List (Int × List Int)} (h : Tab w v n L) (i k : Int) (_ : -9223372036854775808 ≤ i) (_ : i ≤ 9223372036854775807) (_ : -9223372036854775808 ≤ k) (_ : k ≤ 9223372036854775807) :
    Calls Tryz.prog 78 #[v, .int .i64 i, .int .i64 k] w fun e w' => e = .returned (.tuple #[.int .i64 (reachF L i k).1, .int .i64 ((reachF L i k).2.1 - (reachF L i k).1)]) ∧ Below w.heap.size w w' := by
  by_cases hno : min k (L.length : Int) ≤ max i 0
  · rw [reach_none hno]
    exact tab_reach_no h i k hno
  · obtain ⟨p, hp⟩ : ∃ p : Nat, (p : Int) = max i 0 := ⟨(max i 0).toNat, by omega⟩
    obtain ⟨q, hq⟩ : ∃ q : Nat, (q : Int) + 1 = min k (L.length : Int) := ⟨(min k (L.length : Int) - 1).toNat, by omega⟩
    have hM : Moves L := by
      obtain ⟨_, _, _, _, _, _, _, _, _, _, hm, _⟩ := h
      exact hm
    rw [reach_part hM hp hq (by omega)]
    exact tab_reach_yes h i k hp hq (by omega)
end Go.Proofs.YtaafhjngnjjcmaaGreatDoor

/- What comes out: what one sample stands for goes together (gather); a column, a row. -/
namespace Go.Proofs.YtaafhjngnjjcmaaGreatDoor
open Go.RowKit

/-- A row from a block on. -/
def FarRow (B : Nat) (u : Option Addr) (xs : List Int) : Prop := xs = [] ∨ ∃ b o, u = some ⟨b, o, none⟩ ∧ B ≤ b
theorem FarRow.mono {B B' : Nat} {u : Option Addr} {xs : List Int} (h : FarRow B u xs) (hb : B' ≤ B) : FarRow B' u xs := by
  rcases h with h | ⟨b, o, e, l⟩
  · exact .inl h
  · exact .inr ⟨b, o, e, Nat.le_trans hb l⟩
theorem RowAt.far {k : IntKind} {w w' : World} {B R : Nat} {u : Option Addr} {xs : List Int} (h : RowAt k w u xs) (hf : FarRow B u xs) (hg : w.grownBy w' (some R)) (hR : R < B) : RowAt k w' u xs := by
  rcases hf with hf | ⟨b, o, rfl, l⟩
  · exact .inl hf
  · exact h.grown hg (fun e => by have := Option.some.inj e; omega)
/-- What is taken, in memory: places and weights. -/
def GathAt (w : World) (B : Nat) (e : Ending) (p f n : Int) (ts : List Int) : Prop :=
  ∃ (P W : List Int) (N : Nat) (u v : Option Addr) (cu cv : Nat), e = .returned (.agg #[.slice u N cu, .slice v N cv]) ∧ P.length = N ∧ W.length = N ∧ RowAt .i64 w u P ∧ RowAt .i64 w v W ∧ FarRow B u P ∧ FarRow B v W ∧ Gath p f n ts P W
theorem GathAt.stored {w w' : World} {B R : Nat} {e : Ending} {p f n : Int} {ts : List Int} (h : GathAt w B e p f n ts) (hg : w.grownBy w' (some R)) (hR : R < B) : GathAt w' B e p f n ts := by
  obtain ⟨P, W, N, u, v, cu, cv, he, hP, hW, ru, rv, fu, fv, g⟩ := h
  exact ⟨P, W, N, u, v, cu, cv, he, hP, hW, ru.far fu hg hR, rv.far fv hg hR, fu, fv, g⟩
theorem gather_none (p f n : Int) (n0 : 0 ≤ n) (ad : Option Addr) (cap : Nat) (B : Nat) (w : World) :
    Calls Tryz.prog 83 #[.int .i64 p, .int .i64 f, .slice ad 0 cap, .int .i64 n] w fun e w' => GathAt w' B e p f n [] ∧ Below w.heap.size w w' := by
  have CS := fun w => span_none p f 0 n (by omega) w
  go_enter Tryz.func83, Tryz.ntmps83
  go_wp2_with (go_at_call 79; (with_reducible refine (CS _).mono ?_); rintro e w1 ⟨rfl, rfl⟩)
  exact bodyPost_ret (v := .agg #[.slice none 0 0, .slice ad 0 cap]) (by simp [results, Tryz.results83, go_sem]) rfl ⟨⟨[], [], 0, none, ad, 0, cap, rfl, rfl, rfl, .inl rfl, .inl rfl, .inl rfl, .inl rfl, gath_none p f n⟩, below1 _ _⟩
set_option maxRecDepth 100000 in
theorem gather_self (p f : Int) (n m : Nat) (ts : List Int) (hm : ts.length = m) (ad : Option Addr) (cap : Nat) (w : World) (hr : RowAt .i64 w ad ts) (B : Nat) (hB : B ≤ w.heap.size) (hf : FarRow B ad ts) (p0 : 0 ≤ p) (p1 : p ≤ 2) (n0 : 1 ≤ n) (n1 : n ≤ 65536) (f0 : -1099511627776 ≤ f) (f1 : f ≤ 1099511627776) (hs : SmallT ts) (m0 : 1 ≤ m) (hmn : m ≤ n) :
    Calls Tryz.prog 83 #[.int .i64 p, .int .i64 f, .slice ad m cap, .int .i64 (n : Int)] w fun e w' => GathAt w' B e p f (n : Int) ts ∧ Below w.heap.size w w' := by
  have G := gath_self (p := p) (f := f) (n := (n : Int)) (ts := ts) p0 p1 (by omega) (by omega) f0 f1 hs (by omega)
  rw [hm] at G
  have HG := hide G
  have HR := hide hr
  have HM := hide hm
  have CS := fun w => span_some p f (n : Int) m m0 (by omega) (by omega) (by omega) w
  have hle : (m : Int) ≤ (n : Int) := by omega
  have HL := hide (spanTo_len p f (n : Int) m)
  generalize spanTo p f (n : Int) m = P at *
  clear hr hm G hs f0 f1
  go_enter Tryz.func83, Tryz.ntmps83
  go_wp2_with (go_at_call 79; (with_reducible refine (CS _).mono ?_); rintro e w1 ⟨v, rfl, own, b1⟩; obtain ⟨g, cg, rfl, hg, hl, row, _, _⟩ := own_row own HL.out m0; have q0 := cb b1 (b := w.heap.size) (o := 0) (v := .slice none 0 0) (by simp) (by simp); have q1 := cb b1 (b := w.heap.size) (o := 1) (v := .slice none 0 0) (by simp) (by simp); have y0 := fb b1 (b := w.heap.size) (o := 0) (by simp) (by simp); have y1 := fb b1 (b := w.heap.size) (o := 1) (by simp) (by simp))
  simp at hg
  have ne : some g ≠ some w.heap.size := fun e => by have := Option.some.inj e; omega
  have R1 := (row.grown (grown_set w1 w.heap.size 0 (.slice (some ⟨g, 0, none⟩) m cg)) ne).grown (grown_set _ w.heap.size 1 (.slice ad m cap)) ne
  have B1 := bs (bs (bt (below1 _ _) b1) (b := w.heap.size) (o := 0) (Nat.le_refl _) (.slice (some ⟨g, 0, none⟩) m cg)) (b := w.heap.size) (o := 1) (Nat.le_refl _) (.slice ad m cap)
  exact bodyPost_ret (v := .agg #[.slice (some ⟨g, 0, none⟩) m cg, .slice ad m cap]) (by simp [results, Tryz.results83, go_sem, q0, q1]) rfl ⟨⟨P, ts, m, _, ad, cg, cap, rfl, HL.out, HM.out, R1, HR.out.below B1, .inr ⟨g, 0, rfl, by omega⟩, hf, HG.out⟩, B1⟩
set_option maxHeartbeats 4000000 in
set_option maxRecDepth 100000 in
theorem gather_great (p f : Int) (n m : Nat) (ts : List Int) (hm : ts.length = m) (ad : Option Addr) (cap : Nat) (w : World) (hr : RowAt .i64 w ad ts) (B : Nat) (hB : B ≤ w.heap.size) (hf : FarRow B ad ts) (p0 : 0 ≤ p) (p1 : p ≤ 2) (n0 : 1 ≤ n) (n1 : n ≤ 65536) (f0 : -1099511627776 ≤ f) (f1 : f ≤ 1099511627776) (hs : SmallT ts) (hl : m ≤ 1048576) (hmn : n < m) :
    Calls Tryz.prog 83 #[.int .i64 p, .int .i64 f, .slice ad m cap, .int .i64 (n : Int)] w fun e w' => GathAt w' B e p f (n : Int) ts ∧ Below w.heap.size w w' := by
  have G := gath_more (p := p) (f := f) (n := n) (ts := ts) p0 p1 n0 n1 f0 f1 hs (by omega)
  rw [hm] at G
  have hin : ∀ k, k < m → 0 ≤ (spanTo p f (n : Int) m).getD k 0 ∧ (spanTo p f (n : Int) m).getD k 0 < (n : Int) := fun k hk => span_in p0 p1 (by omega) (by omega) f0 f1 hl k hk
  have gab : ∀ k, k ≤ m → ∀ j, j < n → -8388608 ≤ (gatL ts (spanTo p f (n : Int) m) n k).getD j 0 ∧ (gatL ts (spanTo p f (n : Int) m) n k).getD j 0 ≤ 8388608 := by
    intro k hk j hj
    have a := gat_abs (ts := ts) hin k hk
    have b := absS_mono ts (show k ≤ ts.length by omega)
    have c := absS_each (gatL ts (spanTo p f (n : Int) m) n k) (j := j) (n := n) hj
    unfold SmallT at hs
    omega
  have wab : ∀ k, k < m → -8388608 ≤ ts.getD k 0 ∧ ts.getD k 0 ≤ 8388608 := by
    intro k hk
    have c := absS_each ts (j := k) (n := ts.length) (by omega)
    unfold SmallT at hs
    omega
  have HG := hide G
  have HR := hide hr
  have HM := hide hm
  have HIN := hide hin
  have HGA := hide gab
  have HWA := hide wab
  have CS := fun w => span_some p f (n : Int) m (by omega) (by omega) (by omega) (by omega) w
  have CS2 := fun w => span_some p 0 (n : Int) n n0 (by omega) (by omega) (by omega) w
  have hle : ¬ (m : Int) ≤ (n : Int) := by omega
  have HL := hide (spanTo_len p f (n : Int) m)
  have HL2 := hide (spanTo_len p 0 (n : Int) n)
  have HGL := hide (fun k => gatL_len ts (spanTo p f (n : Int) m) n k)
  have HGS := hide (fun k => show gatL ts (spanTo p f (n : Int) m) n (k + 1) = (gatL ts (spanTo p f (n : Int) m) n k).set ((spanTo p f (n : Int) m).getD k 0).toNat ((gatL ts (spanTo p f (n : Int) m) n k).getD ((spanTo p f (n : Int) m).getD k 0).toNat 0 + ts.getD k 0) from rfl)
  have HG0 := hide (show gatL ts (spanTo p f (n : Int) m) n 0 = List.replicate n 0 from rfl)
  generalize spanTo p f (n : Int) m = P at *
  generalize spanTo p 0 (n : Int) n = P2 at *
  obtain ⟨zs, MK, MO, _⟩ := make64 n (by omega)
  have HMO := hide MO
  clear hr hm G hs f0 f1 hin gab wab MO
  go_enter Tryz.func83, Tryz.ntmps83
  go_wp2_with (go_at_call 79; (with_reducible refine (CS _).mono ?_); rintro e w1 ⟨v, rfl, own, b1⟩; obtain ⟨g, cg, rfl, hg, hl2, row, _, _⟩ := own_row own HL.out (by omega); have q0 := cb b1 (b := w.heap.size) (o := 0) (v := .slice none 0 0) (by simp) (by simp); have q1 := cb b1 (b := w.heap.size) (o := 1) (v := .slice none 0 0) (by simp) (by simp); have y0 := fb b1 (b := w.heap.size) (o := 0) (by simp) (by simp); have y1 := fb b1 (b := w.heap.size) (o := 1) (by simp) (by simp))
  simp at hg
  have B1 := hide (bt (below1 _ _) b1)
  have HROW := hide row
  have O1 := HMO.out w1 w1.heap.size (Nat.le_refl _)
  rw [← HG0.out] at O1
  have HO1 := hide O1
  have HB1 := hide (ba (Below.refl w1.heap.size w1) (.cells zs 2))
  have HQ := hide (And.intro q0 (And.intro q1 (And.intro y0 y1)))
  have hsz := b1.size
  simp at hsz
  clear MK HMO O1 own row b1 HG0 q0 q1 y0 y1
  generalize w1.alloc (.cells zs 2) = w2 at *
  go_loopw [30] (fun i wr => ∃ k : Nat, k ≤ m ∧ i = .int .i64 (k : Int) ∧ OwnI .i64 2 wr w1.heap.size (.slice (some ⟨w1.heap.size, 0, none⟩) n n) (gatL ts P n k) ∧ Below w1.heap.size w1 wr) (fun i _ => m - (intOf i).toNat)
  case atStart => exact ⟨0, by omega, rfl, HO1.out, HB1.out⟩
  case round =>
    clear HO1 HB1
    obtain ⟨k, hk, rfl, ho, hb⟩ := hrel
    have HO := hide ho
    have HB := hide hb
    clear ho hb
    by_cases hlt : k < m
    · obtain ⟨j0, j1⟩ := HIN.out k hlt
      obtain ⟨J, hJ⟩ : ∃ J : Nat, (P.getD k 0).toNat = J := ⟨_, rfl⟩
      have hJi : P.getD k 0 = (J : Int) := by omega
      obtain ⟨g0, g1⟩ := HGA.out k (by omega) J (by omega)
      obtain ⟨t0, t1⟩ := HWA.out k hlt
      have cp := (HROW.out.below HB.out).at (show k < P.length by rw [HL.out]; exact hlt)
      rw [hJi, Nat.zero_add] at cp
      obtain ⟨tb, tq, rfl, ct⟩ := ((HR.out.below B1.out).below HB.out).get (show k < ts.length by rw [HM.out]; exact hlt)
      have hJn : J < n := by omega
      have HS := hide (HGS.out k)
      rw [hJ] at HS
      have LP := HGL.out k
      obtain ⟨A, hA⟩ : ∃ A, (gatL ts P n k).getD J 0 = A := ⟨_, rfl⟩
      obtain ⟨T, hT⟩ : ∃ T, ts.getD k 0 = T := ⟨_, rfl⟩
      rw [hA, hT] at HS
      rw [hA] at g0 g1
      rw [hT] at t0 t1 ct
      have W1 : IntKind.i64.wrap (A + T) = A + T := IntWalk.i64_in _ (by omega)
      have c1 := HO.out.cellAt LP hJn
      rw [hA] at c1
      have z1 := HO.out.frozenAt LP J
      have ST := HO.out.stored LP J (A + T)
      rw [← HS.out] at ST
      have H5 := hide (And.intro ST (bs HB.out (Nat.le_refl _) (b := w1.heap.size) (o := J) (.int .i64 (A + T))))
      clear LP ST HS hA hT g0 g1 t0 t1 j0 j1 hJ hJi
      go_upto_region 8 with fail
      go_region
      all_goals
        go_wp2
        go_roundw
        case rel => exact ⟨k + 1, by omega, by go_num, H5.out.1.below (bd (Below.refl _ _)), bd H5.out.2⟩
        case measure => simp [intOf]; omega
    · obtain rfl : k = m := by omega
      obtain ⟨g5, c5, he, hB5, hl5, row5, _, _⟩ := own_row HO.out (HGL.out k) n0
      simp only [Value.slice.injEq, Option.some.injEq, Addr.mk.injEq, and_true, true_and] at he
      obtain ⟨rfl, rfl⟩ := he
      have HR5 := hide row5
      have hzz := HB.out.size
      clear row5 hlt
      obtain ⟨x0, x1, x2, x3⟩ := HQ.out
      have lw : w.heap.size < w1.heap.size := by omega
      have q0 := cb HB.out lw x0
      have q1 := cb HB.out lw x1
      have y0 := fb HB.out lw x2
      have y1 := fb HB.out lw x3
      have lw2 : w.heap.size < wr.heap.size := by omega
      clear x0 x1 x2 x3
      go_wp2_with (go_at_call 79; (with_reducible refine (CS2 _).mono ?_); rintro e w5 ⟨v, rfl, own, b5⟩; obtain ⟨g6, c6, rfl, hg6, hl6, row6, _, _⟩ := own_row own HL2.out n0; replace q0 := cb b5 lw2 q0; replace q1 := cb b5 lw2 q1; replace y0 := fb b5 lw2 y0; replace y1 := fb b5 lw2 y1)
      have ne : some g6 ≠ some w.heap.size := fun e => by have := Option.some.inj e; omega
      have ne2 : some w1.heap.size ≠ some w.heap.size := fun e => by have := Option.some.inj e; omega
      have R1 := (row6.grown (grown_set w5 w.heap.size 0 (.slice (some ⟨g6, 0, none⟩) n c6)) ne).grown (grown_set _ w.heap.size 1 (.slice (some ⟨w1.heap.size, 0, none⟩) n n)) ne
      have R2 := ((HR5.out.below b5).grown (grown_set w5 w.heap.size 0 (.slice (some ⟨g6, 0, none⟩) n c6)) ne2).grown (grown_set _ w.heap.size 1 (.slice (some ⟨w1.heap.size, 0, none⟩) n n)) ne2
      have B5 := bs (bs (bt (bt B1.out HB.out) b5) (b := w.heap.size) (o := 0) (Nat.le_refl _) (.slice (some ⟨g6, 0, none⟩) n c6)) (b := w.heap.size) (o := 1) (Nat.le_refl _) (.slice (some ⟨w1.heap.size, 0, none⟩) n n)
      exact bodyPost_ret (v := .agg #[.slice (some ⟨g6, 0, none⟩) n c6, .slice (some ⟨w1.heap.size, 0, none⟩) n n]) (by simp [results, Tryz.results83, go_sem, q0, q1]) rfl ⟨⟨P2, gatL ts P n k, n, _, _, c6, n, rfl, HL2.out, HGL.out k, R1, R2, .inr ⟨g6, 0, rfl, by omega⟩, .inr ⟨w1.heap.size, 0, rfl, by omega⟩, HG.out⟩, B5⟩
theorem gather_any (p f : Int) (n : Nat) (ts : List Int) (m : Nat) (hm : ts.length = m) (ad : Option Addr) (cap : Nat) (w : World) (hr : RowAt .i64 w ad ts) (B : Nat) (hB : B ≤ w.heap.size) (hf : FarRow B ad ts) (p0 : 0 ≤ p) (p1 : p ≤ 2) (n0 : 1 ≤ n) (n1 : n ≤ 65536) (f0 : -1099511627776 ≤ f) (f1 : f ≤ 1099511627776) (hs : SmallT ts) (hl : m ≤ 1048576) :
    Calls Tryz.prog 83 #[.int .i64 p, .int .i64 f, .slice ad m cap, .int .i64 (n : Int)] w fun e w' => GathAt w' B e p f (n : Int) ts ∧ Below w.heap.size w w' := by
  by_cases h0 : m = 0
  · subst h0
    obtain rfl := List.length_eq_zero_iff.1 hm
    exact gather_none p f (n : Int) (by omega) ad cap B w
  · by_cases h1 : m ≤ n
    · exact gather_self p f n m ts hm ad cap w hr B hB hf p0 p1 n0 n1 f0 f1 hs (by omega) h1
    · exact gather_great p f n m ts hm ad cap w hr B hB hf p0 p1 n0 n1 f0 f1 hs hl (by omega)
end Go.Proofs.YtaafhjngnjjcmaaGreatDoor

/- Slices of records that a call made: each of so many cells. No number of the program stands in it. -/
namespace Go.Proofs.YtaafhjngnjjcmaaGreatDoor
open Go.RowKit


def recAt (us : List (List Value)) (j i : Nat) : Value := (us.getD j []).getD i undef
/-- A slice of records that the call itself made. -/
def OwnRec (T : TypeId) (k : Nat) (w : World) (base : Nat) (v : Value) (us : List (List Value)) : Prop := w.ownsRow base T k v us.length us.flatten ∧ ∀ u ∈ us, u.length = k
theorem flat_get {k : Nat} : ∀ {us : List (List Value)}, (∀ u ∈ us, u.length = k) → ∀ {j i : Nat}, j < us.length → i < k → us.flatten[j * k + i]? = some (recAt us j i)
  | [], _, _, _, h, _ => absurd h (Nat.not_lt_zero _)
  | u :: us, hu, 0, i, _, hi => by
    have e := hu u List.mem_cons_self
    rw [Nat.zero_mul, Nat.zero_add, List.flatten_cons, List.getElem?_append_left (by omega), List.getElem?_eq_getElem (by omega)]
    show _ = some (u.getD i undef)
    rw [List.getD_eq_getElem?_getD, List.getElem?_eq_getElem (by omega)]
    rfl
  | u :: us, hu, j + 1, i, hj, hi => by
    have e := hu u List.mem_cons_self
    have ih := flat_get (fun v hv => hu v (List.mem_cons_of_mem _ hv)) (j := j) (i := i) (by simpa using hj) hi
    rw [List.flatten_cons, List.getElem?_append_right (by rw [e, Nat.add_mul]; omega), e, show (j + 1) * k + i - k = j * k + i by rw [Nat.add_mul]; omega]
    exact ih
theorem recAt_old {us : List (List Value)} {u : List Value} {j i : Nat} (h : j < us.length) : recAt (us ++ [u]) j i = recAt us j i := by
  have e : (us ++ [u]).getD j [] = us.getD j [] := by rw [List.getD_eq_getElem?_getD, List.getD_eq_getElem?_getD, List.getElem?_append_left h]
  unfold recAt
  rw [e]
theorem recAt_new (us : List (List Value)) (u : List Value) (i : Nat) : recAt (us ++ [u]) us.length i = u.getD i undef := by
  have e : (us ++ [u]).getD us.length [] = u := by
    rw [List.getD_eq_getElem?_getD, List.getElem?_append_right (Nat.le_refl _), Nat.sub_self]
    rfl
  unfold recAt
  rw [e]
theorem OwnRec.nil (T : TypeId) (k : Nat) (w : World) (base : Nat) : OwnRec T k w base (.slice none 0 0) [] := ⟨World.ownsRow_nil _ _ _ _, fun _ h => by cases h⟩
theorem recs_below {T : TypeId} {w w' : World} {base k : Nat} {v : Value} {n : Nat} {xs : List Value} (h : w.ownsRow base T k v n xs) (hb : Below w.heap.size w w') : w'.ownsRow base T k v n xs := by
  refine ⟨h.1, ?_⟩
  rcases h.2 with h2 | ⟨g, cap, cur, hv, hB, hg, r⟩
  · exact .inl h2
  · refine .inr ⟨g, cap, cur, hv, hB, ?_, r⟩
    have hlt : g < w.heap.size := by
      rcases Nat.lt_or_ge g w.heap.size with hlt | hge
      · exact hlt
      · rw [Array.getElem?_eq_none hge] at hg; cases hg
    rw [hb.block g hlt]; exact hg
theorem OwnRec.below {T : TypeId} {k : Nat} {w w' : World} {base : Nat} {v : Value} {us : List (List Value)} (h : OwnRec T k w base v us) (hb : Below w.heap.size w w') : OwnRec T k w' base v us := ⟨recs_below h.1 hb, h.2⟩
theorem OwnRec.mono {T : TypeId} {k : Nat} {w : World} {base base' : Nat} {v : Value} {us : List (List Value)} (h : OwnRec T k w base v us) (hb : base' ≤ base) : OwnRec T k w base' v us := ⟨own_mono h.1 hb, h.2⟩
/-- One record is appended. -/
theorem OwnRec.more {T : TypeId} {k : Nat} {w : World} {base n : Nat} {v : Value} {us : List (List Value)} {u : List Value} (hu : ∀ x ∈ us, x.length = k) (hk : u.length = k) (hn : us.length + 1 = n) (h : w.ownsRow base T k v n (us.flatten ++ u)) : OwnRec T k w base v (us ++ [u]) := by
  subst hn
  refine ⟨?_, fun x hx => ?_⟩
  · rw [List.length_append, List.flatten_append]
    simpa using h
  · rcases List.mem_append.1 hx with hx | hx
    · exact hu x hx
    · rw [List.mem_singleton] at hx; rw [hx]; exact hk
/-- What it reads as. -/
theorem OwnRec.read {T : TypeId} {k : Nat} {w : World} {base : Nat} {v : Value} {us : List (List Value)} (h : OwnRec T k w base v us) (h0 : us ≠ []) :
    ∃ g cap, v = .slice (some ⟨g, 0, none⟩) us.length cap ∧ base ≤ g ∧ g < w.heap.size ∧ us.length ≤ cap ∧ ∀ j, j < us.length → ∀ i, i < k → w.cell? ⟨g, j * k + i, none⟩ = some (recAt us j i) := by
  obtain ⟨h2, h3⟩ := h
  have hl : 0 < us.length := List.length_pos_iff.2 h0
  obtain ⟨g, cap, hv, hB, hlt, hc⟩ : ∃ g cap, v = .slice (some ⟨g, 0, none⟩) us.length cap ∧ base ≤ g ∧ g < w.heap.size ∧ us.length ≤ cap := by
    rcases h2.2 with ⟨_, h0⟩ | ⟨g, cap, cur, hv, hB, hg, hn, _⟩
    · omega
    · refine ⟨g, cap, hv, hB, ?_, hn⟩
      rcases Nat.lt_or_ge g w.heap.size with hlt | hge
      · exact hlt
      · rw [Array.getElem?_eq_none hge] at hg; cases hg
  subst hv
  refine ⟨g, cap, rfl, hB, hlt, hc, fun j hj i hi => ?_⟩
  have e1 := World.ownsRow.cells h2 (g := g) rfl _ _ (flat_get h3 hj hi)
  rw [addr_add, Nat.zero_add] at e1
  exact e1
/-- Its form. -/
theorem OwnRec.form {T : TypeId} {k : Nat} {w : World} {base n : Nat} {v : Value} {us : List (List Value)} (h : OwnRec T k w base v us) (hn : us.length = n) : ∃ ad cap, v = .slice ad n cap ∧ n ≤ cap ∧ (ad = none → cap = 0) := by
  subst hn
  rcases h.1.2 with ⟨hv, h0⟩ | ⟨g, cap, cur, hv, _, _, hn, _⟩
  · exact ⟨none, 0, by rw [hv, h0], by omega, fun _ => rfl⟩
  · exact ⟨_, cap, hv, hn, fun e => by cases e⟩
theorem new_list (w : World) (l : List Value) (t : TypeId) : ∀ j x, l[j]? = some x → (w.alloc (.cells l.toArray t)).cell? ((⟨w.heap.size, 0, none⟩ : Addr).add j) = some x := by
  intro j x h
  rw [addr_add, Nat.zero_add]
  unfold World.cell?
  rw [heap_alloc_new]
  simp [h]
end Go.Proofs.YtaafhjngnjjcmaaGreatDoor
