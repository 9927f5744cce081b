/- Parts, joined. -/
import Derived.Test.YtdpkigdfhfippaaGreatDoorJ24
import Derived.Test.YtdpkigdfhfippaaGreatDoorJ22
import Derived.Test.YtdpkigdfhfippaaGreatDoorJ23
import Derived.Test.YtdpkigdfhfippaaGreatDoorJ15
import Derived.Test.YtdpkigdfhfippaaGreatDoorJ04
import Derived.Lib.LazyBuf
import Derived.BigQuiet
import Derived.Shelf.SlSortCmp.Insertion
import Derived.Sort.Statements
/- The program's table in memory: what it holds, its getters, a line, what some outputs take. -/
namespace Go.Proofs.YtdpkigdfhfippaaGreatDoor
open Go.RowKit


theorem infoLnT : (Tryz.prog.info? 63).map (fun i => (i.zero, i.size, i.bytes)) = some (some (.agg #[.int .i64 0, .slice none 0 0]), 2, 32) := by kernel_rfl
/-- Lines of a table in memory, each one's taps at the head of a block. -/
def LinesHead (w : World) (h : Nat) (L : List (Int × List Int)) : Prop :=
  ∀ j, j < L.length → w.cell? ⟨h, j * 2, none⟩ = some (.int .i64 (lnAt L j).1) ∧ ∃ b cap, w.cell? ⟨h, j * 2 + 1, none⟩ = some (.slice (some ⟨b, 0, none⟩) (lnAt L j).2.length cap) ∧ RowAt .i64 w (some ⟨b, 0, none⟩) (lnAt L j).2
theorem LinesHead.lines {w : World} {h : Nat} {L : List (Int × List Int)} (H : LinesHead w h L) : LinesAt w h L := by
  intro j hj
  obtain ⟨c1, b, cap, c2, hr⟩ := H j hj
  exact ⟨c1, _, c2, _, cap, rfl, hr⟩
theorem LinesHead.below {w w' : World} {h : Nat} {L : List (Int × List Int)} (H : LinesHead w h L) (hb : Below w.heap.size w w') : LinesHead w' h L := by
  intro j hj
  obtain ⟨c1, b, cap, c2, hr⟩ := H j hj
  exact ⟨cb hb (cell_ltL c1) c1, b, cap, cb hb (cell_ltL c2) c2, hr.below hb⟩
/-- In memory v is a table from n with these lines. -/
def Tab (w : World) (v : Value) (n : Int) (L : List (Int × List Int)) : Prop :=
  ∃ g h cap, v = .pointer (some ⟨g, 0, none⟩) ∧ w.cell? ⟨g, 0, none⟩ = some (.int .i64 n) ∧ w.cell? ⟨g, 1, none⟩ = some (.slice (some ⟨h, 0, none⟩) L.length cap) ∧ w.cell? ⟨g, 2, none⟩ = some (.int .i64 (mostF L)) ∧ w.cell? ⟨g, 3, none⟩ = some (.int .i64 (sizeF L)) ∧
    LinesHead w h L ∧ LinesOk L ∧ Moves L ∧ 1 ≤ L.length ∧ L.length ≤ 65536 ∧ 1 ≤ n ∧ n ≤ 65536
/-- What memory holds of it. -/
def TabM (w : World) (v : Value) (n : Int) (L : List (Int × List Int)) : Prop :=
  ∃ g h cap, v = .pointer (some ⟨g, 0, none⟩) ∧ w.cell? ⟨g, 0, none⟩ = some (.int .i64 n) ∧ w.cell? ⟨g, 1, none⟩ = some (.slice (some ⟨h, 0, none⟩) L.length cap) ∧ w.cell? ⟨g, 2, none⟩ = some (.int .i64 (mostF L)) ∧ w.cell? ⟨g, 3, none⟩ = some (.int .i64 (sizeF L)) ∧ LinesHead w h L
theorem TabM.tab {w : World} {v : Value} {n : Int} {L : List (Int × List Int)} (h : TabM w v n L) (hok : LinesOk L) (hm : Moves L) (l0 : 1 ≤ L.length) (l1 : L.length ≤ 65536) (n0 : 1 ≤ n) (n1 : n ≤ 65536) : Tab w v n L := by
  obtain ⟨g, h, cap, e, c0, c1, c2, c3, hl⟩ := h
  exact ⟨g, h, cap, e, c0, c1, c2, c3, hl, hok, hm, l0, l1, n0, n1⟩
theorem Tab.below {w w' : World} {v : Value} {n : Int} {L : List (Int × List Int)} (h : Tab w v n L) (hb : Below w.heap.size w w') : Tab w' v n L := by
  obtain ⟨g, h, cap, rfl, c0, c1, c2, c3, hl, r⟩ := h
  have gl := cell_ltL c0
  exact ⟨g, h, cap, rfl, cb hb gl c0, cb hb gl c1, cb hb gl c2, cb hb gl c3, hl.below hb, r⟩
/-- A write to a block that has no int at its head leaves a table alone. -/
theorem Tab.kept {w w' : World} {v : Value} {n : Int} {L : List (Int × List Int)} {r : Option Nat} (h : Tab w v n L) (hg : w.grownBy w' r) (hp : ∀ b x, r = some b → w.cell? ⟨b, 0, none⟩ ≠ some (.int .i64 x)) : Tab w' v n L := by
  obtain ⟨g, h, cap, rfl, c0, c1, c2, c3, hl, hok, hm, l0, l1, n0, n1⟩ := h
  have ng : some g ≠ r := fun e => hp g _ e.symm c0
  refine ⟨g, h, cap, rfl, cg hg ng c0, cg hg ng c1, cg hg ng c2, cg hg ng c3, fun j hj => ?_, hok, hm, l0, l1, n0, n1⟩
  have nh : some h ≠ r := by
    have := (hl 0 l0).1
    rw [Nat.zero_mul] at this
    exact fun e => hp h _ e.symm this
  obtain ⟨d1, b, cp, d2, hr⟩ := hl j hj
  have nb : some b ≠ r := by
    have := hr.at (hok j hj).2.2.1
    rw [Nat.zero_add] at this
    exact fun e => hp b _ e.symm this
  exact ⟨cg hg nh d1, b, cp, cg hg nh d2, hr.grown hg nb⟩
theorem Tab.ptr {w : World} {v : Value} {n : Int} {L : List (Int × List Int)} (h : Tab w v n L) : ∃ a, v = .pointer (some a) := by
  obtain ⟨g, h, cap, rfl, _⟩ := h
  exact ⟨_, rfl⟩
theorem Tab.ok {w : World} {v : Value} {n : Int} {L : List (Int × List Int)} (h : Tab w v n L) : LinesOk L ∧ 1 ≤ L.length ∧ L.length ≤ 65536 ∧ 1 ≤ n ∧ n ≤ 65536 := by
  obtain ⟨g, h, cap, _, _, _, _, _, _, a, _, b⟩ := h
  exact ⟨a, b⟩
theorem tab_from {w : World} {v : Value} {n : Int} {L : List (Int × List Int)} (h : Tab w v n L) : Calls Tryz.prog 40 #[v] w fun e w' => e = .returned (.int .i64 n) ∧ Below w.heap.size w w' := by
  obtain ⟨g, h, cap, rfl, c0, c1, c2, c3, hl, hok, hm, l0, l1, n0, n1⟩ := h
  clear hl hok hm c1 c2 c3
  go_enter Tryz.func40, Tryz.ntmps40
  go_wp2
  go_ret
  exact ⟨rfl, Below.refl _ _⟩
theorem tab_to {w : World} {v : Value} {n : Int} {L : List (Int × List Int)} (h : Tab w v n L) : Calls Tryz.prog 12 #[v] w fun e w' => e = .returned (.int .i64 (L.length : Int)) ∧ Below w.heap.size w w' := by
  obtain ⟨g, h, cap, rfl, c0, c1, c2, c3, hl, hok, hm, l0, l1, n0, n1⟩ := h
  clear hl hok hm c0 c2 c3
  generalize L.length = m at *
  go_enter Tryz.func12, Tryz.ntmps12
  go_wp2
  go_ret
  exact ⟨rfl, Below.refl _ _⟩
theorem tab_most {w : World} {v : Value} {n : Int} {L : List (Int × List Int)} (h : Tab w v n L) : Calls Tryz.prog 13 #[v] w fun e w' => e = .returned (.int .i64 (mostF L)) ∧ Below w.heap.size w w' := by
  obtain ⟨g, h, cap, rfl, c0, c1, c2, c3, hl, hok, hm, l0, l1, n0, n1⟩ := h
  clear hl hok hm c0 c1 c3
  generalize mostF L = m at *
  go_enter Tryz.func13, Tryz.ntmps13
  go_wp2
  go_ret
  exact ⟨rfl, Below.refl _ _⟩
theorem tab_to_d {w : World} {v : Value} {n : Int} {L : List (Int × List Int)} (h : Tab w v n L) : Calls Tryz.prog 12 #[v] w fun e w' => e = .returned (.int .i64 (L.length : Int)) ∧ Drew w w' := by
  obtain ⟨g, h, cap, rfl, c0, c1, c2, c3, hl, hok, hm, l0, l1, n0, n1⟩ := h
  clear hl hok hm c0 c2 c3
  generalize L.length = m at *
  go_enter Tryz.func12, Tryz.ntmps12
  go_wp2
  go_ret
  exact ⟨rfl, Drew.refl _⟩
theorem tab_most_d {w : World} {v : Value} {n : Int} {L : List (Int × List Int)} (h : Tab w v n L) : Calls Tryz.prog 13 #[v] w fun e w' => e = .returned (.int .i64 (mostF L)) ∧ Drew w w' := by
  obtain ⟨g, h, cap, rfl, c0, c1, c2, c3, hl, hok, hm, l0, l1, n0, n1⟩ := h
  clear hl hok hm c0 c1 c3
  generalize mostF L = m at *
  go_enter Tryz.func13, Tryz.ntmps13
  go_wp2
  go_ret
  exact ⟨rfl, Drew.refl _⟩
/-- slices.Clone. -/
theorem clone_any (xs : List Int) (n : Nat) (hn : xs.length = n) (b off cap : Nat) (h1 : n ≤ 1048576) (w : World) (hr : RowAt .i64 w (some ⟨b, off, none⟩) xs) :
    Calls Tryz.prog 33 #[.slice (some ⟨b, off, none⟩) n cap] w fun e w' => ∃ v, e = .returned v ∧ OwnI .i64 2 w' w.heap.size v xs ∧ Below w.heap.size w w' := by
  have HR := hide hr
  have HN := hide hn
  obtain ⟨i0, hi, hz0, hz1, hz2⟩ := info_parts infoI64Q
  have q : ∀ w : World, (binOp .eql 24 (.slice (some ⟨b, off, none⟩) n cap) (.slice none 0 0)).run Tryz.prog w = .ok (.bool false) w := fun w => Lib.run_eql_slice_nil w _ _ _ n cap 0 0 Tryz.underlying24
  clear hr hn
  go_enter Tryz.func33, Tryz.ntmps33
  go_wp2_with (at_builtin; refine wpList_append_row .i64 _ rfl _ _ 24 rfl w.heap.size 2 i0 (.int .i64 0) 8 Tryz.underlying24 hi hz0 hz1 hz2 rfl (.slice (some ⟨w.heap.size, 0, none⟩) 0 0) [] rfl (own_lit0 _ _ _ _ (Nat.le_refl _)) (some ⟨b, off, none⟩) n cap xs rfl HN.out (HR.out.below (below1 _ _)) (fun e => by cases e) (by simp; unfold maxLen; omega) (by simp; omega) (by simp) ?_; intro v1 w2 own2 grow2 _; have bw2 := grown_lit (Below.refl _ _) grow2; rw [List.nil_append] at own2)
  go_ret
  exact ⟨v1, rfl, own2, bw2⟩
theorem set_apart {w : World} {a b o j : Nat} {u : Value} (h : a ≠ b ∨ o ≠ j) : (w.setCell ⟨a, o, none⟩ u).cell? ⟨b, j, none⟩ = w.cell? ⟨b, j, none⟩ :=
  World.cell?_setCell_other _ _ _ _ (by intro e; simp only [Addr.mk.injEq, and_true] at e; omega)
theorem own_set {k : IntKind} {T : TypeId} {w : World} {base : Nat} {v : Value} {xs : List Int} (h : OwnI k T w base v xs) {b : Nat} (o : Nat) (u : Value) (hb : b < base) : OwnI k T (w.setCell ⟨b, o, none⟩ u) base v xs := by
  refine ⟨h.1, ?_⟩
  rcases h.2 with h2 | ⟨g', cap', cur, hv, hB, hg, r⟩
  · exact .inl h2
  · refine .inr ⟨g', cap', cur, hv, hB, ?_, r⟩
    rw [heap_setCell_other w ⟨b, o, none⟩ g' u (by show g' ≠ b; omega)]
    exact hg
set_option maxRecDepth 100000 in
theorem tab_line {w : World} {v : Value} {n : Int} {L : List (Int × List Int)} (h : Tab w v n L) (j : Nat) (hj : j < L.length) :
    Calls Tryz.prog 20 #[v, .int .i64 (j : Int)] w fun e w' => ∃ u, e = .returned (.agg #[.int .i64 (lnAt L j).1, u]) ∧ OwnI .i64 2 w' w.heap.size u (lnAt L j).2 ∧ Below w.heap.size w w' := by
  obtain ⟨g, h, cap, rfl, c0, c1, c2, c3, hl, hok, hm, l0, l1, n0, n1⟩ := h
  replace hl := hl.lines
  obtain ⟨d1, u, d2, ad, cp, rfl, hr⟩ := hl j hj
  obtain ⟨f0, f1, t0, t1, hx⟩ := hok j hj
  obtain ⟨f, ts, he⟩ : ∃ f ts, lnAt L j = (f, ts) := ⟨_, _, rfl⟩
  rw [he] at d1 d2 hr f0 f1 t0 t1 hx ⊢
  obtain ⟨m, hmm⟩ : ∃ m, ts.length = m := ⟨_, rfl⟩
  replace d1 : w.cell? ⟨h, j * 2, none⟩ = some (.int .i64 f) := d1
  replace d2 : w.cell? ⟨h, j * 2 + 1, none⟩ = some (.slice ad ts.length cp) := d2
  replace t0 : 1 ≤ ts.length := t0
  replace t1 : ts.length ≤ 1048576 := t1
  obtain ⟨b, off, rfl, _⟩ := hr.get (show 0 < ts.length by omega)
  have CC := fun w' hr => clone_any ts m hmm b off cp (by omega) w' hr
  rw [hmm] at d2 t0 t1
  obtain ⟨M, hM⟩ : ∃ M, L.length = M := ⟨_, rfl⟩
  rw [hM] at c1 hj l1
  have HR := hide hr
  have HMM := hide hmm
  have gl := cell_ltL c1
  have hlt := cell_ltL d1
  clear hl hok hm he hmm hr hx c0 c2 c3 l0 hM n0 n1 f0 f1
  go_enter Tryz.func20, Tryz.ntmps20
  go_upto_region 4 with fail
  go_region_with (go_at_call 33; (with_reducible refine (CC _ (HR.out.below (by repeat (first | exact Below.refl _ _ | (with_reducible refine bt ?_ (by assumption)) | with_reducible refine bd ?_ | with_reducible refine ba ?_ _)))).mono ?_); rintro e w4 ⟨v, rfl, own, b4⟩; obtain ⟨ad2, cap2, rfl, _, _⟩ := own.formn HMM.out; have q0 := cb b4 (b := w.heap.size) (o := 0) (v := .int .i64 0) (by simp; omega) (by simp); have q1 := cb b4 (b := w.heap.size) (o := 1) (v := .slice none 0 0) (by simp; omega) (by simp); have q2 := fb b4 (b := w.heap.size) (o := 0) (by simp; omega) (by simp); have q3 := fb b4 (b := w.heap.size) (o := 1) (by simp; omega) (by simp); have q4 := cb b4 (b := w.heap.size + 1) (o := 0) (v := .int .i64 f) (by simp) (by simp); have q5 := cb b4 (b := w.heap.size + 1) (o := 1) (v := .slice (some ⟨b, off, none⟩) m cp) (by simp) (by simp))
  all_goals go_wp2
  all_goals
    have r0 : ((w4.setCell ⟨w.heap.size, 0, none⟩ (.int .i64 f)).setCell ⟨w.heap.size, 1, none⟩ (.slice ad2 m cap2)).cell? ⟨w.heap.size, 0, none⟩ = some (.int .i64 f) := (set_apart (Or.inr (by omega))).trans (World.cell?_setCell_same' _ _ _ (by rw [q0]; rfl))
    have r1 : ((w4.setCell ⟨w.heap.size, 0, none⟩ (.int .i64 f)).setCell ⟨w.heap.size, 1, none⟩ (.slice ad2 m cap2)).cell? ⟨w.heap.size, 1, none⟩ = some (.slice ad2 m cap2) := World.cell?_setCell_same' _ _ _ (by rw [set_apart (Or.inr (by omega)), q1]; rfl)
    have own2 := own_set (own_set own 0 (.int .i64 f) (b := w.heap.size) (by simp; omega)) 1 (.slice ad2 m cap2) (b := w.heap.size) (by simp; omega)
    have own3 := own2.mono (base' := w.heap.size) (by simp; omega)
    have B5 := bs (bs (bt (bd (ba (ba (Below.refl _ w) (.cells #[.int .i64 0, .slice none 0 0] 63)) (.cells #[.int .i64 f, .slice (some ⟨b, off, none⟩) m cp] 63))) b4) (b := w.heap.size) (o := 0) (Nat.le_refl _) (.int .i64 f)) (b := w.heap.size) (o := 1) (Nat.le_refl _) (.slice ad2 m cap2)
    have E5 := hide (And.intro own3 B5)
    clear own2 own3 B5 own b4
    exact bodyPost_ret (v := .agg #[.int .i64 f, .slice ad2 m cap2]) (by simp [results, Tryz.results20, go_sem, r0, r1]) rfl ⟨.slice ad2 m cap2, rfl, E5.out.1, E5.out.2⟩
theorem tab_reach_no {w : World} {v : Value} {n : Int} {L : List (Int × List Int)} (h : Tab w v n L) (i k : Int) (hno : min k (L.length : Int) ≤ max i 0) :
    Calls Tryz.prog 48 #[v, .int .i64 i, .int .i64 k] w fun e w' => e = .returned (.tuple #[.int .i64 0, .int .i64 0]) ∧ Below w.heap.size w w' := by
  obtain ⟨g, h, cap, rfl, c0, c1, c2, c3, hl, hok, hm, l0, l1, n0, n1⟩ := h
  have gl := cell_ltL c1
  clear hl hok hm c0 c2 c3 n0 n1
  generalize L.length = M at *
  go_enter Tryz.func48, Tryz.ntmps48
  go_upto_region 1 with fail
  go_region
  all_goals go_wp2
  all_goals exact bodyPost_ret (v := .tuple #[.int .i64 0, .int .i64 0]) (by simp [results, Tryz.results48, go_sem]) rfl ⟨rfl, bd (Below.refl _ _)⟩
set_option maxRecDepth 100000 in
theorem tab_reach_yes {w : World} {v : Value} {n : Int} {L : List (Int × List Int)} (h : Tab w v n L) (i k : Int) {p q : Nat} (hp : (p : Int) = max i 0) (hq : (q : Int) + 1 = min k (L.length : Int)) (hpq : p ≤ q) :
    Calls Tryz.prog 48 #[v, .int .i64 i, .int .i64 k] w fun e w' => e = .returned (.tuple #[.int .i64 (lnAt L p).1, .int .i64 ((lnAt L q).1 + ((lnAt L q).2.length : Int) - (lnAt L p).1)]) ∧ Below w.heap.size w w' := by
  obtain ⟨g, h, cap, rfl, c0, c1, c2, c3, hl, hok, hm, l0, l1, n0, n1⟩ := h
  have gl := cell_ltL c1
  have hqM : q < L.length := by omega
  replace hl := hl.lines
  obtain ⟨d1, -⟩ := hl p (by omega)
  obtain ⟨e1, u, e2, ad, cp, rfl, -⟩ := hl q hqM
  obtain ⟨f0, f1, -, -, -⟩ := hok p (by omega)
  obtain ⟨f2, f3, t0, t1, -⟩ := hok q hqM
  obtain ⟨len, hlen⟩ : ∃ len, (lnAt L q).2.length = len := ⟨_, rfl⟩
  rw [hlen] at e2 t0 t1 ⊢
  have hlt := cell_ltL d1
  clear hl hok hm c0 c2 c3 n0 n1 hlen
  generalize (lnAt L p).1 = f at *
  generalize (lnAt L q).1 = f' at *
  generalize L.length = M at *
  go_enter Tryz.func48, Tryz.ntmps48
  go_upto_region 1 with fail
  go_cut [1, 2, 10, 17] (fun a b c d wx => a = .int .i64 (p : Int) ∧ b = .int .i64 ((q : Int) + 1) ∧ c = .int .i64 (p : Int) ∧ d = .int .i64 ((q : Int) + 1) ∧ wx = w.drew)
  case first =>
    go_region
    all_goals (go_wp2_with fail; go_meet)
    all_goals exact ⟨by rw [hp], by rw [hq], by rw [hp], by rw [hq], rfl⟩
  case rest =>
    obtain ⟨rfl, rfl, rfl, rfl, rfl⟩ := hcut
    clear hp hq
    go_wp2_with fail
    go_quiet (fail)
    go_wp2
    exact bodyPost_ret (v := .tuple #[.int .i64 f, .int .i64 (f' - f + (len : Int))]) (by simp [results, Tryz.results48, go_sem]) rfl ⟨by rw [show f' - f + (len : Int) = f' + (len : Int) - f by omega], (by repeat (first | exact Below.refl _ _ | (with_reducible refine bdN ?_ _) | with_reducible refine bd ?_ | with_reducible refine ba ?_ _))⟩
theorem tab_reach {w : World} {v : Value} {n : Int} {L : List (Int × List Int)} (h : Tab w v n L) (i k : Int) (_ : -9223372036854775808 ≤ i) (_ : i ≤ 9223372036854775807) (_ : -9223372036854775808 ≤ k) (_ : k ≤ 9223372036854775807) :
    Calls Tryz.prog 48 #[v, .int .i64 i, .int .i64 k] w fun e w' => e = .returned (.tuple #[.int .i64 (reachF L i k).1, .int .i64 ((reachF L i k).2.1 - (reachF L i k).1)]) ∧ Below w.heap.size w w' := by
  by_cases hno : min k (L.length : Int) ≤ max i 0
  · rw [reach_none hno]
    exact tab_reach_no h i k hno
  · obtain ⟨p, hp⟩ : ∃ p : Nat, (p : Int) = max i 0 := ⟨(max i 0).toNat, by omega⟩
    obtain ⟨q, hq⟩ : ∃ q : Nat, (q : Int) + 1 = min k (L.length : Int) := ⟨(min k (L.length : Int) - 1).toNat, by omega⟩
    have hM : Moves L := by
      obtain ⟨_, _, _, _, _, _, _, _, _, _, hm, _⟩ := h
      exact hm
    rw [reach_part hM hp hq (by omega)]
    exact tab_reach_yes h i k hp hq (by omega)
end Go.Proofs.YtdpkigdfhfippaaGreatDoor

/- Weights that come to one: places sorted by their rests, and what is given to the first of them. -/
namespace Go.Proofs.YtdpkigdfhfippaaGreatDoor
open Go.RowKit


/-- 'cmp.Or' of two numbers. -/
def orI (a b : Int) : Int := if a = 0 then b else a
/-- How the program compares two places: the greater rest first, then the lesser place. -/
def cfR (r : List Int) (n : Nat) (x y : Fin n) : Int := orI (Lib.compareInt (r.getD y.val 0) (r.getD x.val 0)) (Lib.compareInt (x.val : Int) (y.val : Int))
theorem cmp_lt (x y : Int) : (Lib.compareInt x y < 0 ↔ x < y) ∧ (Lib.compareInt x y = 0 ↔ x = y) := by
  unfold Lib.compareInt
  by_cases h : x < y
  · rw [if_pos h]; omega
  · rw [if_neg h]
    by_cases g : x > y
    · rw [if_pos g]; omega
    · rw [if_neg g]; omega
theorem cfR_lt (r : List Int) (n : Nat) (x y : Fin n) : ltOf (cfR r n) x y = decide (r.getD y.val 0 < r.getD x.val 0 ∨ (r.getD y.val 0 = r.getD x.val 0 ∧ x.val < y.val)) := by
  unfold ltOf cfR orI
  obtain ⟨a, b⟩ := cmp_lt (r.getD y.val 0) (r.getD x.val 0)
  obtain ⟨c, d⟩ := cmp_lt (x.val : Int) (y.val : Int)
  rw [decide_eq_decide]
  by_cases h : Lib.compareInt (r.getD y.val 0) (r.getD x.val 0) = 0
  · rw [if_pos h]; omega
  · rw [if_neg h]; omega
theorem cfR_swo (r : List Int) (n : Nat) : Sort.SWO (ltOf (cfR r n)) where
  irrefl x := by rw [cfR_lt]; simp
  trans x y z h1 h2 := by rw [cfR_lt] at *; simp only [decide_eq_true_eq] at *; omega
  ntrans x y z h1 h2 := by rw [cfR_lt] at *; simp only [decide_eq_false_iff_not] at *; omega
/-- Places in the order in which what lacks is given. -/
structure Ranked (r : List Int) (p : List Nat) : Prop where
  len : p.length = r.length
  lt : ∀ k, k < p.length → p.getD k 0 < r.length
  all : ∀ j, j < r.length → ∃ k, k < p.length ∧ p.getD k 0 = j
  one : ∀ i k, i < p.length → k < p.length → p.getD i 0 = p.getD k 0 → i = k
  order : ∀ i k, i < k → k < p.length → r.getD (p.getD k 0) 0 < r.getD (p.getD i 0) 0 ∨ (r.getD (p.getD k 0) 0 = r.getD (p.getD i 0) 0 ∧ p.getD i 0 < p.getD k 0)
/-- One more, at each of the first places. -/
def bumpN (o : List Int) (p : List Nat) : Nat → List Int
  | 0 => o
  | m + 1 => (bumpN o p m).set (p.getD m 0) ((bumpN o p m).getD (p.getD m 0) 0 + 1)
theorem bumpN_len (o : List Int) (p : List Nat) (m : Nat) : (bumpN o p m).length = o.length := by
  induction m with
  | zero => rfl
  | succ m ih => unfold bumpN; rw [List.length_set]; exact ih
theorem bumpN_give {o r : List Int} {p : List Nat} (hp : Ranked r p) (hr : ∀ j, j < r.length → 0 ≤ r.getD j 0) (hl : o.length = r.length) (m : Nat) (hm : m ≤ r.length) :
    bumpN o p m = (giveN o r m).1 ∧ (∀ k, k < r.length → (giveN o r m).2.getD (p.getD k 0) 0 = if k < m then -1 else r.getD (p.getD k 0) 0) := by
  induction m with
  | zero => exact ⟨rfl, fun k _ => by rw [if_neg (by omega)]; rfl⟩
  | succ m ih =>
    obtain ⟨e1, e2⟩ := ih (by omega)
    obtain ⟨l1, l2⟩ := giveN_len o r m
    obtain ⟨pl, plt, pall, pone, pord⟩ := hp
    have hb : bestTo (giveN o r m).2 (giveN o r m).2.length = p.getD m 0 := by
      have bl := bestTo_lt (giveN o r m).2 (giveN o r m).2.length
      have bm := bestTo_max (giveN o r m).2 (giveN o r m).2.length
      have bf := bestTo_first (giveN o r m).2 (giveN o r m).2.length
      rw [l2] at bl bm bf ⊢
      generalize bestTo (giveN o r m).2 r.length = b at *
      have vm := e2 m (by omega)
      rw [if_neg (by omega)] at vm
      have pm := plt m (by omega)
      have h0 := hr _ pm
      have mx := bm _ pm
      obtain ⟨k, k1, k2⟩ := pall b (by omega)
      have vk := e2 k (by omega)
      rw [k2] at vk
      by_cases g : k < m
      · rw [if_pos g] at vk; omega
      · rw [if_neg g] at vk
        by_cases gk : k = m
        · subst gk; exact k2.symm
        · have := pord m k (by omega) k1
          rw [k2] at this
          have := bf (p.getD m 0)
          omega
    refine ⟨?_, ?_⟩
    · show (bumpN o p m).set _ _ = ((giveN o r m).1.set _ _)
      rw [e1, hb]
    · intro k hk
      show ((giveN o r m).2.set (bestTo (giveN o r m).2 (giveN o r m).2.length) (-1)).getD (p.getD k 0) 0 = _
      have pm := plt m (by omega)
      rw [hb, getD_set _ _ _ _ (by omega)]
      by_cases g : p.getD m 0 = p.getD k 0
      · have := pone m k (by omega) (by omega) g
        rw [if_pos g, if_pos (by omega)]
      · rw [if_neg g, e2 k hk]
        by_cases g2 : k < m
        · rw [if_pos g2, if_pos (by omega)]
        · rw [if_neg g2]
          by_cases g3 : k < m + 1
          · exfalso; apply g; rw [show k = m by omega]
          · rw [if_neg g3]
/-- The places as the sort leaves them. -/
def placesOf {n : Nat} (d : Array (Fin n)) : List Nat := d.toList.map Fin.val
theorem arr_bang {n : Nat} [Inhabited (Fin n)] (d : Array (Fin n)) {k : Nat} (h : k < d.size) : (placesOf d).getD k 0 = (d[k]!).val := by
  unfold placesOf
  rw [List.getD_eq_getElem?_getD, List.getElem?_map, getElem!_pos d k h]
  simp [h]
theorem ranked_of {r : List Int} {n : Nat} (hn : r.length = n) [Inhabited (Fin n)] (d d' : Array (Fin n)) (h0 : d.toList = List.finRange n) (hp : Sort.PermIn 0 d.size d d') (hs : Sort.SortedIn (ltOf (cfR r n)) 0 d.size d') : Ranked r (placesOf d') := by
  obtain ⟨hz, _, hperm⟩ := hp
  have sz : d.size = n := by rw [← Array.length_toList, h0, List.length_finRange]
  have e0 : (d.extract 0 d.size).toList = d.toList := by simp
  have e1 : (d'.extract 0 d.size).toList = d'.toList := by rw [← hz]; simp
  rw [e0, e1, h0] at hperm
  have pl : (placesOf d').length = n := by unfold placesOf; rw [List.length_map, Array.length_toList]; omega
  have nd : (placesOf d').Nodup := by
    unfold placesOf
    have : d'.toList.Nodup := hperm.nodup_iff.2 (List.nodup_finRange n)
    exact List.pairwise_map.2 (List.Pairwise.imp (fun {a b} h e => h (Fin.ext e)) this)
  refine ⟨by omega, ?_, ?_, ?_, ?_⟩
  · intro k hk
    rw [arr_bang d' (by omega)]
    have := (d'[k]!).isLt
    omega
  · intro j hj
    have hm : (⟨j, by omega⟩ : Fin n) ∈ d'.toList := hperm.mem_iff.2 (List.mem_finRange _)
    obtain ⟨k, hk, e⟩ := List.getElem_of_mem hm
    refine ⟨k, by rw [pl]; simp at hk; omega, ?_⟩
    unfold placesOf
    rw [List.getD_eq_getElem?_getD, List.getElem?_map, List.getElem?_eq_getElem hk, e]
    rfl
  · intro i k hi hk h
    rw [List.getD_eq_getElem?_getD, List.getD_eq_getElem?_getD, List.getElem?_eq_getElem hi, List.getElem?_eq_getElem hk] at h
    exact (List.getElem_inj nd).1 h
  · intro i k hik hk
    have S := hs i k (Nat.zero_le _) hik (by omega)
    rw [cfR_lt] at S
    simp only [decide_eq_false_iff_not] at S
    rw [arr_bang d' (by omega), arr_bang d' (by omega)]
    have ne : (d'[i]!).val ≠ (d'[k]!).val := by
      rw [← arr_bang d' (by omega), ← arr_bang d' (by omega)]
      intro h
      rw [List.getD_eq_getElem?_getD, List.getD_eq_getElem?_getD, List.getElem?_eq_getElem (by omega), List.getElem?_eq_getElem hk] at h
      have := (List.getElem_inj nd).1 h
      omega
    omega
end Go.Proofs.YtdpkigdfhfippaaGreatDoor

/- Sums and bounds, held: the program's; and the law on them. -/
namespace Go.Proofs.YtdpkigdfhfippaaGreatDoor
open Go.RowKit


theorem fixadd_any (a b : Int) (h0 : -9223372036854775808 ≤ a) (h1 : a ≤ 9223372036854775807) (k0 : -9223372036854775808 ≤ b) (k1 : b ≤ 9223372036854775807) (w : World) :
    Calls Tryz.prog 93 #[.int .i64 a, .int .i64 b] w fun e w' => e = .returned (.int .i64 (holdI (a + b))) ∧ w = w' := by
  by_cases hp : 0 < b
  · by_cases hc : 9223372036854775807 - b < a
    · rw [holdI_hi (by omega)]
      go_enter Tryz.func93, Tryz.ntmps93
      go_wp2
      go_ret
      exact ⟨rfl, rfl⟩
    · rw [holdI_in (by omega) (by omega)]
      go_enter Tryz.func93, Tryz.ntmps93
      go_wp2
      go_ret
      exact ⟨rfl, rfl⟩
  by_cases hn : b < 0
  · by_cases hc : a < -9223372036854775808 - b
    · rw [holdI_lo (by omega)]
      go_enter Tryz.func93, Tryz.ntmps93
      go_wp2
      go_ret
      exact ⟨rfl, rfl⟩
    · rw [holdI_in (by omega) (by omega)]
      go_enter Tryz.func93, Tryz.ntmps93
      go_wp2
      go_ret
      exact ⟨rfl, rfl⟩
  · obtain rfl : b = 0 := by omega
    rw [holdI_in (by omega) (by omega)]
    go_enter Tryz.func93, Tryz.ntmps93
    go_wp2
    go_ret
    exact ⟨by first | rfl | simp, rfl⟩
end Go.Proofs.YtdpkigdfhfippaaGreatDoor
