/- Parts, joined. -/
import Derived.Test.YtlknopmpbkepjaaDoorJ16
import Derived.Test.YtlknopmpbkepjaaDoorJ19
/- Operations as texts: the program's numbers with commas between: a range over a function. -/
namespace Go.Proofs.YtlknopmpbkepjaaDoor
open Go.RowKit Go.Shelf

attribute [local go_sem] Oper.semAt_some
theorem boxed_below {W W' : World} {B : Nat} {t : TypeId} {v : Value} (h : Boxed W B t v) (b : Below W.heap.size W W') : Boxed W' B t v := (b.block B h.lt).trans h
theorem others_below {W W' : World} (b : Below W.heap.size W W') : KeepsOthers W W' := KeepsOthers.of_grownBy (grown_below b none) (fun j o e => by cases e)
theorem join_has {c x : Int} : ∀ {ps : List (List Int)} {p : List Int}, p ∈ ps → x ∈ p → x ∈ joinC c ps := by
  intro ps
  induction ps with
  | nil => intro p h; cases h
  | cons q ps ih =>
    intro p h hx
    by_cases e : ps = []
    · subst e
      rw [List.mem_singleton] at h
      subst h
      exact hx
    · rw [join_cons e]
      rcases List.mem_cons.1 h with rfl | h
      · exact List.mem_append.2 (.inl hx)
      · exact List.mem_append.2 (.inr (List.mem_cons_of_mem _ (ih h hx)))
theorem pieces_byt (c : Int) (s : ByteArray) : (pieces c s).map byt = if byt s = [] then [] else splitC c (byt s) := by
  unfold pieces
  rw [byt_empty]
  cases h : byt s with
  | nil => rfl
  | cons x u =>
    rw [if_neg (by simp), if_neg (by simp), ← h]
    unfold pcs
    rw [List.map_map]
    refine (List.map_congr_left fun p hp => ?_).trans (List.map_id _)
    show byt (txt p) = id p
    exact byt_txt fun y hy => byt_in s y (by rw [← (split_join c (byt s)).1]; exact join_has hp hy)
/-- The parts of a text, all of them numbers, or one that isn't. -/
theorem pieces_all {s : ByteArray} {ys : List Sm} {xs : List Int} (h : ys.map (·.1) = pieces 44 s) (hA : ys.map (fun p => byt p.1) = xs.map intF) : byt s = rowB xs := by
  have e : (pieces 44 s).map byt = xs.map intF := by rw [← h, List.map_map]; exact hA
  rw [pieces_byt] at e
  by_cases hs : byt s = []
  · rw [if_pos hs] at e
    rw [hs, List.map_eq_nil_iff.1 e.symm]
    rfl
  · rw [if_neg hs] at e
    exact nums_end e
theorem pieces_bad {s : ByteArray} {qs : List Sm} {p : Sm} {xs : List Int} (h : (qs ++ [p]).map (·.1) <+: pieces 44 s) (hA : qs.map (fun p => byt p.1) = xs.map intF) (hp : ∀ y, I64P y → byt p.1 ≠ intF y) : ∀ ys, (∀ y ∈ ys, I64P y) → byt s ≠ rowB ys := by
  obtain ⟨r, hr⟩ := h
  have e : (pieces 44 s).map byt = xs.map intF ++ byt p.1 :: r.map byt := by
    rw [← hr, List.map_append, List.map_append, List.map_append, List.map_map, List.append_assoc, ← hA]
    rfl
  rw [pieces_byt] at e
  by_cases hs : byt s = []
  · rw [if_pos hs] at e
    simp at e
  · rw [if_neg hs] at e
    exact nums_bad hs e hp
theorem put_boxed {W : World} {D B : Nat} {t : TypeId} {v : Value} (hK : W.heap[D]? = some (.deferred (some []))) (h : Boxed W B t v) : Boxed (W.putObj D (.deferred none)) B t v := boxed_own (β := Unit) B t (fun _ => v) () W _ (some D) h (grownBy_putObj' _ _ _) (fun r e => by cases e; exact ⟨_, hK, rfl⟩)
/-- What an answer of numbers needs of the parts so far. -/
def AreN (pre : List Sm) (xs : List Int) : Prop := pre.map (fun p => byt p.1) = xs.map intF ∧ ∀ x ∈ xs, I64P x
theorem AreN.more {pre : List Sm} {xs : List Int} (h : AreN pre xs) {p : Sm} {x : Int} (hp : byt p.1 = intF x) (hx : I64P x) : AreN (pre ++ [p]) (xs ++ [x]) :=
  ⟨by rw [List.map_append, List.map_append, h.1, List.map_singleton, List.map_singleton, hp], fun y hy => by
    rcases List.mem_append.1 hy with q | q
    · exact h.2 y q
    · rw [List.mem_singleton.1 q]; exact hx⟩
theorem AreN.len {pre : List Sm} {xs : List Int} (h : AreN pre xs) : xs.length = pre.length := by
  have := congrArg List.length h.1
  rw [List.length_map, List.length_map] at this
  exact this.symm
def NumSt (w W : World) (pre : List Sm) : Prop :=
  (∃ xs, AreN pre xs ∧ ∃ v, Boxed W (w.heap.size + 1 + 1) 27 v ∧ OwnI .i64 2 W w.heap.size v xs ∧ True) ∧
  (Boxed W w.heap.size 27 (.slice none 0 0) ∧ Boxed W (w.heap.size + 1) 4 (.bool false)) ∧ Boxed W (w.heap.size + 1 + 1 + 1 + 1) 9 (.string (txt [44]))
def NumBad (w W : World) (pre : List Sm) : Prop :=
  (∃ qs p xs, pre = qs ++ [p] ∧ AreN qs xs ∧ ∀ y, I64P y → byt p.1 ≠ intF y) ∧ Boxed W w.heap.size 27 (.slice none 0 0) ∧ Boxed W (w.heap.size + 1) 4 (.bool false)
theorem numst_own (w : World) (B : Nat) : OwnFrom B (fun pre W => NumSt w W pre) := by
  rintro pre A W row ⟨⟨xs, h1, h2⟩, ⟨h3, h4⟩, h5⟩ hg hr
  have nc : ∀ r, row = some r → ∃ o : Obj, A.heap[r]? = some o ∧ o.isCells = false := fun r e => (hr r e).2
  have bx := fun {b : Nat} {t : TypeId} {v : Value} (h : Boxed A b t v) => boxed_own (β := Unit) b t (fun _ => v) () A W row h hg nc
  exact ⟨⟨xs, h1, holdsRow_own w.heap.size _ _ _ 1 List.length (List.map (Value.int .i64)) (fun _ _ => True) xs A W row h2 hg nc⟩, ⟨bx h3, bx h4⟩, bx h5⟩
theorem numbad_own (w : World) (B : Nat) : OwnFrom B (fun pre W => NumBad w W pre) := by
  rintro pre A W row ⟨h1, h3, h4⟩ hg hr
  have nc : ∀ r, row = some r → ∃ o : Obj, A.heap[r]? = some o ∧ o.isCells = false := fun r e => (hr r e).2
  have bx := fun {b : Nat} {t : TypeId} {v : Value} (h : Boxed A b t v) => boxed_own (β := Unit) b t (fun _ => v) () A W row h hg nc
  exact ⟨h1, bx h3, bx h4⟩
theorem boxed_app {W w1 : World} {n₀ B B' : Nat} {t' e : TypeId} {size : Nat} {u v : Value} {k : Nat} {xs : List Value} {tmp : Obj} (h : Boxed W B' t' u) (ht : t' ≠ e) (hne : B' ≠ B) (hrow : W.ownsRow n₀ e size v k xs) (hgrow : (W.alloc tmp).grownBy w1 v.ownBlock) (v' : Value) : Boxed (w1.setCell ⟨B, 0, none⟩ v') B' t' u :=
  ((h.alloc tmp).kept hgrow (h.not_row ht hrow)).other hne v'
set_option maxRecDepth 100000 in
set_option maxHeartbeats 2000000 in
theorem pnums_any (s : ByteArray) (hs : s.size ≤ 100000) (w : World) (hk : KP w) :
    Calls Tryd.prog 70 #[.string s] w fun e w' => NumsAns w.heap.size s e w' ∧ Below w.heap.size w w' := by
  obtain ⟨i0, hi, hz0, hz1, hz2⟩ := info_parts infoI64Q
  have HK := hide hk
  refine (callsIn_wide (n := 4)).1 ?_
  refine callsIn_of_wp_marks Tryd.func70 rfl trivial ?_ rfl
  simp only [Tryd.ntmps70, List.size_toArray, List.length_cons, List.length_nil, Nat.reduceAdd, Nat.reduceSub, Array.replicate_succ, Array.replicate_zero, List.push_toArray, List.append_toArray, List.nil_append, List.cons_append]
  have HP := sparts_any s ⟨#[44]⟩
  clear hk
  gi_wp2_with (refine ⟨trivial, ?_⟩; gi_at_call 32; refine (callsIn_wide.2 (HP _)).mono ?_; rintro e w' ⟨rfl, rfl⟩)
  obtain ⟨W0, hW0⟩ : ∃ W0, W0 = (((((w.alloc (.cells #[.slice none 0 0] 27)).alloc (.cells #[.bool false] 4)).alloc (.cells #[.slice none 0 0] 27)).alloc (.cells #[.string s] 9)).alloc (.cells #[.string ⟨#[44]⟩] 9)) := ⟨_, rfl⟩
  rw [← hW0]
  have hsz : W0.heap.size = w.heap.size + 1 + 1 + 1 + 1 + 1 := by rw [hW0]; simp
  have b0 : Boxed W0 w.heap.size 27 (.slice none 0 0) := by rw [hW0]; exact ((((Boxed.new w _ _).alloc _).alloc _).alloc _).alloc _
  have b1 : Boxed W0 (w.heap.size + 1) 4 (.bool false) := by
    have := Boxed.new (w.alloc (.cells #[.slice none 0 0] 27)) 4 (.bool false)
    rw [World.size_alloc] at this
    rw [hW0]; exact ((this.alloc _).alloc _).alloc _
  have b2 : Boxed W0 (w.heap.size + 1 + 1) 27 (.slice none 0 0) := by
    have := Boxed.new ((w.alloc (.cells #[.slice none 0 0] 27)).alloc (.cells #[.bool false] 4)) 27 (.slice none 0 0)
    rw [World.size_alloc, World.size_alloc] at this
    rw [hW0]; exact (this.alloc _).alloc _
  have b3 : Boxed W0 (w.heap.size + 1 + 1 + 1) 9 (.string s) := by
    have := Boxed.new (((w.alloc (.cells #[.slice none 0 0] 27)).alloc (.cells #[.bool false] 4)).alloc (.cells #[.slice none 0 0] 27)) 9 (.string s)
    rw [World.size_alloc, World.size_alloc, World.size_alloc] at this
    rw [hW0]; exact this.alloc _
  have b4 : Boxed W0 (w.heap.size + 1 + 1 + 1 + 1) 9 (.string (txt [44])) := by
    have := Boxed.new ((((w.alloc (.cells #[.slice none 0 0] 27)).alloc (.cells #[.bool false] 4)).alloc (.cells #[.slice none 0 0] 27)).alloc (.cells #[.string s] 9)) 9 (.string ⟨#[44]⟩)
    rw [World.size_alloc, World.size_alloc, World.size_alloc, World.size_alloc] at this
    rw [hW0]; exact this
  have hB0 : Below w.heap.size w W0 := by
    rw [hW0]
    exact (((((Below.refl _ w).alloc (Nat.le_refl _) _).alloc (by simp) _).alloc (by simp; omega) _).alloc (by simp; omega) _).alloc (by simp; omega) _
  clear hW0 HP
  refine wpIn_rangeFunc_ownG rfl (by omega) (gf := 43) (lb := #[.pointer (some ⟨w.heap.size + 1 + 1 + 1, 0, none⟩), .pointer (some ⟨w.heap.size + 1 + 1 + 1 + 1, 0, none⟩)]) rfl trivial (enters_of Tryd.func43 (by kernel_rfl) rfl)
    (parts_stops (4 - 1) (by omega) (w.heap.size + 1 + 1 + 1) (w.heap.size + 1 + 1 + 1 + 1) w.heap.size 44 (by omega) (by omega) s hs W0 (by omega) (by omega) (by omega) b3.cell b4.cell (fun W' hb => (kp_below HK.out (hB0.trans hb)).2.1))
    kpm_t (kpm_b (by omega)) (Below.refl _ _) (fun _ => rfl)
    (fun pre W => NumSt w W pre ∧ Below w.heap.size w W)
    (fun c pre W => (c = .ret ∧ NumBad w W pre) ∧ Below w.heap.size w W)
    (OwnFrom.and (numst_own w _) (ownFrom_below (Nat.le_refl _) (by omega)))
    (fun c => OwnFrom.and (fun s W W' row h hg hr => ⟨h.1, numbad_own w _ s W W' row h.2 hg hr⟩) (ownFrom_below (Nat.le_refl _) (by omega)))
    ⟨⟨⟨[], ⟨rfl, fun x hx => by cases hx⟩, _, b2, OwnI.nil _ _ _ _, trivial⟩, ⟨b0, b1⟩, b4⟩, hB0⟩
    (fun x => { tmps := #[.string s, undef, .pointer (some ⟨w.heap.size, 0, none⟩), .pointer (some ⟨w.heap.size + 1, 0, none⟩), .pointer (some ⟨w.heap.size + 1 + 1, 0, none⟩), .string x.1, undef, undef, .string s,
      .func (.func 43) #[] #[.pointer (some ⟨w.heap.size + 1 + 1 + 1, 0, none⟩), .pointer (some ⟨w.heap.size + 1 + 1 + 1 + 1, 0, none⟩)], .string x.1, undef, undef, undef, undef, undef, undef, undef, undef, undef, undef, undef, undef], defers := [] }) ?assign ?body ?done ?stop
  case assign =>
    intro l x W K hK
    gi_wp2
    exact hK
  case body =>
    rintro l pre x W ⟨⟨⟨xs, hA, v, hv, hrow, _⟩, ⟨c0, c1⟩, c4⟩, hB⟩ hlt
    have hlen : xs.length < 1000002 := by rw [hA.len]; exact hlt
    obtain ⟨y, ok, hy, hn, CN⟩ := num_p x.1 (by have := x.2; omega)
    have CN2 := CN _ (kp_below HK.out hB)
    have h11 : 1 ≤ 4 - 1 - 1 := by omega
    cases ok with
    | false =>
      have hn' := hn rfl
      clear hy hn CN
      gi_wp2_with (refine ⟨trivial, ?_⟩; gi_at_call 58; refine (CallsIn.inRound l (callsIn_wide.2 CN2)).mono ?_; rintro e w1 ⟨rfl, q1⟩; have d0 := boxed_below c0 q1; have d1 := boxed_below c1 q1; have d0c := d0.cell; have d0f := d0.frozen; have d1c := d1.cell; have d1f := d1.frozen)
      refine ⟨(((others_below q1).trans (KeepsOthers.setCell _ _ _)).trans (KeepsOthers.setCell _ _ _)).from _, ⟨rfl, ⟨pre, x, xs, rfl, hA, hn'⟩, (d0.set _).other (by omega) _, (d1.other (by omega) _).set _⟩, ?_⟩
      exact ((bt hB q1).setCell (p := ⟨w.heap.size, 0, none⟩) (Nat.le_refl _) _).setCell (p := ⟨w.heap.size + 1, 0, none⟩) (by show w.heap.size ≤ w.heap.size + 1; omega) _
    | true =>
      obtain ⟨hyi, hyb⟩ := hy rfl
      have hA2 := hA.more hyb hyi
      have HSZ := hide hB.size
      clear hy hn CN
      gi_wp2_with (first
        | (refine ⟨trivial, ?_⟩; gi_at_call 58; refine (CallsIn.inRound l (callsIn_wide.2 CN2)).mono ?_; rintro e w1 ⟨rfl, q1⟩; have d0 := boxed_below c0 q1; have d1 := boxed_below c1 q1; have d4 := boxed_below c4 q1; have dv := boxed_below hv q1; have dvc := dv.cell; have drow := hrow.below q1; have hw1 := Nat.le_trans HSZ.out q1.size; have HQ := hide q1)
        | (gi_at_builtin; refine wpListIn_append_own _ rfl _ _ 27 rfl w.heap.size 2 i0 (.int .i64 0) 1 8 Tryd.underlying27 hi hz0 hz1 hz2 rfl (by decide) _ _ _ rfl (World.ownsRow.alloc drow _) ⟨w1.heap.size, 0, none⟩ 1 1 [.int .i64 y] rfl rfl (cell_one_new _ _ _) (by simp [Value.oneCell']) (by show _ ≤ maxLen; unfold maxLen; omega) (by omega) (by simp; omega) ?_; intro v' w2 hown' hgrow _; obtain ⟨g', cap', rfl⟩ := ownsRow_succ hown'; obtain ⟨hv1, hv2, hr2, hk2, hb2⟩ := dv.appended (by decide) drow hw1 (by omega) hown' hgrow; have hc1 := hv1.cell; have hf1 := hv1.frozen))
      have hw0 : w.heap.size ≤ W0.heap.size := by omega
      refine ⟨((others_below HQ.out).trans hk2).from _, ⟨((HQ.out.mono HSZ.out).trans hb2), fun _ => (boxed_app d4 (by decide) (by omega) drow hgrow _).cell⟩, ⟨⟨xs ++ [y], hA2, _, hv2, by show World.ownsRow _ _ _ _ _ _ _; rw [List.length_append, List.map_append]; exact hr2, trivial⟩, ⟨boxed_app d0 (by decide) (by omega) drow hgrow _, boxed_app d1 (by decide) (by omega) drow hgrow _⟩, boxed_app d4 (by decide) (by omega) drow hgrow _⟩, (bt hB HQ.out).trans hb2⟩
  case done =>
    rintro D ys W hD hS ⟨⟨⟨xs, hA, v, hv, hrow, _⟩, ⟨c0, c1⟩, c4⟩, hB⟩ hK
    obtain ⟨ad, k, cap, rfl⟩ : ∃ ad k cap, v = .slice ad k cap := by
      rcases hrow.2 with ⟨rfl, _⟩ | ⟨g, cap, _, rfl, _⟩
      · exact ⟨_, _, _, rfl⟩
      · exact ⟨_, _, _, rfl⟩
    have c0c := c0.cell
    have c0f := c0.frozen
    have c1c := c1.cell
    have c1f := c1.frozen
    have hvc := hv.cell
    gi_wp2
    have hK2 := ((KeepsOthers.setCell W ⟨w.heap.size, 0, none⟩ (.slice ad k cap)).trans (KeepsOthers.setCell _ ⟨w.heap.size + 1, 0, none⟩ (.bool true))).same D _ hK rfl
    have hB2 : Below w.heap.size w ((W.setCell ⟨w.heap.size, 0, none⟩ (.slice ad k cap)).setCell ⟨w.heap.size + 1, 0, none⟩ (.bool true)) := (hB.setCell (p := ⟨w.heap.size, 0, none⟩) (Nat.le_refl _) _).setCell (p := ⟨w.heap.size + 1, 0, none⟩) (by show w.heap.size ≤ w.heap.size + 1; omega) _
    have f0 := (put_boxed hK2 ((c0.set (.slice ad k cap)).other (B' := w.heap.size + 1) (by omega) (.bool true))).cell
    have f1 := (put_boxed hK2 ((c1.other (B' := w.heap.size) (by omega) (.slice ad k cap)).set (.bool true))).cell
    have hrow1 : World.ownsRow W w.heap.size 2 1 (.slice ad k cap) xs.length (xs.map (Value.int .i64)) := hrow
    have hr2 := ownsRow_putObj ((hrow1.kept (grownBy_setCell' _ _ _) (.inr ((c0.not_row (by decide) hrow1).symm))).kept (grownBy_setCell' _ _ _) (.inr ((c1.other (B' := w.heap.size) (by omega) (.slice ad k cap)).not_row (by decide) (hrow1.kept (grownBy_setCell' _ _ _) (.inr ((c0.not_row (by decide) hrow1).symm)))).symm)) (.deferred none) hK2 rfl
    have hAns : NumsAns w.heap.size s (.returned (.tuple #[.slice ad k cap, .bool true])) (((W.setCell ⟨w.heap.size, 0, none⟩ (.slice ad k cap)).setCell ⟨w.heap.size + 1, 0, none⟩ (.bool true)).putObj D (.deferred none)) := .inl ⟨_, xs, rfl, pieces_all hS hA.1, hA.2, hr2⟩
    have hB3 := hB2.trans (belowK_b (w := w) (Nat.le_refl _) _ D _ (.deferred none) (by omega) hK2 rfl rfl)
    refine ⟨by simp, .inl ⟨_, _, rfl, run_takeDeferred hK2, ?_⟩⟩
    exact ⟨.tuple #[.slice ad k cap, .bool true], by simp [results, Tryd.results70, go_sem, f0, f1], hAns, hB3⟩
  case stop =>
    rintro D c pre W hD hS ⟨⟨rfl, ⟨qs, p, xs, rfl, hA, hp⟩, c0, c1⟩, hB⟩ hK
    gi_wp2
    have f0 := (put_boxed hK c0).cell
    have f1 := (put_boxed hK c1).cell
    have hB3 := hB.trans (belowK_b (w := w) (Nat.le_refl _) W D _ (.deferred none) (by omega) hK rfl rfl)
    refine ⟨by simp, .inl ⟨_, _, rfl, run_takeDeferred hK, ?_⟩⟩
    exact ⟨.tuple #[.slice none 0 0, .bool false], by simp [results, Tryd.results70, go_sem, f0, f1], .inr ⟨rfl, pieces_bad hS hA.1 hp⟩, hB3⟩
/-- Numbers, or none: what is known ahead. -/
theorem pnums_or (s : ByteArray) (hs : s.size ≤ 100000) :
    (∃ xs, (∀ x ∈ xs, I64P x) ∧ byt s = rowB xs ∧ ∀ w, KP w → Calls Tryd.prog 70 #[.string s] w fun e w' => (∃ ad cap, e = .returned (.tuple #[.slice ad xs.length cap, .bool true]) ∧ RowNew w' w.heap.size ad xs ∧ (ad = none → cap = 0)) ∧ Below w.heap.size w w') ∨
    ((∀ xs, (∀ x ∈ xs, I64P x) → byt s ≠ rowB xs) ∧ ∀ w, KP w → Calls Tryd.prog 70 #[.string s] w fun e w' => e = .returned (.tuple #[.slice none 0 0, .bool false]) ∧ Below w.heap.size w w') := by
  by_cases h : ∃ xs, (∀ x ∈ xs, I64P x) ∧ byt s = rowB xs
  · obtain ⟨xs, hx, hb⟩ := h
    refine .inl ⟨xs, hx, hb, fun w hk => (pnums_any s hs w hk).mono fun e w' ⟨hA, hB⟩ => ⟨?_, hB⟩⟩
    rcases hA with ⟨v, ys, he, hb2, _, ho⟩ | ⟨_, hn⟩
    · obtain rfl := rowB_inj (hb.symm.trans hb2)
      obtain ⟨ad, cap, rfl, hr, hz⟩ := own_new ho rfl
      exact ⟨ad, cap, he, hr, hz⟩
    · exact absurd hb (hn xs hx)
  · have hn : ∀ xs, (∀ x ∈ xs, I64P x) → byt s ≠ rowB xs := fun xs hx e => h ⟨xs, hx, e⟩
    refine .inr ⟨hn, fun w hk => (pnums_any s hs w hk).mono fun e w' ⟨hA, hB⟩ => ⟨?_, hB⟩⟩
    rcases hA with ⟨v, ys, _, hb2, hy, _⟩ | ⟨he, _⟩
    · exact absurd hb2 (hn ys hy)
    · exact he
theorem nums_p (s : ByteArray) (hs : s.size ≤ 100000) : ∃ (xs : List Int) (ok : Bool), (ok = true → (∀ x ∈ xs, I64P x) ∧ byt s = rowB xs) ∧ (ok = false → ∀ ys, (∀ y ∈ ys, I64P y) → byt s ≠ rowB ys) ∧
    ∀ w, KP w → Calls Tryd.prog 70 #[.string s] w fun e w' => (∃ ad cap, e = .returned (.tuple #[.slice ad xs.length cap, .bool ok]) ∧ RowNew w' w.heap.size ad xs ∧ (ad = none → cap = 0)) ∧ Below w.heap.size w w' := by
  rcases pnums_or s hs with ⟨xs, hx, hb, C⟩ | ⟨hn, C⟩
  · exact ⟨xs, true, fun _ => ⟨hx, hb⟩, (fun e => by cases e), C⟩
  · exact ⟨[], false, (fun e => by cases e), fun _ => hn, fun w hk => (C w hk).mono fun e w' ⟨he, hB⟩ => ⟨⟨none, 0, he, ⟨.inl rfl, fun a e => by cases e⟩, fun _ => rfl⟩, hB⟩⟩
end Go.Proofs.YtlknopmpbkepjaaDoor
