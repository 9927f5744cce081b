/- Parts, joined. -/
import Derived.Test.YtclgghhpiljgfaaGreatDoorJ29
import Derived.Test.YtclgghhpiljgfaaGreatDoorJ24
import Derived.Test.YtclgghhpiljgfaaGreatDoorJ22
import Derived.Deep.LoopGhost
/- Operations: the document's Make: what may not be. -/
namespace Go.Proofs.YtclgghhpiljgfaaGreatDoor
open Go.RowKit


/-- Five cells of a block, that may be written. -/
def S5 (w : World) (R : Nat) (v0 v1 v2 v3 v4 : Value) : Prop :=
  (w.cell? ⟨R, 0, none⟩ = some v0 ∧ w.frozen? ⟨R, 0, none⟩ = false) ∧ (w.cell? ⟨R, 1, none⟩ = some v1 ∧ w.frozen? ⟨R, 1, none⟩ = false) ∧ (w.cell? ⟨R, 2, none⟩ = some v2 ∧ w.frozen? ⟨R, 2, none⟩ = false) ∧
  (w.cell? ⟨R, 3, none⟩ = some v3 ∧ w.frozen? ⟨R, 3, none⟩ = false) ∧ (w.cell? ⟨R, 4, none⟩ = some v4 ∧ w.frozen? ⟨R, 4, none⟩ = false)
theorem S5.grown {w w' : World} {R : Nat} {v0 v1 v2 v3 v4 : Value} {row : Option Nat} (h : S5 w R v0 v1 v2 v3 v4) (g : w.grownBy w' row) (ne : some R ≠ row) : S5 w' R v0 v1 v2 v3 v4 := by
  obtain ⟨⟨a, a'⟩, ⟨b, b'⟩, ⟨c, c'⟩, ⟨d, d'⟩, ⟨e, e'⟩⟩ := h
  exact ⟨⟨cg g ne a, fg g ne a a'⟩, ⟨cg g ne b, fg g ne b b'⟩, ⟨cg g ne c, fg g ne c c'⟩, ⟨cg g ne d, fg g ne d d'⟩, ⟨cg g ne e, fg g ne e e'⟩⟩
theorem S5.below {w w' : World} {R : Nat} {v0 v1 v2 v3 v4 : Value} (h : S5 w R v0 v1 v2 v3 v4) (b : Below w.heap.size w w') : S5 w' R v0 v1 v2 v3 v4 := h.grown (grown_below b none) (by simp)
theorem S5.new (w : World) (T : TypeId) (v0 v1 v2 v3 v4 : Value) : S5 (w.alloc (.cells #[v0, v1, v2, v3, v4] T)) w.heap.size v0 v1 v2 v3 v4 := by
  unfold S5
  simp
theorem S5.set0 {w : World} {R : Nat} {v0 v1 v2 v3 v4 : Value} (h : S5 w R v0 v1 v2 v3 v4) (u : Value) : S5 (w.setCell ⟨R, 0, none⟩ u) R u v1 v2 v3 v4 := by
  obtain ⟨⟨a, a'⟩, ⟨b, b'⟩, ⟨c, c'⟩, ⟨d, d'⟩, ⟨e, e'⟩⟩ := h
  unfold S5
  simp only [World.frozen?_setCell]
  refine ⟨⟨World.cell?_setCell_same' _ _ _ (by rw [a]; rfl), a'⟩, ⟨?_, b'⟩, ⟨?_, c'⟩, ⟨?_, d'⟩, ⟨?_, e'⟩⟩ <;> rw [World.cell?_setCell_other _ _ _ _ (by intro x; simp at x)] <;> assumption
theorem S5.set1 {w : World} {R : Nat} {v0 v1 v2 v3 v4 : Value} (h : S5 w R v0 v1 v2 v3 v4) (u : Value) : S5 (w.setCell ⟨R, 1, none⟩ u) R v0 u v2 v3 v4 := by
  obtain ⟨⟨a, a'⟩, ⟨b, b'⟩, ⟨c, c'⟩, ⟨d, d'⟩, ⟨e, e'⟩⟩ := h
  unfold S5
  simp only [World.frozen?_setCell]
  refine ⟨⟨?_, a'⟩, ⟨World.cell?_setCell_same' _ _ _ (by rw [b]; rfl), b'⟩, ⟨?_, c'⟩, ⟨?_, d'⟩, ⟨?_, e'⟩⟩ <;> rw [World.cell?_setCell_other _ _ _ _ (by intro x; simp at x)] <;> assumption
theorem S5.set2 {w : World} {R : Nat} {v0 v1 v2 v3 v4 : Value} (h : S5 w R v0 v1 v2 v3 v4) (u : Value) : S5 (w.setCell ⟨R, 2, none⟩ u) R v0 v1 u v3 v4 := by
  obtain ⟨⟨a, a'⟩, ⟨b, b'⟩, ⟨c, c'⟩, ⟨d, d'⟩, ⟨e, e'⟩⟩ := h
  unfold S5
  simp only [World.frozen?_setCell]
  refine ⟨⟨?_, a'⟩, ⟨?_, b'⟩, ⟨World.cell?_setCell_same' _ _ _ (by rw [c]; rfl), c'⟩, ⟨?_, d'⟩, ⟨?_, e'⟩⟩ <;> rw [World.cell?_setCell_other _ _ _ _ (by intro x; simp at x)] <;> assumption
theorem S5.set3 {w : World} {R : Nat} {v0 v1 v2 v3 v4 : Value} (h : S5 w R v0 v1 v2 v3 v4) (u : Value) : S5 (w.setCell ⟨R, 3, none⟩ u) R v0 v1 v2 u v4 := by
  obtain ⟨⟨a, a'⟩, ⟨b, b'⟩, ⟨c, c'⟩, ⟨d, d'⟩, ⟨e, e'⟩⟩ := h
  unfold S5
  simp only [World.frozen?_setCell]
  refine ⟨⟨?_, a'⟩, ⟨?_, b'⟩, ⟨?_, c'⟩, ⟨World.cell?_setCell_same' _ _ _ (by rw [d]; rfl), d'⟩, ⟨?_, e'⟩⟩ <;> rw [World.cell?_setCell_other _ _ _ _ (by intro x; simp at x)] <;> assumption
theorem S5.set4 {w : World} {R : Nat} {v0 v1 v2 v3 v4 : Value} (h : S5 w R v0 v1 v2 v3 v4) (u : Value) : S5 (w.setCell ⟨R, 4, none⟩ u) R v0 v1 v2 v3 u := by
  obtain ⟨⟨a, a'⟩, ⟨b, b'⟩, ⟨c, c'⟩, ⟨d, d'⟩, ⟨e, e'⟩⟩ := h
  unfold S5
  simp only [World.frozen?_setCell]
  refine ⟨⟨?_, a'⟩, ⟨?_, b'⟩, ⟨?_, c'⟩, ⟨?_, d'⟩, ⟨World.cell?_setCell_same' _ _ _ (by rw [e]; rfl), e'⟩⟩ <;> rw [World.cell?_setCell_other _ _ _ _ (by intro x; simp at x)] <;> assumption
/-- All five are written. -/
theorem S5.fill {w : World} {R : Nat} {u0 u1 u2 u3 u4 : Value} (h : S5 w R u0 u1 u2 u3 u4) (v0 v1 v2 v3 v4 : Value) : S5 (((((w.setCell ⟨R, 0, none⟩ v0).setCell ⟨R, 1, none⟩ v1).setCell ⟨R, 2, none⟩ v2).setCell ⟨R, 3, none⟩ v3).setCell ⟨R, 4, none⟩ v4) R v0 v1 v2 v3 v4 :=
  ((((h.set0 v0).set1 v1).set2 v2).set3 v3).set4 v4
theorem below_fill {a w : World} {R : Nat} (h : Below a.heap.size a w) (hR : a.heap.size ≤ R) (v0 v1 v2 v3 v4 : Value) : Below a.heap.size a (((((w.setCell ⟨R, 0, none⟩ v0).setCell ⟨R, 1, none⟩ v1).setCell ⟨R, 2, none⟩ v2).setCell ⟨R, 3, none⟩ v3).setCell ⟨R, 4, none⟩ v4) :=
  bs (bs (bs (bs (bs h hR _) hR _) hR _) hR _) hR _
def s0V : Value := .agg #[.slice none 0 0, .slice none 0 0, .int .i64 0, .int .i64 0, .int .i64 0]
set_option maxHeartbeats 4000000 in
set_option maxRecDepth 100000 in
theorem dmake_bad (o : Opr) (ax : Option Addr) (cx : Nat) (ay : Option Addr) (cy : Nat) (a b : Int) (w : World) (h : okO o a b = false) :
    Calls Tryz.prog 13 #[opV o ax cx ay cy, .int .i64 a, .int .i64 b] w fun e w' => e = .returned (.tuple #[s0V, .int .i64 6]) ∧ Below w.heap.size w w' := by
  have hn : ¬ ((0 ≤ o.kd ∧ o.kd ≤ 3) ∧ (0 ≤ o.bd ∧ o.bd ≤ 2) ∧ (1 ≤ a ∧ a ≤ 65536) ∧ (1 ≤ b ∧ b ≤ 65536) ∧ (o.kd = 3 → (1 ≤ o.wd ∧ o.wd ≤ 65536) ∧ (1 ≤ o.ht ∧ o.ht ≤ 65536) ∧ 0 ≤ o.fl ∧ o.fl ≤ 2)) := fun g => Bool.false_ne_true (h.symm.trans ((okO_iff o a b).2 g))
  unfold opV s0V
  obtain ⟨kd, bd, sg, rd, xs, ys, fl, wd, ht⟩ := o
  simp only at hn ⊢
  clear h
  generalize xs.length = nx at *
  generalize ys.length = ny at *
  by_cases a1 : kd < 0
  · clear hn
    go_enter Tryz.func13, Tryz.ntmps13
    go_wp2
    exact bodyPost_ret (v := .tuple #[.agg #[.slice none 0 0, .slice none 0 0, .int .i64 0, .int .i64 0, .int .i64 0], .int .i64 6]) (by simp [results, Tryz.results13, go_sem]) rfl ⟨rfl, by repeat (first | exact Below.refl _ _ | with_reducible refine ba ?_ _)⟩
  by_cases a2 : 3 < kd
  · clear hn
    go_enter Tryz.func13, Tryz.ntmps13
    go_wp2
    exact bodyPost_ret (v := .tuple #[.agg #[.slice none 0 0, .slice none 0 0, .int .i64 0, .int .i64 0, .int .i64 0], .int .i64 6]) (by simp [results, Tryz.results13, go_sem]) rfl ⟨rfl, by repeat (first | exact Below.refl _ _ | with_reducible refine ba ?_ _)⟩
  by_cases a3 : bd < 0
  · clear hn
    go_enter Tryz.func13, Tryz.ntmps13
    go_wp2
    exact bodyPost_ret (v := .tuple #[.agg #[.slice none 0 0, .slice none 0 0, .int .i64 0, .int .i64 0, .int .i64 0], .int .i64 6]) (by simp [results, Tryz.results13, go_sem]) rfl ⟨rfl, by repeat (first | exact Below.refl _ _ | with_reducible refine ba ?_ _)⟩
  by_cases a4 : 2 < bd
  · clear hn
    go_enter Tryz.func13, Tryz.ntmps13
    go_wp2
    exact bodyPost_ret (v := .tuple #[.agg #[.slice none 0 0, .slice none 0 0, .int .i64 0, .int .i64 0, .int .i64 0], .int .i64 6]) (by simp [results, Tryz.results13, go_sem]) rfl ⟨rfl, by repeat (first | exact Below.refl _ _ | with_reducible refine ba ?_ _)⟩
  by_cases a5 : 1 ≤ a ∧ a ≤ 65536
  case neg =>
    have S1 := dside12_no a (by omega)
    clear hn a5
    go_enter Tryz.func13, Tryz.ntmps13
    go_wp2_with (first
      | (go_at_call 31; (with_reducible refine (S1 _).mono ?_); rintro e w1 ⟨rfl, rfl⟩))
    exact bodyPost_ret (v := .tuple #[.agg #[.slice none 0 0, .slice none 0 0, .int .i64 0, .int .i64 0, .int .i64 0], .int .i64 6]) (by simp [results, Tryz.results13, go_sem]) rfl ⟨rfl, by repeat (first | exact Below.refl _ _ | with_reducible refine ba ?_ _)⟩
  have S1 := dside12_yes a a5.1 a5.2
  by_cases a6 : 1 ≤ b ∧ b ≤ 65536
  case neg =>
    have S2 := dside12_no b (by omega)
    clear hn a5 a6
    go_enter Tryz.func13, Tryz.ntmps13
    go_wp2_with (first
      | (go_at_call 31; (with_reducible refine (S1 _).mono ?_); rintro e w1 ⟨rfl, rfl⟩)
      | (go_at_call 31; (with_reducible refine (S2 _).mono ?_); rintro e w1 ⟨rfl, rfl⟩))
    exact bodyPost_ret (v := .tuple #[.agg #[.slice none 0 0, .slice none 0 0, .int .i64 0, .int .i64 0, .int .i64 0], .int .i64 6]) (by simp [results, Tryz.results13, go_sem]) rfl ⟨rfl, by repeat (first | exact Below.refl _ _ | with_reducible refine ba ?_ _)⟩
  have S2 := dside12_yes b a6.1 a6.2
  have k3 : kd = 3 := by
    by_cases k : kd = 3
    · exact k
    · exact absurd ⟨⟨by omega, by omega⟩, ⟨by omega, by omega⟩, a5, a6, fun e => absurd e k⟩ hn
  subst k3
  by_cases a7 : 1 ≤ wd ∧ wd ≤ 65536
  case neg =>
    have S3 := dside12_no wd (by omega)
    clear hn a5 a6 a7
    go_enter Tryz.func13, Tryz.ntmps13
    go_wp2_with (first
      | (go_at_call 31; (with_reducible refine (S1 _).mono ?_); rintro e w1 ⟨rfl, rfl⟩)
      | (go_at_call 31; (with_reducible refine (S2 _).mono ?_); rintro e w1 ⟨rfl, rfl⟩)
      | (go_at_call 31; (with_reducible refine (S3 _).mono ?_); rintro e w1 ⟨rfl, rfl⟩))
    exact bodyPost_ret (v := .tuple #[.agg #[.slice none 0 0, .slice none 0 0, .int .i64 0, .int .i64 0, .int .i64 0], .int .i64 6]) (by simp [results, Tryz.results13, go_sem]) rfl ⟨rfl, by repeat (first | exact Below.refl _ _ | with_reducible refine ba ?_ _)⟩
  have S3 := dside12_yes wd a7.1 a7.2
  by_cases a8 : 1 ≤ ht ∧ ht ≤ 65536
  case neg =>
    have S4 := dside12_no ht (by omega)
    clear hn a5 a6 a7 a8
    go_enter Tryz.func13, Tryz.ntmps13
    go_wp2_with (first
      | (go_at_call 31; (with_reducible refine (S1 _).mono ?_); rintro e w1 ⟨rfl, rfl⟩)
      | (go_at_call 31; (with_reducible refine (S2 _).mono ?_); rintro e w1 ⟨rfl, rfl⟩)
      | (go_at_call 31; (with_reducible refine (S3 _).mono ?_); rintro e w1 ⟨rfl, rfl⟩)
      | (go_at_call 31; (with_reducible refine (S4 _).mono ?_); rintro e w1 ⟨rfl, rfl⟩))
    exact bodyPost_ret (v := .tuple #[.agg #[.slice none 0 0, .slice none 0 0, .int .i64 0, .int .i64 0, .int .i64 0], .int .i64 6]) (by simp [results, Tryz.results13, go_sem]) rfl ⟨rfl, by repeat (first | exact Below.refl _ _ | with_reducible refine ba ?_ _)⟩
  have S4 := dside12_yes ht a8.1 a8.2
  by_cases a9 : fl < 0
  · clear hn a5 a6 a7 a8
    go_enter Tryz.func13, Tryz.ntmps13
    go_wp2_with (first
      | (go_at_call 31; (with_reducible refine (S1 _).mono ?_); rintro e w1 ⟨rfl, rfl⟩)
      | (go_at_call 31; (with_reducible refine (S2 _).mono ?_); rintro e w1 ⟨rfl, rfl⟩)
      | (go_at_call 31; (with_reducible refine (S3 _).mono ?_); rintro e w1 ⟨rfl, rfl⟩)
      | (go_at_call 31; (with_reducible refine (S4 _).mono ?_); rintro e w1 ⟨rfl, rfl⟩))
    exact bodyPost_ret (v := .tuple #[.agg #[.slice none 0 0, .slice none 0 0, .int .i64 0, .int .i64 0, .int .i64 0], .int .i64 6]) (by simp [results, Tryz.results13, go_sem]) rfl ⟨rfl, by repeat (first | exact Below.refl _ _ | with_reducible refine ba ?_ _)⟩
  have aa : 2 < fl := by
    by_cases k : 2 < fl
    · exact k
    · exact absurd ⟨⟨by omega, by omega⟩, ⟨by omega, by omega⟩, a5, a6, fun _ => ⟨a7, a8, by omega, by omega⟩⟩ hn
  clear hn a5 a6 a7 a8
  go_enter Tryz.func13, Tryz.ntmps13
  go_wp2_with (first
    | (go_at_call 31; (with_reducible refine (S1 _).mono ?_); rintro e w1 ⟨rfl, rfl⟩)
    | (go_at_call 31; (with_reducible refine (S2 _).mono ?_); rintro e w1 ⟨rfl, rfl⟩)
    | (go_at_call 31; (with_reducible refine (S3 _).mono ?_); rintro e w1 ⟨rfl, rfl⟩)
    | (go_at_call 31; (with_reducible refine (S4 _).mono ?_); rintro e w1 ⟨rfl, rfl⟩))
  exact bodyPost_ret (v := .tuple #[.agg #[.slice none 0 0, .slice none 0 0, .int .i64 0, .int .i64 0, .int .i64 0], .int .i64 6]) (by simp [results, Tryz.results13, go_sem]) rfl ⟨rfl, by repeat (first | exact Below.refl _ _ | with_reducible refine ba ?_ _)⟩
end Go.Proofs.YtclgghhpiljgfaaGreatDoor

/- Slices of records that a call made: each of so many cells. No number of the program stands in it. -/
namespace Go.Proofs.YtclgghhpiljgfaaGreatDoor
open Go.RowKit


def recAt (us : List (List Value)) (j i : Nat) : Value := (us.getD j []).getD i undef
/-- A slice of records that the call itself made. -/
def OwnRec (T : TypeId) (k : Nat) (w : World) (base : Nat) (v : Value) (us : List (List Value)) : Prop := w.ownsRow base T k v us.length us.flatten ∧ ∀ u ∈ us, u.length = k
theorem flat_get {k : Nat} : ∀ {us : List (List Value)}, (∀ u ∈ us, u.length = k) → ∀ {j i : Nat}, j < us.length → i < k → us.flatten[j * k + i]? = some (recAt us j i)
  | [], _, _, _, h, _ => absurd h (Nat.not_lt_zero _)
  | u :: us, hu, 0, i, _, hi => by
    have e := hu u List.mem_cons_self
    rw [Nat.zero_mul, Nat.zero_add, List.flatten_cons, List.getElem?_append_left (by omega), List.getElem?_eq_getElem (by omega)]
    show _ = some (u.getD i undef)
    rw [List.getD_eq_getElem?_getD, List.getElem?_eq_getElem (by omega)]
    rfl
  | u :: us, hu, j + 1, i, hj, hi => by
    have e := hu u List.mem_cons_self
    have ih := flat_get (fun v hv => hu v (List.mem_cons_of_mem _ hv)) (j := j) (i := i) (by simpa using hj) hi
    rw [List.flatten_cons, List.getElem?_append_right (by rw [e, Nat.add_mul]; omega), e, show (j + 1) * k + i - k = j * k + i by rw [Nat.add_mul]; omega]
    exact ih
theorem recAt_old {us : List (List Value)} {u : List Value} {j i : Nat} (h : j < us.length) : recAt (us ++ [u]) j i = recAt us j i := by
  have e : (us ++ [u]).getD j [] = us.getD j [] := by rw [List.getD_eq_getElem?_getD, List.getD_eq_getElem?_getD, List.getElem?_append_left h]
  unfold recAt
  rw [e]
theorem recAt_new (us : List (List Value)) (u : List Value) (i : Nat) : recAt (us ++ [u]) us.length i = u.getD i undef := by
  have e : (us ++ [u]).getD us.length [] = u := by
    rw [List.getD_eq_getElem?_getD, List.getElem?_append_right (Nat.le_refl _), Nat.sub_self]
    rfl
  unfold recAt
  rw [e]
theorem OwnRec.nil (T : TypeId) (k : Nat) (w : World) (base : Nat) : OwnRec T k w base (.slice none 0 0) [] := ⟨World.ownsRow_nil _ _ _ _, fun _ h => by cases h⟩
theorem recs_below {T : TypeId} {w w' : World} {base k : Nat} {v : Value} {n : Nat} {xs : List Value} (h : w.ownsRow base T k v n xs) (hb : Below w.heap.size w w') : w'.ownsRow base T k v n xs := by
  refine ⟨h.1, ?_⟩
  rcases h.2 with h2 | ⟨g, cap, cur, hv, hB, hg, r⟩
  · exact .inl h2
  · refine .inr ⟨g, cap, cur, hv, hB, ?_, r⟩
    have hlt : g < w.heap.size := by
      rcases Nat.lt_or_ge g w.heap.size with hlt | hge
      · exact hlt
      · rw [Array.getElem?_eq_none hge] at hg; cases hg
    rw [hb.block g hlt]; exact hg
theorem OwnRec.below {T : TypeId} {k : Nat} {w w' : World} {base : Nat} {v : Value} {us : List (List Value)} (h : OwnRec T k w base v us) (hb : Below w.heap.size w w') : OwnRec T k w' base v us := ⟨recs_below h.1 hb, h.2⟩
theorem OwnRec.mono {T : TypeId} {k : Nat} {w : World} {base base' : Nat} {v : Value} {us : List (List Value)} (h : OwnRec T k w base v us) (hb : base' ≤ base) : OwnRec T k w base' v us := ⟨own_mono h.1 hb, h.2⟩
/-- One record is appended. -/
theorem OwnRec.more {T : TypeId} {k : Nat} {w : World} {base n : Nat} {v : Value} {us : List (List Value)} {u : List Value} (hu : ∀ x ∈ us, x.length = k) (hk : u.length = k) (hn : us.length + 1 = n) (h : w.ownsRow base T k v n (us.flatten ++ u)) : OwnRec T k w base v (us ++ [u]) := by
  subst hn
  refine ⟨?_, fun x hx => ?_⟩
  · rw [List.length_append, List.flatten_append]
    simpa using h
  · rcases List.mem_append.1 hx with hx | hx
    · exact hu x hx
    · rw [List.mem_singleton] at hx; rw [hx]; exact hk
/-- What it reads as. -/
theorem OwnRec.read {T : TypeId} {k : Nat} {w : World} {base : Nat} {v : Value} {us : List (List Value)} (h : OwnRec T k w base v us) (h0 : us ≠ []) :
    ∃ g cap, v = .slice (some ⟨g, 0, none⟩) us.length cap ∧ base ≤ g ∧ g < w.heap.size ∧ us.length ≤ cap ∧ ∀ j, j < us.length → ∀ i, i < k → w.cell? ⟨g, j * k + i, none⟩ = some (recAt us j i) := by
  obtain ⟨h2, h3⟩ := h
  have hl : 0 < us.length := List.length_pos_iff.2 h0
  obtain ⟨g, cap, hv, hB, hlt, hc⟩ : ∃ g cap, v = .slice (some ⟨g, 0, none⟩) us.length cap ∧ base ≤ g ∧ g < w.heap.size ∧ us.length ≤ cap := by
    rcases h2.2 with ⟨_, h0⟩ | ⟨g, cap, cur, hv, hB, hg, hn, _⟩
    · omega
    · refine ⟨g, cap, hv, hB, ?_, hn⟩
      rcases Nat.lt_or_ge g w.heap.size with hlt | hge
      · exact hlt
      · rw [Array.getElem?_eq_none hge] at hg; cases hg
  subst hv
  refine ⟨g, cap, rfl, hB, hlt, hc, fun j hj i hi => ?_⟩
  have e1 := World.ownsRow.cells h2 (g := g) rfl _ _ (flat_get h3 hj hi)
  rw [addr_add, Nat.zero_add] at e1
  exact e1
/-- Its form. -/
theorem OwnRec.form {T : TypeId} {k : Nat} {w : World} {base n : Nat} {v : Value} {us : List (List Value)} (h : OwnRec T k w base v us) (hn : us.length = n) : ∃ ad cap, v = .slice ad n cap ∧ n ≤ cap ∧ (ad = none → cap = 0) := by
  subst hn
  rcases h.1.2 with ⟨hv, h0⟩ | ⟨g, cap, cur, hv, _, _, hn, _⟩
  · exact ⟨none, 0, by rw [hv, h0], by omega, fun _ => rfl⟩
  · exact ⟨_, cap, hv, hn, fun e => by cases e⟩
theorem new_list (w : World) (l : List Value) (t : TypeId) : ∀ j x, l[j]? = some x → (w.alloc (.cells l.toArray t)).cell? ((⟨w.heap.size, 0, none⟩ : Addr).add j) = some x := by
  intro j x h
  rw [addr_add, Nat.zero_add]
  unfold World.cell?
  rw [heap_alloc_new]
  simp [h]
end Go.Proofs.YtclgghhpiljgfaaGreatDoor

/- Operations: what the laws make of them: as the document has them; little ones. -/
namespace Go.Proofs.YtclgghhpiljgfaaGreatDoor
open Go.RowKit


/-- One operation, as the document has it: the same cells. -/
theorem ref12_any (o : Opr) (ax : Option Addr) (cx : Nat) (ay : Option Addr) (cy : Nat) (w : World) :
    Calls Tryz.prog 14 #[opV o ax cx ay cy] w fun e w' => e = .returned (opV o ax cx ay cy) ∧ Below w.heap.size w w' := by
  unfold opV
  obtain ⟨kd, bd, sg, rd, xs, ys, fl, wd, ht⟩ := o
  simp only
  generalize xs.length = nx at *
  generalize ys.length = ny at *
  go_enter Tryz.func14, Tryz.ntmps14
  go_wp2
  exact bodyPost_ret (v := .agg #[.int .i64 kd, .int .i64 bd, .int .i64 sg, .int .i64 rd, .slice ax nx cx, .slice ay ny cy, .int .i64 fl, .int .i64 wd, .int .i64 ht]) (by simp [results, Tryz.results14, go_sem]) rfl ⟨rfl, ba (below1 _ _) _⟩
/-- What the laws don't play. -/
def BigO (s : Int) (o : Opr) : Prop := 40 < o.xs.length ∨ 40 < o.ys.length ∨ (262144 < o.sg ∧ o.sg ≤ 4194304) ∨ (20 < o.rd ∧ o.rd < 512) ∨ (s < o.wd ∧ o.wd ≤ 65536) ∨ (s < o.ht ∧ o.ht ≤ 65536)
def bigB (s : Int) (L : List Opr) : Nat → Bool
  | 0 => false
  | k + 1 => bigB s L k || (decide (40 < (opAt L k).xs.length) || decide (40 < (opAt L k).ys.length) || decide (262144 < (opAt L k).sg ∧ (opAt L k).sg ≤ 4194304) || decide (20 < (opAt L k).rd ∧ (opAt L k).rd < 512) || decide (s < (opAt L k).wd ∧ (opAt L k).wd ≤ 65536) || decide (s < (opAt L k).ht ∧ (opAt L k).ht ≤ 65536))
theorem bigB_step (s : Int) (L : List Opr) (k : Nat) : bigB s L (k + 1) = true ↔ bigB s L k = true ∨ BigO s (opAt L k) := by
  show (bigB s L k || _) = true ↔ _
  unfold BigO
  simp only [Bool.or_eq_true, decide_eq_true_eq, or_assoc]
theorem bigB_stays {s : Int} {L : List Opr} {k : Nat} (h : bigB s L k = true) {n : Nat} (hk : k ≤ n) : bigB s L n = true := by
  induction n with
  | zero => rw [← Nat.le_zero.1 hk]; exact h
  | succ n ih =>
    rcases Nat.lt_or_ge n k with q | q
    · rw [show n + 1 = k by omega]; exact h
    · exact (bigB_step s L n).2 (.inl (ih q))
theorem bigB_no {s : Int} {L : List Opr} {n : Nat} (h : bigB s L n = false) {k : Nat} (hk : k < n) : ¬ BigO s (opAt L k) := by
  intro q
  have := bigB_stays ((bigB_step s L k).2 (.inr q)) hk
  rw [h] at this
  cases this
theorem infoOpR : (Tryz.prog.info? 48).map (fun i => (i.zero, i.size, i.bytes)) = some (some (.agg #[.int .i64 0, .int .i64 0, .int .i64 0, .int .i64 0, .slice none 0 0, .slice none 0 0, .int .i64 0, .int .i64 0, .int .i64 0]), 9, 104) := by kernel_rfl
/-- The cells of an operation. -/
def opCells (o : Opr) (ax : Option Addr) (cx : Nat) (ay : Option Addr) (cy : Nat) : List Value :=
  [.int .i64 o.kd, .int .i64 o.bd, .int .i64 o.sg, .int .i64 o.rd, .slice ax o.xs.length cx, .slice ay o.ys.length cy, .int .i64 o.fl, .int .i64 o.wd, .int .i64 o.ht]
theorem opCells_one (o : Opr) (ax : Option Addr) (cx : Nat) (ay : Option Addr) (cy : Nat) : ∀ u ∈ opCells o ax cx ay cy, u.oneCell' = true := by
  intro u hu
  unfold opCells at hu
  simp only [List.mem_cons, List.not_mem_nil, or_false] at hu
  rcases hu with rfl | rfl | rfl | rfl | rfl | rfl | rfl | rfl | rfl <;> rfl
/-- Operations so far, in a row of the call's own. -/
def RefsSo (T : TypeId) (B : Nat) (w0 w : World) (L : List Opr) (k : Nat) (v : Value) : Prop :=
  ∃ us, us.length = k ∧ OwnRec T 9 w B v us ∧ ∀ j, j < k → ∃ ax cx ay cy, us.getD j [] = opCells (opAt L j) ax cx ay cy ∧ OpAt w0 (opAt L j) ax cx ay cy
theorem RefsSo.ops {T : TypeId} {B : Nat} {w0 w : World} {L : List Opr} {k : Nat} {v : Value} (h : RefsSo T B w0 w L k v) (hk : L.length = k) (hb : Below w0.heap.size w0 w) : ∃ ad cap, v = .slice ad k cap ∧ OpsAt w ad L ∧ (ad = none → cap = 0) := by
  obtain ⟨us, hu, ho, hc⟩ := h
  by_cases e : us = []
  · subst e
    obtain ⟨ad, cap, rfl, _, z⟩ := ho.form rfl
    have hk0 : k = 0 := by simpa using hu.symm
    subst hk0
    exact ⟨ad, cap, rfl, .inl (List.eq_nil_of_length_eq_zero hk), z⟩
  · obtain ⟨g, cap, rfl, _, _, _, hr⟩ := ho.read e
    rw [hu]
    refine ⟨_, cap, rfl, .inr ⟨g, 0, rfl, fun j hj => ?_⟩, fun e => by cases e⟩
    obtain ⟨ax, cx, ay, cy, hcell, ha⟩ := hc j (by omega)
    have R := hr j (by omega)
    unfold recAt at R
    rw [hcell] at R
    rw [Nat.zero_add]
    exact ⟨R 0 (by decide), R 1 (by decide), R 2 (by decide), R 3 (by decide), R 6 (by decide), R 7 (by decide), R 8 (by decide), ax, cx, ay, cy, R 4 (by decide), R 5 (by decide), ha.below hb⟩
theorem RefsSo.more {T : TypeId} {B : Nat} {w0 w2 : World} {L : List Opr} {k : Nat} {us : List (List Value)} {v' : Value} {ax ay : Option Addr} {cx cy : Nat} (hu : us.length = k) (h9 : ∀ x ∈ us, x.length = 9)
    (hc : ∀ j, j < k → ∃ ax cx ay cy, us.getD j [] = opCells (opAt L j) ax cx ay cy ∧ OpAt w0 (opAt L j) ax cx ay cy) (ha : OpAt w0 (opAt L k) ax cx ay cy) (own : w2.ownsRow B T 9 v' (k + 1) (us.flatten ++ opCells (opAt L k) ax cx ay cy)) : RefsSo T B w0 w2 L (k + 1) v' := by
  refine ⟨us ++ [opCells (opAt L k) ax cx ay cy], by rw [List.length_append, hu]; rfl, OwnRec.more h9 rfl (by rw [hu]) own, fun j hj => ?_⟩
  by_cases e : j = k
  · subst e
    refine ⟨ax, cx, ay, cy, ?_, ha⟩
    rw [← hu, List.getD_eq_getElem?_getD, List.getElem?_append_right (Nat.le_refl _), Nat.sub_self]
    rfl
  · obtain ⟨a, b, c, d, h1, h2⟩ := hc j (by omega)
    refine ⟨a, b, c, d, ?_, h2⟩
    rw [List.getD_eq_getElem?_getD, List.getElem?_append_left (by omega), ← List.getD_eq_getElem?_getD]
    exact h1
set_option maxHeartbeats 4000000 in
set_option maxRecDepth 100000 in
theorem refs12_any (L : List Opr) (n : Nat) (hn : L.length = n) (h1 : n ≤ 1000) (ad : Option Addr) (cap : Nat) (w : World) (hr : OpsAt w ad L) :
    Calls Tryz.prog 20 #[.slice ad n cap] w fun e w' => ∃ ad' cap', e = .returned (.slice ad' n cap') ∧ OpsAt w' ad' L ∧ (ad' = none → cap' = 0) ∧ Below w.heap.size w w' := by
  have HR := hide hr
  have HN := hide hn
  obtain ⟨i0, hi, hz0, hz1, hz2⟩ := info_parts infoOpR
  clear hr hn
  go_enter Tryz.func20, Tryz.ntmps20
  go_wp2
  go_loopw [3, 8] (fun v i wr => ∃ k : Nat, k ≤ n ∧ i = .int .i64 (k : Int) ∧ RefsSo 48 w.heap.size w wr L k v ∧ Below w.heap.size w wr) (fun _ i _ => n - (intOf i).toNat)
  case atStart => exact ⟨0, by omega, rfl, ⟨[], rfl, OwnRec.nil _ _ _ _, fun j hj => absurd hj (Nat.not_lt_zero _)⟩, Below.refl _ _⟩
  case round =>
    obtain ⟨k, hk, rfl, hs, hb⟩ := hrel
    have HB := hide hb
    have HS := hide hs
    by_cases hlt : k < n
    · obtain ⟨us, hu, ⟨ho, h9⟩, hc⟩ := hs
      have HO := hide ho
      have HMO := hide (fun (w2 : World) (v' : Value) (ax ay : Option Addr) (cx cy : Nat) (ha : OpAt w (opAt L k) ax cx ay cy) (own : w2.ownsRow w.heap.size 48 9 v' (k + 1) (us.flatten ++ opCells (opAt L k) ax cx ay cy)) => RefsSo.more hu h9 hc ha own)
      have HU := hide hu
      obtain ⟨b, off, rfl, h⟩ := HR.out.get (show k < L.length by rw [HN.out]; exact hlt)
      obtain ⟨g0, g1, g2, g3, g6, g7, g8, ax, cx, ay, cy, g4, g5, ga⟩ := h
      have h0 := cb hb (cell_ltL g0) g0
      have h1 := cb hb (cell_ltL g0) g1
      have h2 := cb hb (cell_ltL g0) g2
      have h3 := cb hb (cell_ltL g0) g3
      have h4 := cb hb (cell_ltL g0) g4
      have h5 := cb hb (cell_ltL g0) g5
      have h6 := cb hb (cell_ltL g0) g6
      have h7 := cb hb (cell_ltL g0) g7
      have h8 := cb hb (cell_ltL g0) g8
      have HGA := hide ga
      have CR := fun w' => ref12_any (opAt L k) ax cx ay cy w'
      unfold opV at CR
      have ONE := opCells_one (opAt L k) ax cx ay cy
      have s0 := hb.size
      clear ho h9 hc hu hb g0 g1 g2 g3 g4 g5 g6 g7 g8 ga HS
      unfold opCells at HMO ONE
      have HONE := hide ONE
      clear ONE
      generalize (opAt L k).kd = kd at *
      generalize (opAt L k).bd = bd at *
      generalize (opAt L k).sg = sg at *
      generalize (opAt L k).rd = rd at *
      generalize (opAt L k).xs.length = nx at *
      generalize (opAt L k).ys.length = ny at *
      generalize (opAt L k).fl = fl at *
      generalize (opAt L k).wd = wd at *
      generalize (opAt L k).ht = ht at *
      go_wp2_with (first
        | (go_at_call 14; (with_reducible refine (CR _).mono ?_); rintro e w3 ⟨rfl, b3⟩; have s3 := b3.size; simp at s3)
        | (at_builtin; refine wpList_append_own _ rfl _ _ 61 rfl w.heap.size 48 i0 (.agg #[.int .i64 0, .int .i64 0, .int .i64 0, .int .i64 0, .slice none 0 0, .slice none 0 0, .int .i64 0, .int .i64 0, .int .i64 0]) 9 104 Tryz.underlying61 hi hz0 hz1 hz2 rfl (by decide) _ _ _ rfl (World.ownsRow.alloc (recs_below (recs_below HO.out (below1 _ _)) b3) _) ⟨w3.heap.size, 0, none⟩ 1 1 [.int .i64 kd, .int .i64 bd, .int .i64 sg, .int .i64 rd, .slice ax nx cx, .slice ay ny cy, .int .i64 fl, .int .i64 wd, .int .i64 ht] rfl rfl (new_list _ _ _) HONE.out (by rw [HU.out]; unfold maxLen; omega) (by rw [HU.out]; omega) (by simp; omega) ?_; intro v' w4 own4 grow4 _; rw [HU.out] at own4))
      have B4 : Below w.heap.size w w4 := (ba (bt (ba HB.out _) b3) _).grown grow4 (by simp; omega) (fun g hg => (World.ownsRow.lt HO.out g hg).1)
      have M4 := hide (HMO.out _ _ _ _ _ _ HGA.out own4)
      have HB4 := hide B4
      clear own4 grow4 B4
      go_wp2
      go_roundw
      case rel => exact ⟨k + 1, by omega, by go_num, M4.out, HB4.out⟩
      case measure => simp [intOf]; omega
    · obtain rfl : k = n := by omega
      obtain ⟨ad', cap', rfl, ho, hz⟩ := hs.ops HN.out hb
      have HA := hide (And.intro ho (And.intro hz hb))
      clear hs hb ho hz HS
      go_wp2
      go_ret
      exact ⟨_, _, rfl, HA.out.1, HA.out.2.1, HA.out.2.2⟩
end Go.Proofs.YtclgghhpiljgfaaGreatDoor
