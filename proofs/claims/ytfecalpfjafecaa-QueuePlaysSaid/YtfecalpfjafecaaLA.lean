/- Slices of numbers in memory: what a slice reads as, and slices that the call itself made. No number of the program stands in it. -/
import Derived.Test.YtfecalpfjafecaaD
import Derived.WalkKit
import Derived.OwnWalk
import Derived.Laws.OwnMore
import Derived.ArgAppend
import Derived.Laws.AppendOwnNone
import Derived.Deep.QuietTactic
namespace Go.Proofs.Ytfecalpfjafecaa
open Go.RowKit


theorem cell_ltL {w : World} {b o : Nat} {v : Value} (h : w.cell? ⟨b, o, none⟩ = some v) : b < w.heap.size := by
  by_cases g : b < w.heap.size
  · exact g
  · have e : w.heap[b]? = none := Array.getElem?_eq_none (by omega)
    simp [World.cell?, e] at h
/-- The slice at an address reads as these numbers of a kind. -/
def RowAt (k : IntKind) (w : World) (ad : Option Addr) (xs : List Int) : Prop :=
  xs = [] ∨ ∃ b off, ad = some ⟨b, off, none⟩ ∧ ∀ j, j < xs.length → w.cell? ⟨b, off + j, none⟩ = some (.int k (xs.getD j 0))
theorem RowAt.get {k : IntKind} {w : World} {ad : Option Addr} {xs : List Int} (h : RowAt k w ad xs) {j : Nat} (hj : j < xs.length) :
    ∃ b off, ad = some ⟨b, off, none⟩ ∧ w.cell? ⟨b, off + j, none⟩ = some (.int k (xs.getD j 0)) := by
  rcases h with rfl | ⟨b, off, h1, h2⟩
  · exact absurd hj (Nat.not_lt_zero _)
  · exact ⟨b, off, h1, h2 j hj⟩
theorem RowAt.at {k : IntKind} {w : World} {b off : Nat} {xs : List Int} (h : RowAt k w (some ⟨b, off, none⟩) xs) {j : Nat} (hj : j < xs.length) : w.cell? ⟨b, off + j, none⟩ = some (.int k (xs.getD j 0)) := by
  obtain ⟨b', off', e, c⟩ := h.get hj
  simp only [Option.some.injEq, Addr.mk.injEq, and_true] at e
  obtain ⟨rfl, rfl⟩ := e
  exact c
theorem RowAt.nil (k : IntKind) (w : World) (ad : Option Addr) : RowAt k w ad [] := Or.inl rfl
theorem RowAt.below {k : IntKind} {w w' : World} {ad : Option Addr} {xs : List Int} (h : RowAt k w ad xs) (hb : Below w.heap.size w w') : RowAt k w' ad xs := by
  rcases h with h | ⟨b, off, h1, h2⟩
  · exact Or.inl h
  · exact Or.inr ⟨b, off, h1, fun j hj => cb hb (cell_ltL (h2 j hj)) (h2 j hj)⟩
/-- A slice that the call itself made: it owns these numbers. -/
def OwnI (k : IntKind) (T : TypeId) (w : World) (base : Nat) (v : Value) (xs : List Int) : Prop := w.ownsRow base T 1 v xs.length (xs.map (Value.int k))
theorem OwnI.nil (k : IntKind) (T : TypeId) (w : World) (base : Nat) : OwnI k T w base (.slice none 0 0) [] := World.ownsRow_nil _ _ _ _
theorem OwnI.below {k : IntKind} {T : TypeId} {w w' : World} {base : Nat} {v : Value} {xs : List Int} (h : OwnI k T w base v xs) (hb : Below w.heap.size w w') : OwnI k T w' base v xs := by
  refine ⟨h.1, ?_⟩
  rcases h.2 with h2 | ⟨g, cap, cur, hv, hB, hg, r⟩
  · exact .inl h2
  · refine .inr ⟨g, cap, cur, hv, hB, ?_, r⟩
    have hlt : g < w.heap.size := by
      rcases Nat.lt_or_ge g w.heap.size with hlt | hge
      · exact hlt
      · rw [Array.getElem?_eq_none hge] at hg; cases hg
    rw [hb.block g hlt]; exact hg
/-- Its form: nothing, or the head of a block. -/
theorem OwnI.form {k : IntKind} {T : TypeId} {w : World} {base : Nat} {v : Value} {xs : List Int} (h : OwnI k T w base v xs) :
    ∃ ad cap, v = .slice ad xs.length cap ∧ RowAt k w ad xs ∧ (ad = none → xs = [] ∧ cap = 0) ∧ (∀ a, ad = some a → ∃ g, a = ⟨g, 0, none⟩ ∧ base ≤ g ∧ g < w.heap.size) ∧ xs.length ≤ cap := by
  rcases h.2 with ⟨hv, h0⟩ | ⟨g, cap, cur, hv, hB, hg, hn, _, _, ht⟩
  · have e : xs = [] := List.eq_nil_of_length_eq_zero h0
    subst e
    exact ⟨none, 0, hv, Or.inl rfl, fun _ => ⟨rfl, rfl⟩, fun a ha => (by cases ha), Nat.le_refl _⟩
  · have hlt : g < w.heap.size := by
      rcases Nat.lt_or_ge g w.heap.size with hlt | hge
      · exact hlt
      · rw [Array.getElem?_eq_none hge] at hg; cases hg
    refine ⟨some ⟨g, 0, none⟩, cap, hv, Or.inr ⟨g, 0, rfl, fun j hj => ?_⟩, fun ha => (by cases ha), fun a ha => ⟨g, (Option.some.inj ha).symm, hB, hlt⟩, hn⟩
    subst hv
    have c := World.ownsRow.cellAt h j (by omega)
    rw [Nat.zero_add, c, List.getElem?_map, List.getD_eq_getElem?_getD, List.getElem?_eq_getElem hj]
    rfl
theorem OwnI.append {k : IntKind} {T : TypeId} {w : World} {base : Nat} {v : Value} {xs : List Int} {x : Int} (h : w.ownsRow base T 1 v (xs.length + 1) (xs.map (Value.int k) ++ [Value.int k x])) : OwnI k T w base v (xs ++ [x]) := by
  unfold OwnI
  rw [List.length_append, List.map_append]
  exact h
/-- One number written over. -/
theorem OwnI.stored {k : IntKind} {T : TypeId} {w : World} {base g n cap : Nat} {xs : List Int} (h : OwnI k T w base (.slice (some ⟨g, 0, none⟩) n cap) xs) (hn : xs.length = n) (j : Nat) (x : Int) :
    OwnI k T (w.setCell ⟨g, j, none⟩ (.int k x)) base (.slice (some ⟨g, 0, none⟩) n cap) (xs.set j x) := by
  subst hn
  have := (World.ownsRow.stored h j (.int k x)).1
  unfold OwnI
  rw [List.length_set, List.map_set]
  exact this
theorem OwnI.frozenAt {k : IntKind} {T : TypeId} {w : World} {base g n cap : Nat} {xs : List Int} (h : OwnI k T w base (.slice (some ⟨g, 0, none⟩) n cap) xs) (hn : xs.length = n) (j : Nat) : w.frozen? ⟨g, j, none⟩ = false := by
  subst hn; exact World.ownsRow.frozenAt h j
theorem OwnI.cellAt {k : IntKind} {T : TypeId} {w : World} {base g n cap : Nat} {xs : List Int} (h : OwnI k T w base (.slice (some ⟨g, 0, none⟩) n cap) xs) (hn : xs.length = n) {j : Nat} (hj : j < n) : w.cell? ⟨g, j, none⟩ = some (.int k (xs.getD j 0)) := by
  subst hn
  rw [World.ownsRow.cellAt h j (by omega), List.getElem?_map, List.getD_eq_getElem?_getD, List.getElem?_eq_getElem hj]
  rfl
/-- Memory that a write to another block doesn't touch. -/
theorem OwnI.other {k : IntKind} {T : TypeId} {w : World} {base g : Nat} {n cap : Nat} {xs : List Int} {u : Value} (h : OwnI k T w base (.slice (some ⟨g, 0, none⟩) n cap) xs) (b o : Nat) (hne : b ≠ g) : OwnI k T (w.setCell ⟨b, o, none⟩ u) base (.slice (some ⟨g, 0, none⟩) n cap) xs := by
  refine ⟨h.1, ?_⟩
  rcases h.2 with h2 | ⟨g', cap', cur, hv, hB, hg, r⟩
  · exact .inl h2
  · refine .inr ⟨g', cap', cur, hv, hB, ?_, r⟩
    simp only [Value.slice.injEq, Option.some.injEq, Addr.mk.injEq, and_true] at hv
    obtain ⟨⟨rfl, _⟩, _⟩ := hv
    rw [heap_setCell_other w ⟨b, o, none⟩ g u (fun e => hne e.symm)]
    exact hg
theorem OwnI.mono {k : IntKind} {T : TypeId} {w : World} {base base' : Nat} {v : Value} {xs : List Int} (h : OwnI k T w base v xs) (hb : base' ≤ base) : OwnI k T w base' v xs := by
  refine ⟨h.1, ?_⟩
  rcases h.2 with h2 | ⟨g, cap, cur, hv, hB, r⟩
  · exact .inl h2
  · exact .inr ⟨g, cap, cur, hv, by omega, r⟩
theorem take_step (xs : List Int) {j : Nat} (h : j < xs.length) : xs.take (j + 1) = xs.take j ++ [xs.getD j 0] := by
  rw [List.take_succ_eq_append_getElem h, List.getD_eq_getElem?_getD, List.getElem?_eq_getElem h]; rfl
theorem bdN {a w : World} (h : Below a.heap.size a w) (n : Nat) : Below a.heap.size a (w.drewN n) := h.trans ⟨rfl, rfl, rfl, Nat.le_refl _, fun _ _ => rfl⟩
theorem own_fresh {w : World} {B : Nat} {e : TypeId} {size : Nat} {v : Value} {n : Nat} {xs : List Value} (h : w.ownsRow B e size v n xs) : ∀ g, v.ownBlock = some g → B ≤ g := fun g hg => (h.lt g hg).1
theorem own_mono {w : World} {B B' : Nat} {e : TypeId} {size : Nat} {v : Value} {n : Nat} {xs : List Value} (h : w.ownsRow B e size v n xs) (hb : B' ≤ B) : w.ownsRow B' e size v n xs := by
  refine ⟨h.1, ?_⟩
  rcases h.2 with h2 | ⟨g, cap, cur, hv, hB, r⟩
  · exact .inl h2
  · exact .inr ⟨g, cap, cur, hv, by omega, r⟩
theorem grown_none {w w' : World} {row : Option Nat} (h : w.grownBy w' none) : w.grownBy w' row := ⟨h.os, h.tape, h.output, h.size, fun k hk _ => h.block k hk (by simp)⟩
/-- 'append', where it is told that the row stays in its block or goes to a new one. -/
theorem wpList_append_apart {P : Program} (w : World) {ops : Array Oper} {rest : List Oper} {o : Oper} {a : Act} {Q : Exit → Act → World → Prop}
    (hg : o.guard = none) (s x : Operand) (t : TypeId) (hop : o.op = Op.call { callee := Callee.builtin Builtin.append, args := #[s, x], argTypes := #[t, t] })
    (base : Nat) (e : TypeId) (i : TypeInfo) (z : Value) (size bytes : Nat) (h1 : P.underlying t = some (.slice e)) (h2 : P.info? e = some i) (h3 : i.zero = some z) (h4 : i.size = size) (h5 : i.bytes = bytes) (h6 : z.cells.size = size) (h7 : 0 < size)
    (v : Value) (n : Nat) (xs : List Value) (hs : a.eval s = v) (hown : w.ownsRow base e size v n xs)
    (ad : Addr) (m c : Nat) (news : List Value) (hx : a.eval x = .slice (some ad) m c) (hn : news.length = m * size) (hc : ∀ j u, news[j]? = some u → w.cell? (ad.add j) = some u) (h1c : ∀ u ∈ news, u.oneCell' = true)
    (b1 : n + m ≤ maxLen) (b2 : (n + m) * bytes ≤ 140737488355328) (b3 : base ≤ w.heap.size)
    (hK : ∀ v' w', w'.ownsRow base e size v' (n + m) (xs ++ news) → w.grownBy w' v.ownBlock → (v'.ownBlock = v.ownBlock ∨ ∀ g, v'.ownBlock = some g → w.heap.size ≤ g) → wpList P ops Q rest (a.put o.dst v') w') :
    wpList P ops Q (o :: rest) a w := by
  have hown2 := hown
  rcases hown.2 with ⟨rfl, h0⟩ | ⟨g, cap, cur, rfl, hB, hg2, hnc, hcm, hcs, htake⟩
  · refine wpList_append_own w hg s x t hop w.heap.size e i z size bytes h1 h2 h3 h4 h5 h6 h7 (.slice none 0 0) n xs hs ⟨hown.1, .inl ⟨rfl, h0⟩⟩ ad m c news hx hn hc h1c b1 b2 (Nat.le_refl _) ?_
    intro v' w' r1 r2 _
    exact hK v' w' (own_mono r1 b3) r2 (Or.inr (own_fresh r1))
  · by_cases hr : n + m ≤ cap
    · refine wpList_append_fits w hg s x t hop base e i size h1 h2 h4 g n cap xs hs hown ad m c news hx hn hc h1c hr ?_
      intro w' r1 r2
      exact hK _ w' r1 r2 (Or.inl rfl)
    · refine wpList_append_grows w hg s x t hop e i z size bytes h1 h2 h3 h4 h5 h6 h7 (some ⟨g, 0, none⟩) n cap xs hs (fun h => by cases h) hown.1 ?_ ad m c news hx hn hc h1c (by omega) b1 b2 ?_
      · intro b hb j u hj
        obtain rfl := Option.some.inj hb
        exact hown2.cells (g := g) rfl j u hj
      · intro v' w' r1 r2
        exact hK v' w' (own_mono r1 b3) (grown_none r2) (Or.inr (own_fresh r1))
/-- Two slices in blocks of their own. -/
def Apart (v u : Value) : Prop := ∀ g, v.ownBlock = some g → u.ownBlock ≠ some g
theorem Apart.symm {v u : Value} (h : Apart v u) : Apart u v := fun g hg hv => h g hv hg
theorem Apart.nil (u : Value) : Apart (.slice none 0 0) u := fun g hg => by cases hg
theorem Apart.grown {v u v' : Value} {n : Nat} (h : Apart v u) (hu : ∀ g, u.ownBlock = some g → g < n) (hv : v'.ownBlock = v.ownBlock ∨ ∀ g, v'.ownBlock = some g → n ≤ g) : Apart v' u := by
  intro g hg he
  rcases hv with hv | hv
  · exact h g (hv ▸ hg) he
  · have := hv g hg
    have := hu g he
    omega
theorem OwnI.lt {k : IntKind} {T : TypeId} {w : World} {base : Nat} {v : Value} {xs : List Int} (h : OwnI k T w base v xs) : ∀ g, v.ownBlock = some g → g < w.heap.size := fun g hg => (World.ownsRow.lt h g hg).2
theorem OwnI.kept {k : IntKind} {T : TypeId} {w w' : World} {base : Nat} {v u : Value} {xs : List Int} (h : OwnI k T w base v xs) (hg : w.grownBy w' u.ownBlock) (ha : Apart v u) : OwnI k T w' base v xs := by
  refine World.ownsRow.kept h hg ?_
  rcases hv : v.ownBlock with _ | g
  · exact Or.inl rfl
  · exact Or.inr (fun e => ha g hv e.symm)
theorem OwnI.alloc {k : IntKind} {T : TypeId} {w : World} {base : Nat} {v : Value} {xs : List Int} (h : OwnI k T w base v xs) (o : Obj) : OwnI k T (w.alloc o) base v xs := World.ownsRow.alloc h o
theorem new_one (w : World) (u : Value) (t : TypeId) : ∀ j x, [u][j]? = some x → (w.alloc (.cells #[u] t)).cell? ((⟨w.heap.size, 0, none⟩ : Addr).add j) = some x := by
  intro j x h
  match j, h with
  | 0, h => simp at h; subst h; simp [Addr.add]
theorem addr_add (b off j : Nat) : ((⟨b, off, none⟩ : Addr).add j) = ⟨b, off + j, none⟩ := by
  unfold Addr.add
  by_cases hj : j = 0
  · subst hj; rfl
  · simp [hj]
theorem grown_refl (w : World) (row : Option Nat) : w.grownBy w row := ⟨rfl, rfl, rfl, Nat.le_refl _, fun _ _ _ => rfl⟩
/-- 'append(v, l...)', l whatever slice of numbers. -/
theorem wpList_append_row {P : Program} (k : IntKind) (w : World) {ops : Array Oper} {rest : List Oper} {o : Oper} {a : Act} {Q : Exit → Act → World → Prop}
    (hg : o.guard = none) (s x : Operand) (t : TypeId) (hop : o.op = Op.call { callee := Callee.builtin Builtin.append, args := #[s, x], argTypes := #[t, t] })
    (base : Nat) (e : TypeId) (i : TypeInfo) (z : Value) (bytes : Nat) (h1 : P.underlying t = some (.slice e)) (h2 : P.info? e = some i) (h3 : i.zero = some z) (h4 : i.size = 1) (h5 : i.bytes = bytes) (h6 : z.cells.size = 1)
    (v : Value) (ys : List Int) (hs : a.eval s = v) (hown : OwnI k e w base v ys)
    (ad : Option Addr) (n cap : Nat) (xs : List Int) (hx : a.eval x = .slice ad n cap) (hn : xs.length = n) (hr : RowAt k w ad xs) (hz : ad = none → cap = 0)
    (b1 : ys.length + n ≤ maxLen) (b2 : (ys.length + n) * bytes ≤ 140737488355328) (b3 : base ≤ w.heap.size)
    (hK : ∀ v' w', OwnI k e w' base v' (ys ++ xs) → w.grownBy w' v.ownBlock → (v'.ownBlock = v.ownBlock ∨ ∀ g, v'.ownBlock = some g → w.heap.size ≤ g) → wpList P ops Q rest (a.put o.dst v') w') :
    wpList P ops Q (o :: rest) a w := by
  subst hn
  rcases ad with _ | ad
  · have e0 : xs = [] := by
      rcases hr with h | ⟨b, off, h, _⟩
      · exact h
      · cases h
    subst e0
    have hz' := hz rfl
    subst hz'
    refine wpList_append_own_none hg s x t hop base e i 1 h1 h2 v ys.length (ys.map (Value.int k)) hs hown hx ?_
    exact hK v w (by rw [List.append_nil]; exact hown) (grown_refl _ _) (Or.inl rfl)
  · have hc : ∀ j u, (xs.map (Value.int k))[j]? = some u → w.cell? (ad.add j) = some u := by
      intro j u hj
      rw [List.getElem?_map] at hj
      have hlt : j < xs.length := by
        by_cases g : j < xs.length
        · exact g
        · rw [List.getElem?_eq_none (by omega)] at hj; cases hj
      obtain ⟨b, off, e, c⟩ := hr.get hlt
      obtain rfl := Option.some.inj e
      rw [addr_add, c, ← hj, List.getD_eq_getElem?_getD, List.getElem?_eq_getElem hlt]
      rfl
    refine wpList_append_apart w hg s x t hop base e i z 1 bytes h1 h2 h3 h4 h5 h6 (by decide) v ys.length (ys.map (Value.int k)) hs hown ad xs.length cap (xs.map (Value.int k)) hx (by rw [List.length_map, Nat.mul_one]) hc ?_ b1 b2 b3 ?_
    · intro u hu
      obtain ⟨y, _, rfl⟩ := List.mem_map.1 hu
      rfl
    · intro v' w' r1 r2 r3
      refine hK v' w' ?_ r2 r3
      unfold OwnI
      rw [List.length_append, List.map_append]
      exact r1
/-- An empty literal. -/
theorem own_lit0 (k : IntKind) (T : TypeId) (w : World) (base : Nat) (hb : base ≤ w.heap.size) : OwnI k T (w.alloc (.cells #[] T)) base (.slice (some ⟨w.heap.size, 0, none⟩) 0 0) [] :=
  World.ownsRow_lit w #[] 0 hb (by unfold maxLen; omega) (by simp)
theorem OwnI.formn {k : IntKind} {T : TypeId} {w : World} {base n : Nat} {v : Value} {xs : List Int} (h : OwnI k T w base v xs) (hn : xs.length = n) :
    ∃ ad cap, v = .slice ad n cap ∧ RowAt k w ad xs ∧ (ad = none → cap = 0) := by
  subst hn
  obtain ⟨ad, cap, h1, h2, h3, _⟩ := h.form
  exact ⟨ad, cap, h1, h2, fun e => (h3 e).2⟩
theorem grown_lit {w w1 w2 : World} {T : TypeId} (hb : Below w.heap.size w w1) (hg : (w1.alloc (.cells #[] T)).grownBy w2 (Value.slice (some ⟨w1.heap.size, 0, none⟩) 0 0).ownBlock) : Below w.heap.size w w2 := by
  have hs := hb.size
  refine (ba hb _).grown hg (by simp; omega) (fun g h => ?_)
  have e : w1.heap.size = g := Option.some.inj h
  omega
end Go.Proofs.Ytfecalpfjafecaa
