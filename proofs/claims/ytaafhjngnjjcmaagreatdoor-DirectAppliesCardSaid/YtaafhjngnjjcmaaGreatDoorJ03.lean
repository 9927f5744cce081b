/- Parts, joined. -/
import Derived.Test.YtaafhjngnjjcmaaGreatDoorJ02
import Derived.Test.YtaafhjngnjjcmaaGreatDoorJ01
import Derived.WalkKit
import Derived.OwnWalk
import Derived.Laws.OwnMore
import Derived.ArgAppend
import Derived.Laws.AppendOwnNone
import Derived.Deep.QuietTactic
import Derived.IntWalk
import Derived.BigQuiet
/- Slices of numbers in memory: what a slice reads as, and slices that the call itself made. No number of the program stands in it. -/
namespace Go.Proofs.YtaafhjngnjjcmaaGreatDoor
open Go.RowKit


theorem cell_ltL {w : World} {b o : Nat} {v : Value} (h : w.cell? ⟨b, o, none⟩ = some v) : b < w.heap.size := by
  by_cases g : b < w.heap.size
  · exact g
  · have e : w.heap[b]? = none := Array.getElem?_eq_none (by omega)
    simp [World.cell?, e] at h
/-- The slice at an address reads as these numbers of a kind. -/
def RowAt (k : IntKind) (w : World) (ad : Option Addr) (xs : List Int) : Prop :=
  xs = [] ∨ ∃ b off, ad = some ⟨b, off, none⟩ ∧ ∀ j, j < xs.length → w.cell? ⟨b, off + j, none⟩ = some (.int k (xs.getD j 0))
theorem RowAt.get {k : IntKind} {w : World} {ad : Option Addr} {xs : List Int} (h : RowAt k w ad xs) {j : Nat} (hj : j < xs.length) :
    ∃ b off, ad = some ⟨b, off, none⟩ ∧ w.cell? ⟨b, off + j, none⟩ = some (.int k (xs.getD j 0)) := by
  rcases h with rfl | ⟨b, off, h1, h2⟩
  · exact absurd hj (Nat.not_lt_zero _)
  · exact ⟨b, off, h1, h2 j hj⟩
theorem RowAt.at {k : IntKind} {w : World} {b off : Nat} {xs : List Int} (h : RowAt k w (some ⟨b, off, none⟩) xs) {j : Nat} (hj : j < xs.length) : w.cell? ⟨b, off + j, none⟩ = some (.int k (xs.getD j 0)) := by
  obtain ⟨b', off', e, c⟩ := h.get hj
  simp only [Option.some.injEq, Addr.mk.injEq, and_true] at e
  obtain ⟨rfl, rfl⟩ := e
  exact c
theorem RowAt.nil (k : IntKind) (w : World) (ad : Option Addr) : RowAt k w ad [] := Or.inl rfl
theorem RowAt.below {k : IntKind} {w w' : World} {ad : Option Addr} {xs : List Int} (h : RowAt k w ad xs) (hb : Below w.heap.size w w') : RowAt k w' ad xs := by
  rcases h with h | ⟨b, off, h1, h2⟩
  · exact Or.inl h
  · exact Or.inr ⟨b, off, h1, fun j hj => cb hb (cell_ltL (h2 j hj)) (h2 j hj)⟩
/-- A slice that the call itself made: it owns these numbers. -/
def OwnI (k : IntKind) (T : TypeId) (w : World) (base : Nat) (v : Value) (xs : List Int) : Prop := w.ownsRow base T 1 v xs.length (xs.map (Value.int k))
theorem OwnI.nil (k : IntKind) (T : TypeId) (w : World) (base : Nat) : OwnI k T w base (.slice none 0 0) [] := World.ownsRow_nil _ _ _ _
theorem OwnI.below {k : IntKind} {T : TypeId} {w w' : World} {base : Nat} {v : Value} {xs : List Int} (h : OwnI k T w base v xs) (hb : Below w.heap.size w w') : OwnI k T w' base v xs := by
  refine ⟨h.1, ?_⟩
  rcases h.2 with h2 | ⟨g, cap, cur, hv, hB, hg, r⟩
  · exact .inl h2
  · refine .inr ⟨g, cap, cur, hv, hB, ?_, r⟩
    have hlt : g < w.heap.size := by
      rcases Nat.lt_or_ge g w.heap.size with hlt | hge
      · exact hlt
      · rw [Array.getElem?_eq_none hge] at hg; cases hg
    rw [hb.block g hlt]; exact hg
/-- Its form: nothing, or the head of a block. -/
theorem OwnI.form {k : IntKind} {T : TypeId} {w : World} {base : Nat} {v : Value} {xs : List Int} (h : OwnI k T w base v xs) :
    ∃ ad cap, v = .slice ad xs.length cap ∧ RowAt k w ad xs ∧ (ad = none → xs = [] ∧ cap = 0) ∧ (∀ a, ad = some a → ∃ g, a = ⟨g, 0, none⟩ ∧ base ≤ g ∧ g < w.heap.size) ∧ xs.length ≤ cap := by
  rcases h.2 with ⟨hv, h0⟩ | ⟨g, cap, cur, hv, hB, hg, hn, _, _, ht⟩
  · have e : xs = [] := List.eq_nil_of_length_eq_zero h0
    subst e
    exact ⟨none, 0, hv, Or.inl rfl, fun _ => ⟨rfl, rfl⟩, fun a ha => (by cases ha), Nat.le_refl _⟩
  · have hlt : g < w.heap.size := by
      rcases Nat.lt_or_ge g w.heap.size with hlt | hge
      · exact hlt
      · rw [Array.getElem?_eq_none hge] at hg; cases hg
    refine ⟨some ⟨g, 0, none⟩, cap, hv, Or.inr ⟨g, 0, rfl, fun j hj => ?_⟩, fun ha => (by cases ha), fun a ha => ⟨g, (Option.some.inj ha).symm, hB, hlt⟩, hn⟩
    subst hv
    have c := World.ownsRow.cellAt h j (by omega)
    rw [Nat.zero_add, c, List.getElem?_map, List.getD_eq_getElem?_getD, List.getElem?_eq_getElem hj]
    rfl
theorem OwnI.append {k : IntKind} {T : TypeId} {w : World} {base : Nat} {v : Value} {xs : List Int} {x : Int} (h : w.ownsRow base T 1 v (xs.length + 1) (xs.map (Value.int k) ++ [Value.int k x])) : OwnI k T w base v (xs ++ [x]) := by
  unfold OwnI
  rw [List.length_append, List.map_append]
  exact h
/-- One number written over. -/
theorem OwnI.stored {k : IntKind} {T : TypeId} {w : World} {base g n cap : Nat} {xs : List Int} (h : OwnI k T w base (.slice (some ⟨g, 0, none⟩) n cap) xs) (hn : xs.length = n) (j : Nat) (x : Int) :
    OwnI k T (w.setCell ⟨g, j, none⟩ (.int k x)) base (.slice (some ⟨g, 0, none⟩) n cap) (xs.set j x) := by
  subst hn
  have := (World.ownsRow.stored h j (.int k x)).1
  unfold OwnI
  rw [List.length_set, List.map_set]
  exact this
theorem OwnI.frozenAt {k : IntKind} {T : TypeId} {w : World} {base g n cap : Nat} {xs : List Int} (h : OwnI k T w base (.slice (some ⟨g, 0, none⟩) n cap) xs) (hn : xs.length = n) (j : Nat) : w.frozen? ⟨g, j, none⟩ = false := by
  subst hn; exact World.ownsRow.frozenAt h j
theorem OwnI.cellAt {k : IntKind} {T : TypeId} {w : World} {base g n cap : Nat} {xs : List Int} (h : OwnI k T w base (.slice (some ⟨g, 0, none⟩) n cap) xs) (hn : xs.length = n) {j : Nat} (hj : j < n) : w.cell? ⟨g, j, none⟩ = some (.int k (xs.getD j 0)) := by
  subst hn
  rw [World.ownsRow.cellAt h j (by omega), List.getElem?_map, List.getD_eq_getElem?_getD, List.getElem?_eq_getElem hj]
  rfl
/-- Memory that a write to another block doesn't touch. -/
theorem OwnI.other {k : IntKind} {T : TypeId} {w : World} {base g : Nat} {n cap : Nat} {xs : List Int} {u : Value} (h : OwnI k T w base (.slice (some ⟨g, 0, none⟩) n cap) xs) (b o : Nat) (hne : b ≠ g) : OwnI k T (w.setCell ⟨b, o, none⟩ u) base (.slice (some ⟨g, 0, none⟩) n cap) xs := by
  refine ⟨h.1, ?_⟩
  rcases h.2 with h2 | ⟨g', cap', cur, hv, hB, hg, r⟩
  · exact .inl h2
  · refine .inr ⟨g', cap', cur, hv, hB, ?_, r⟩
    simp only [Value.slice.injEq, Option.some.injEq, Addr.mk.injEq, and_true] at hv
    obtain ⟨⟨rfl, _⟩, _⟩ := hv
    rw [heap_setCell_other w ⟨b, o, none⟩ g u (fun e => hne e.symm)]
    exact hg
theorem OwnI.mono {k : IntKind} {T : TypeId} {w : World} {base base' : Nat} {v : Value} {xs : List Int} (h : OwnI k T w base v xs) (hb : base' ≤ base) : OwnI k T w base' v xs := by
  refine ⟨h.1, ?_⟩
  rcases h.2 with h2 | ⟨g, cap, cur, hv, hB, r⟩
  · exact .inl h2
  · exact .inr ⟨g, cap, cur, hv, by omega, r⟩
theorem take_step (xs : List Int) {j : Nat} (h : j < xs.length) : xs.take (j + 1) = xs.take j ++ [xs.getD j 0] := by
  rw [List.take_succ_eq_append_getElem h, List.getD_eq_getElem?_getD, List.getElem?_eq_getElem h]; rfl
/-- One number is appended. -/
theorem own_more {w0 wc w2 : World} {k : IntKind} {T : TypeId} {v v' : Value} {xs : List Int} {x : Int} {o : Obj} (hb : Below w0.heap.size w0 wc) (hown : OwnI k T wc w0.heap.size v xs)
    (hown' : w2.ownsRow w0.heap.size T 1 v' (xs.length + 1) (xs.map (Value.int k) ++ [Value.int k x])) (hgrow : (wc.alloc o).grownBy w2 v.ownBlock) :
    OwnI k T w2 w0.heap.size v' (xs ++ [x]) ∧ Below w0.heap.size w0 w2 := by
  have hs := hb.size
  exact ⟨OwnI.append hown', (hb.alloc (by omega) o).grown hgrow (by simp; omega) (fun j hj => (World.ownsRow.lt hown j hj).1)⟩
theorem bdN {a w : World} (h : Below a.heap.size a w) (n : Nat) : Below a.heap.size a (w.drewN n) := h.trans ⟨rfl, rfl, rfl, Nat.le_refl _, fun _ _ => rfl⟩
theorem own_fresh {w : World} {B : Nat} {e : TypeId} {size : Nat} {v : Value} {n : Nat} {xs : List Value} (h : w.ownsRow B e size v n xs) : ∀ g, v.ownBlock = some g → B ≤ g := fun g hg => (h.lt g hg).1
theorem own_mono {w : World} {B B' : Nat} {e : TypeId} {size : Nat} {v : Value} {n : Nat} {xs : List Value} (h : w.ownsRow B e size v n xs) (hb : B' ≤ B) : w.ownsRow B' e size v n xs := by
  refine ⟨h.1, ?_⟩
  rcases h.2 with h2 | ⟨g, cap, cur, hv, hB, r⟩
  · exact .inl h2
  · exact .inr ⟨g, cap, cur, hv, by omega, r⟩
theorem grown_none {w w' : World} {row : Option Nat} (h : w.grownBy w' none) : w.grownBy w' row := ⟨h.os, h.tape, h.output, h.size, fun k hk _ => h.block k hk (by simp)⟩
/-- 'append', where it is told that the row stays in its block or goes to a new one. -/
theorem wpList_append_apart {P : Program} (w : World) {ops : Array Oper} {rest : List Oper} {o : Oper} {a : Act} {Q : Exit → Act → World → Prop}
    (hg : o.guard = none) (s x : Operand) (t : TypeId) (hop : o.op = Op.call { callee := Callee.builtin Builtin.append, args := #[s, x], argTypes := #[t, t] })
    (base : Nat) (e : TypeId) (i : TypeInfo) (z : Value) (size bytes : Nat) (h1 : P.underlying t = some (.slice e)) (h2 : P.info? e = some i) (h3 : i.zero = some z) (h4 : i.size = size) (h5 : i.bytes = bytes) (h6 : z.cells.size = size) (h7 : 0 < size)
    (v : Value) (n : Nat) (xs : List Value) (hs : a.eval s = v) (hown : w.ownsRow base e size v n xs)
    (ad : Addr) (m c : Nat) (news : List Value) (hx : a.eval x = .slice (some ad) m c) (hn : news.length = m * size) (hc : ∀ j u, news[j]? = some u → w.cell? (ad.add j) = some u) (h1c : ∀ u ∈ news, u.oneCell' = true)
    (b1 : n + m ≤ maxLen) (b2 : (n + m) * bytes ≤ 140737488355328) (b3 : base ≤ w.heap.size)
    (hK : ∀ v' w', w'.ownsRow base e size v' (n + m) (xs ++ news) → w.grownBy w' v.ownBlock → (v'.ownBlock = v.ownBlock ∨ ∀ g, v'.ownBlock = some g → w.heap.size ≤ g) → wpList P ops Q rest (a.put o.dst v') w') :
    wpList P ops Q (o :: rest) a w := by
  have hown2 := hown
  rcases hown.2 with ⟨rfl, h0⟩ | ⟨g, cap, cur, rfl, hB, hg2, hnc, hcm, hcs, htake⟩
  · refine wpList_append_own w hg s x t hop w.heap.size e i z size bytes h1 h2 h3 h4 h5 h6 h7 (.slice none 0 0) n xs hs ⟨hown.1, .inl ⟨rfl, h0⟩⟩ ad m c news hx hn hc h1c b1 b2 (Nat.le_refl _) ?_
    intro v' w' r1 r2 _
    exact hK v' w' (own_mono r1 b3) r2 (Or.inr (own_fresh r1))
  · by_cases hr : n + m ≤ cap
    · refine wpList_append_fits w hg s x t hop base e i size h1 h2 h4 g n cap xs hs hown ad m c news hx hn hc h1c hr ?_
      intro w' r1 r2
      exact hK _ w' r1 r2 (Or.inl rfl)
    · refine wpList_append_grows w hg s x t hop e i z size bytes h1 h2 h3 h4 h5 h6 h7 (some ⟨g, 0, none⟩) n cap xs hs (fun h => by cases h) hown.1 ?_ ad m c news hx hn hc h1c (by omega) b1 b2 ?_
      · intro b hb j u hj
        obtain rfl := Option.some.inj hb
        exact hown2.cells (g := g) rfl j u hj
      · intro v' w' r1 r2
        exact hK v' w' (own_mono r1 b3) (grown_none r2) (Or.inr (own_fresh r1))
/-- Two slices in blocks of their own. -/
def Apart (v u : Value) : Prop := ∀ g, v.ownBlock = some g → u.ownBlock ≠ some g
theorem Apart.symm {v u : Value} (h : Apart v u) : Apart u v := fun g hg hv => h g hv hg
theorem Apart.nil (u : Value) : Apart (.slice none 0 0) u := fun g hg => by cases hg
theorem Apart.grown {v u v' : Value} {n : Nat} (h : Apart v u) (hu : ∀ g, u.ownBlock = some g → g < n) (hv : v'.ownBlock = v.ownBlock ∨ ∀ g, v'.ownBlock = some g → n ≤ g) : Apart v' u := by
  intro g hg he
  rcases hv with hv | hv
  · exact h g (hv ▸ hg) he
  · have := hv g hg
    have := hu g he
    omega
theorem OwnI.lt {k : IntKind} {T : TypeId} {w : World} {base : Nat} {v : Value} {xs : List Int} (h : OwnI k T w base v xs) : ∀ g, v.ownBlock = some g → g < w.heap.size := fun g hg => (World.ownsRow.lt h g hg).2
theorem OwnI.kept {k : IntKind} {T : TypeId} {w w' : World} {base : Nat} {v u : Value} {xs : List Int} (h : OwnI k T w base v xs) (hg : w.grownBy w' u.ownBlock) (ha : Apart v u) : OwnI k T w' base v xs := by
  refine World.ownsRow.kept h hg ?_
  rcases hv : v.ownBlock with _ | g
  · exact Or.inl rfl
  · exact Or.inr (fun e => ha g hv e.symm)
theorem OwnI.alloc {k : IntKind} {T : TypeId} {w : World} {base : Nat} {v : Value} {xs : List Int} (h : OwnI k T w base v xs) (o : Obj) : OwnI k T (w.alloc o) base v xs := World.ownsRow.alloc h o
theorem new_one (w : World) (u : Value) (t : TypeId) : ∀ j x, [u][j]? = some x → (w.alloc (.cells #[u] t)).cell? ((⟨w.heap.size, 0, none⟩ : Addr).add j) = some x := by
  intro j x h
  match j, h with
  | 0, h => simp at h; subst h; simp [Addr.add]
theorem one_int (k : IntKind) (x : Int) : ∀ u ∈ [Value.int k x], u.oneCell' = true := by
  intro u hu; simp at hu; subst hu; rfl
theorem addr_add (b off j : Nat) : ((⟨b, off, none⟩ : Addr).add j) = ⟨b, off + j, none⟩ := by
  unfold Addr.add
  by_cases hj : j = 0
  · subst hj; rfl
  · simp [hj]
theorem grown_refl (w : World) (row : Option Nat) : w.grownBy w row := ⟨rfl, rfl, rfl, Nat.le_refl _, fun _ _ _ => rfl⟩
/-- 'append(v, l...)', l whatever slice of numbers. -/
theorem wpList_append_row {P : Program} (k : IntKind) (w : World) {ops : Array Oper} {rest : List Oper} {o : Oper} {a : Act} {Q : Exit → Act → World → Prop}
    (hg : o.guard = none) (s x : Operand) (t : TypeId) (hop : o.op = Op.call { callee := Callee.builtin Builtin.append, args := #[s, x], argTypes := #[t, t] })
    (base : Nat) (e : TypeId) (i : TypeInfo) (z : Value) (bytes : Nat) (h1 : P.underlying t = some (.slice e)) (h2 : P.info? e = some i) (h3 : i.zero = some z) (h4 : i.size = 1) (h5 : i.bytes = bytes) (h6 : z.cells.size = 1)
    (v : Value) (ys : List Int) (hs : a.eval s = v) (hown : OwnI k e w base v ys)
    (ad : Option Addr) (n cap : Nat) (xs : List Int) (hx : a.eval x = .slice ad n cap) (hn : xs.length = n) (hr : RowAt k w ad xs) (hz : ad = none → cap = 0)
    (b1 : ys.length + n ≤ maxLen) (b2 : (ys.length + n) * bytes ≤ 140737488355328) (b3 : base ≤ w.heap.size)
    (hK : ∀ v' w', OwnI k e w' base v' (ys ++ xs) → w.grownBy w' v.ownBlock → (v'.ownBlock = v.ownBlock ∨ ∀ g, v'.ownBlock = some g → w.heap.size ≤ g) → wpList P ops Q rest (a.put o.dst v') w') :
    wpList P ops Q (o :: rest) a w := by
  subst hn
  rcases ad with _ | ad
  · have e0 : xs = [] := by
      rcases hr with h | ⟨b, off, h, _⟩
      · exact h
      · cases h
    subst e0
    have hz' := hz rfl
    subst hz'
    refine wpList_append_own_none hg s x t hop base e i 1 h1 h2 v ys.length (ys.map (Value.int k)) hs hown hx ?_
    exact hK v w (by rw [List.append_nil]; exact hown) (grown_refl _ _) (Or.inl rfl)
  · have hc : ∀ j u, (xs.map (Value.int k))[j]? = some u → w.cell? (ad.add j) = some u := by
      intro j u hj
      rw [List.getElem?_map] at hj
      have hlt : j < xs.length := by
        by_cases g : j < xs.length
        · exact g
        · rw [List.getElem?_eq_none (by omega)] at hj; cases hj
      obtain ⟨b, off, e, c⟩ := hr.get hlt
      obtain rfl := Option.some.inj e
      rw [addr_add, c, ← hj, List.getD_eq_getElem?_getD, List.getElem?_eq_getElem hlt]
      rfl
    refine wpList_append_apart w hg s x t hop base e i z 1 bytes h1 h2 h3 h4 h5 h6 (by decide) v ys.length (ys.map (Value.int k)) hs hown ad xs.length cap (xs.map (Value.int k)) hx (by rw [List.length_map, Nat.mul_one]) hc ?_ b1 b2 b3 ?_
    · intro u hu
      obtain ⟨y, _, rfl⟩ := List.mem_map.1 hu
      rfl
    · intro v' w' r1 r2 r3
      refine hK v' w' ?_ r2 r3
      unfold OwnI
      rw [List.length_append, List.map_append]
      exact r1
/-- An empty literal. -/
theorem own_lit0 (k : IntKind) (T : TypeId) (w : World) (base : Nat) (hb : base ≤ w.heap.size) : OwnI k T (w.alloc (.cells #[] T)) base (.slice (some ⟨w.heap.size, 0, none⟩) 0 0) [] :=
  World.ownsRow_lit w #[] 0 hb (by unfold maxLen; omega) (by simp)
theorem OwnI.formn {k : IntKind} {T : TypeId} {w : World} {base n : Nat} {v : Value} {xs : List Int} (h : OwnI k T w base v xs) (hn : xs.length = n) :
    ∃ ad cap, v = .slice ad n cap ∧ RowAt k w ad xs ∧ (ad = none → cap = 0) := by
  subst hn
  obtain ⟨ad, cap, h1, h2, h3, _⟩ := h.form
  exact ⟨ad, cap, h1, h2, fun e => (h3 e).2⟩
theorem grown_lit {w w1 w2 : World} {T : TypeId} (hb : Below w.heap.size w w1) (hg : (w1.alloc (.cells #[] T)).grownBy w2 (Value.slice (some ⟨w1.heap.size, 0, none⟩) 0 0).ownBlock) : Below w.heap.size w w2 := by
  have hs := hb.size
  refine (ba hb _).grown hg (by simp; omega) (fun g h => ?_)
  have e : w1.heap.size = g := Option.some.inj h
  omega
end Go.Proofs.YtaafhjngnjjcmaaGreatDoor

/- Two slices of the same numbers: the statements' own comparison. -/
namespace Go.Proofs.YtaafhjngnjjcmaaGreatDoor
open Go.RowKit


/-- The same numbers. -/
theorem same_yes (xs : List Int) (ad bd : Option Addr) (cap cap' : Nat) (w : World) (hr : RowAt .i64 w ad xs) (hq : RowAt .i64 w bd xs) (hl : xs.length ≤ 9223372036854775807) :
    Calls Tryz.prog 103 #[.slice ad xs.length cap, .slice bd xs.length cap'] w fun e w' => e = .returned (.bool true) ∧ Below w.heap.size w w' := by
  have HR := hide hr
  have HQ := hide hq
  clear hr hq
  obtain ⟨n, hn⟩ : ∃ n, xs.length = n := ⟨_, rfl⟩
  have HN := hide hn
  rw [hn] at hl ⊢
  clear hn
  go_enter Tryz.func103, Tryz.ntmps103
  go_wp2
  go_loopw [13] (fun i wr => ∃ k : Nat, k ≤ n ∧ i = .int .i64 (k : Int) ∧ Below w.heap.size w wr) (fun i _ => n - (intOf i).toNat)
  case atStart => exact ⟨0, by omega, rfl, Below.refl _ _⟩
  case round =>
    obtain ⟨k, hk, rfl, hb⟩ := hrel
    have HB := hide hb
    clear hb
    by_cases hlt : k < n
    · obtain ⟨b, off, rfl, hc⟩ := (HR.out.below HB.out).get (show k < xs.length by rw [HN.out]; exact hlt)
      obtain ⟨b', off', rfl, hc'⟩ := (HQ.out.below HB.out).get (show k < xs.length by rw [HN.out]; exact hlt)
      generalize xs.getD k 0 = x at *
      go_wp2_with fail
      go_quiet (fail)
      go_wp2
      go_roundw
      case rel => exact ⟨k + 1, by omega, by go_num, bdN HB.out _⟩
      case measure => simp [intOf]; omega
    · obtain rfl : k = n := by omega
      go_wp2
      go_ret
      exact ⟨rfl, HB.out⟩
theorem same_n (n : Nat) (xs : List Int) (hn : xs.length = n) (ad bd : Option Addr) (cap cap' : Nat) (w : World) (hr : RowAt .i64 w ad xs) (hq : RowAt .i64 w bd xs) (hl : n ≤ 9223372036854775807) :
    Calls Tryz.prog 103 #[.slice ad n cap, .slice bd n cap'] w fun e w' => e = .returned (.bool true) ∧ Below w.heap.size w w' := by
  subst hn
  exact same_yes xs ad bd cap cap' w hr hq hl
end Go.Proofs.YtaafhjngnjjcmaaGreatDoor

/- The program's quotients (package fixed): each as plain arithmetic. -/
namespace Go.Proofs.YtaafhjngnjjcmaaGreatDoor
open Go.RowKit


theorem wrap_in' {n : Int} (h0 : -9223372036854775808 ≤ n) (h1 : n ≤ 9223372036854775807) : wrap64 n = n := IntWalk.wrap64_in n ⟨h0, h1⟩
theorem wrap_pred {t : Int} (h0 : -9223372036854775808 ≤ t - 1) (h1 : t - 1 ≤ 9223372036854775807) : wrap64 (wrap64 t - 1) = t - 1 := by unfold wrap64; omega
theorem fixfloor_any (a b : Int) (h0 : -9223372036854775808 ≤ a) (h1 : a ≤ 9223372036854775807) (k0 : -9223372036854775808 ≤ b) (k1 : b ≤ 9223372036854775807) (w : World) :
    Calls Tryz.prog 135 #[.int .i64 a, .int .i64 b] w fun e w' => e = .returned (.int .i64 (floorF a b)) ∧ w = w' := by
  by_cases hb : b = 0
  · subst hb
    go_enter Tryz.func135, Tryz.ntmps135
    go_wp2
    go_ret
    exact ⟨ret_i64 (by simp [floorF]), rfl⟩
  have C := cut_any h0 h1 k0 k1 hb
  rw [floorF_of hb]
  by_cases hs : a = -9223372036854775808 ∧ b = -1
  · obtain ⟨rfl, rfl⟩ := hs
    clear C
    go_enter Tryz.func135, Tryz.ntmps135
    go_wp2
    go_ret
    exact ⟨ret_i64 (by decide), rfl⟩
  have q1 := C.q1 (Or.inr hs)
  have q0 := C.q0
  rw [holdI_in q0 q1]
  have hb0 : (b == 0) = false := beq_eq_false_iff_ne.2 hb
  have HS := hide hs
  clear hs
  by_cases c1 : a.tmod b = 0
  · have E := C.f0 c1
    rw [E] at q0 q1 ⊢
    clear C E
    by_cases ha : a = -9223372036854775808
    · have hA : (a == -9223372036854775808) = true := beq_iff_eq.2 ha
      have hB : (b == -1) = false := beq_eq_false_iff_ne.2 fun e => HS.out ⟨ha, e⟩
      clear ha h0 h1
      go_enter Tryz.func135, Tryz.ntmps135
      go_wp2
      go_ret
      exact ⟨ret_i64 (by first | rfl | exact wrap_in' (by omega) (by omega)), rfl⟩
    · have hA : (a == -9223372036854775808) = false := beq_eq_false_iff_ne.2 ha
      clear ha
      go_enter Tryz.func135, Tryz.ntmps135
      go_wp2
      go_ret
      exact ⟨ret_i64 (by first | rfl | exact wrap_in' (by omega) (by omega)), rfl⟩
  have c1' : (a.tmod b != 0) = true := by simp [c1]
  by_cases ga : a < 0
  · by_cases gb : b < 0
    · have E := C.f1 (by omega)
      rw [E] at q0 q1 ⊢
      clear C E
      have da : decide (a < 0) = true := decide_eq_true (by omega)
      have db : decide (b < 0) = true := decide_eq_true (by omega)
      clear c1 ga gb
      by_cases ha : a = -9223372036854775808
      · have hA : (a == -9223372036854775808) = true := beq_iff_eq.2 ha
        have hB : (b == -1) = false := beq_eq_false_iff_ne.2 fun e => HS.out ⟨ha, e⟩
        clear ha h0 h1
        go_enter Tryz.func135, Tryz.ntmps135
        go_wp2
        go_ret
        exact ⟨ret_i64 (by first | rfl | exact wrap_in' (by omega) (by omega)), rfl⟩
      · have hA : (a == -9223372036854775808) = false := beq_eq_false_iff_ne.2 ha
        clear ha
        go_enter Tryz.func135, Tryz.ntmps135
        go_wp2
        go_ret
        exact ⟨ret_i64 (by first | rfl | exact wrap_in' (by omega) (by omega)), rfl⟩
    · have E := C.f2 c1 (by omega)
      rw [E] at q0 q1 ⊢
      clear C E
      have da : decide (a < 0) = true := decide_eq_true (by omega)
      have db : decide (b < 0) = false := decide_eq_false (by omega)
      clear c1 ga gb
      by_cases ha : a = -9223372036854775808
      · have hA : (a == -9223372036854775808) = true := beq_iff_eq.2 ha
        have hB : (b == -1) = false := beq_eq_false_iff_ne.2 fun e => HS.out ⟨ha, e⟩
        clear ha h0 h1
        go_enter Tryz.func135, Tryz.ntmps135
        go_wp2
        go_ret
        exact ⟨ret_i64 (by first | exact wrap_pred q0 q1 | exact wrap_in' q0 q1), rfl⟩
      · have hA : (a == -9223372036854775808) = false := beq_eq_false_iff_ne.2 ha
        clear ha
        go_enter Tryz.func135, Tryz.ntmps135
        go_wp2
        go_ret
        exact ⟨ret_i64 (by first | exact wrap_pred q0 q1 | exact wrap_in' q0 q1), rfl⟩
  · by_cases gb : b < 0
    · have E := C.f2 c1 (by omega)
      rw [E] at q0 q1 ⊢
      clear C E
      have da : decide (a < 0) = false := decide_eq_false (by omega)
      have db : decide (b < 0) = true := decide_eq_true (by omega)
      clear c1 ga gb
      by_cases ha : a = -9223372036854775808
      · have hA : (a == -9223372036854775808) = true := beq_iff_eq.2 ha
        have hB : (b == -1) = false := beq_eq_false_iff_ne.2 fun e => HS.out ⟨ha, e⟩
        clear ha h0 h1
        go_enter Tryz.func135, Tryz.ntmps135
        go_wp2
        go_ret
        exact ⟨ret_i64 (by first | exact wrap_pred q0 q1 | exact wrap_in' q0 q1), rfl⟩
      · have hA : (a == -9223372036854775808) = false := beq_eq_false_iff_ne.2 ha
        clear ha
        go_enter Tryz.func135, Tryz.ntmps135
        go_wp2
        go_ret
        exact ⟨ret_i64 (by first | exact wrap_pred q0 q1 | exact wrap_in' q0 q1), rfl⟩
    · have E := C.f1 (by omega)
      rw [E] at q0 q1 ⊢
      clear C E
      have da : decide (a < 0) = false := decide_eq_false (by omega)
      have db : decide (b < 0) = false := decide_eq_false (by omega)
      clear c1 ga gb
      by_cases ha : a = -9223372036854775808
      · have hA : (a == -9223372036854775808) = true := beq_iff_eq.2 ha
        have hB : (b == -1) = false := beq_eq_false_iff_ne.2 fun e => HS.out ⟨ha, e⟩
        clear ha h0 h1
        go_enter Tryz.func135, Tryz.ntmps135
        go_wp2
        go_ret
        exact ⟨ret_i64 (by first | rfl | exact wrap_in' (by omega) (by omega)), rfl⟩
      · have hA : (a == -9223372036854775808) = false := beq_eq_false_iff_ne.2 ha
        clear ha
        go_enter Tryz.func135, Tryz.ntmps135
        go_wp2
        go_ret
        exact ⟨ret_i64 (by first | rfl | exact wrap_in' (by omega) (by omega)), rfl⟩
theorem fixmod_any (a b : Int) (h0 : -9223372036854775808 ≤ a) (h1 : a ≤ 9223372036854775807) (k0 : -9223372036854775808 ≤ b) (k1 : b ≤ 9223372036854775807) (w : World) :
    Calls Tryz.prog 129 #[.int .i64 a, .int .i64 b] w fun e w' => e = .returned (.int .i64 (modF a b)) ∧ w = w' := by
  by_cases hb : b = 0
  · subst hb
    go_enter Tryz.func129, Tryz.ntmps129
    go_wp2
    go_ret
    exact ⟨ret_i64 (by simp [modF]), rfl⟩
  have C := cut_any h0 h1 k0 k1 hb
  have I := floorR_in a b
  rw [modF_of hb]
  have hb0 : (b == 0) = false := beq_eq_false_iff_ne.2 hb
  have m0 := C.m0
  have m1 := C.m1
  by_cases c1 : a.tmod b = 0
  · rw [C.r0 c1]
    clear C I
    go_enter Tryz.func129, Tryz.ntmps129
    go_wp2
    go_ret
    exact ⟨ret_i64 (by rfl), rfl⟩
  have c1' : (a.tmod b != 0) = true := by simp [c1]
  by_cases ga : a.tmod b < 0
  · by_cases gb : b < 0
    · rw [C.r1 c1 (by omega)]
      have da : decide (a.tmod b < 0) = true := decide_eq_true (by omega)
      have db : decide (b < 0) = true := decide_eq_true (by omega)
      clear C I c1 ga gb
      go_enter Tryz.func129, Tryz.ntmps129
      go_wp2
      go_ret
      exact ⟨ret_i64 (by rfl), rfl⟩
    · rw [C.r2 c1 (by omega)]
      have e2 := C.r2 c1 (by omega)
      have i2 := I.1 (by omega)
      rw [e2] at i2
      clear e2
      have da : decide (a.tmod b < 0) = true := decide_eq_true (by omega)
      have db : decide (b < 0) = false := decide_eq_false (by omega)
      clear C I c1 ga gb
      go_enter Tryz.func129, Tryz.ntmps129
      go_wp2
      go_ret
      exact ⟨ret_i64 (by first | rfl | exact wrap_in' (by omega) (by omega)), rfl⟩
  · by_cases gb : b < 0
    · rw [C.r2 c1 (by omega)]
      have e2 := C.r2 c1 (by omega)
      have i2 := I.2 gb
      rw [e2] at i2
      clear e2
      have da : decide (a.tmod b < 0) = false := decide_eq_false (by omega)
      have db : decide (b < 0) = true := decide_eq_true (by omega)
      clear C I c1 ga gb
      go_enter Tryz.func129, Tryz.ntmps129
      go_wp2
      go_ret
      exact ⟨ret_i64 (by first | rfl | exact wrap_in' (by omega) (by omega)), rfl⟩
    · rw [C.r1 c1 (by omega)]
      have da : decide (a.tmod b < 0) = false := decide_eq_false (by omega)
      have db : decide (b < 0) = false := decide_eq_false (by omega)
      clear C I c1 ga gb
      go_enter Tryz.func129, Tryz.ntmps129
      go_wp2
      go_ret
      exact ⟨ret_i64 (by rfl), rfl⟩
/-! ### Shift -/
def shiftF (x n : Int) : Int := if n ≤ 0 then x else if 63 < n then 0 else (x / 2 ^ (n.toNat - 1) + 1) / 2
theorem and_one_i64 (a : Int) : bits .and .i64 a 1 = a % 2 := by
  show IntKind.i64.wrap (((BitVec.ofInt 64 a &&& BitVec.ofInt 64 1).toNat : Nat) : Int) = _
  rw [BitVec.toNat_and, BitVec.toNat_ofInt, BitVec.toNat_ofInt]
  have e : ((1 : Int) % ((2 ^ 64 : Nat) : Int)).toNat = 1 := by decide
  rw [e, Nat.and_one_is_mod, IntKind.wrap_i64]
  have e2 : ((2 ^ 64 : Nat) : Int) = 18446744073709551616 := by decide
  rw [e2]
  omega
theorem two_step (x : Int) (m : Nat) : x / 2 ^ (m + 1) + x / 2 ^ m % 2 = (x / 2 ^ m + 1) / 2 := by
  have e : x / 2 ^ (m + 1) = x / 2 ^ m / 2 := by rw [Int.pow_succ, Int.ediv_ediv_of_nonneg (Int.le_of_lt (pow2_pos m))]
  rw [e]; omega
theorem shift_in {x : Int} (m : Nat) (h0 : -9223372036854775808 ≤ x) (h1 : x ≤ 9223372036854775807) : -9223372036854775808 ≤ (x / 2 ^ m + 1) / 2 ∧ (x / 2 ^ m + 1) / 2 ≤ 9223372036854775807 := by
  have p := pow2_pos m
  have p1 : (1 : Int) ≤ 2 ^ m := p
  have a0 : -9223372036854775808 ≤ x / 2 ^ m := by
    rw [Int.le_ediv_iff_mul_le p]
    generalize (2 : Int) ^ m = P at *
    omega
  have a1 : x / 2 ^ m ≤ 9223372036854775807 := by
    by_cases hx : 0 ≤ x
    · have := Int.ediv_le_self (2 ^ m) hx; omega
    · have := Int.ediv_neg_of_neg_of_pos (by omega : x < 0) p; omega
  omega
theorem fixshift_any (x n : Int) (h0 : -9223372036854775808 ≤ x) (h1 : x ≤ 9223372036854775807) (k0 : -9223372036854775808 ≤ n) (k1 : n ≤ 9223372036854775807) (w : World) :
    Calls Tryz.prog 60 #[.int .i64 x, .int .i64 n] w fun e w' => e = .returned (.int .i64 (shiftF x n)) ∧ Below w.heap.size w w' := by
  by_cases hn : n ≤ 0
  · rw [show shiftF x n = x from if_pos hn]
    go_enter Tryz.func60, Tryz.ntmps60
    go_wp2
    go_ret
    exact ⟨rfl, Below.refl _ _⟩
  by_cases hm : 63 < n
  · rw [show shiftF x n = 0 from (if_neg hn).trans (if_pos hm)]
    go_enter Tryz.func60, Tryz.ntmps60
    go_wp2
    go_ret
    exact ⟨rfl, Below.refl _ _⟩
  obtain ⟨m, rfl⟩ : ∃ m : Nat, n = ((m + 1 : Nat) : Int) := ⟨n.toNat - 1, by omega⟩
  have e : shiftF x ((m + 1 : Nat) : Int) = (x / 2 ^ m + 1) / 2 := (if_neg hn).trans (if_neg hm)
  rw [e]
  have S := hide (shift_in m h0 h1)
  have T := hide (two_step x m)
  clear e
  obtain ⟨j, hj⟩ : ∃ j, j = m + 1 := ⟨_, rfl⟩
  have J := hide hj
  rw [← hj] at hn hm k0 k1 ⊢
  have n1 : ((j : Int) - 1) = ((j - 1 : Nat) : Int) := by omega
  clear hj
  go_enter Tryz.func60, Tryz.ntmps60
  go_wp2
  go_quiet (fail)
  go_wp2
  go_ret
  refine ⟨ret_i64 ?_, below_drewN (Below.refl _ _) _⟩
  have hj := J.out
  subst hj
  rw [and_one_i64, Nat.add_sub_cancel, T.out]
  exact wrap_in' S.out.1 S.out.2
end Go.Proofs.YtaafhjngnjjcmaaGreatDoor

/- The exponential function, in integers: plain arithmetic. -/
namespace Go.Proofs.YtaafhjngnjjcmaaGreatDoor
open Go.RowKit


/-- The terms, and their sum, with signs in turn. -/
def termE (r : Int) : Nat → Int
  | 0 => 1099511627776
  | n + 1 => divF (termE r n * r) (((n : Int) + 1) * 1099511627776)
def sumE (r : Int) : Nat → Int
  | 0 => 1099511627776
  | n + 1 => if n % 2 = 0 then sumE r n - termE r (n + 1) else sumE r n + termE r (n + 1)
def posI (t : Int) : Int := max t 0
def expoF (t : Int) : Int := shiftF (sumE (posI t % 762123384786) 16) (posI t / 762123384786)
def ratioF (d s : Int) : Int := if s < 1 ∨ 4194304 < s ∨ d < -16384 ∨ 16384 < d then 9223372036854775807 else divF (d * d * 2147483648 * 1099511627776) (s * s)
def gaussF (d s : Int) : Int := shiftF (expoF (ratioF d s)) 10
theorem near_in {X d m : Int} (hd : 0 < d) (h0 : 0 ≤ X) (h1 : X ≤ m * d) : 0 ≤ nearQ X d ∧ nearQ X d ≤ m := by
  unfold nearQ
  rw [if_neg (by omega)]
  refine ⟨Int.ediv_nonneg (by omega) (by omega), ?_⟩
  have h : (2 * X + d) / (2 * d) < m + 1 := by
    apply Int.ediv_lt_of_lt_mul (by omega)
    have e : (m + 1) * (2 * d) = 2 * (m * d) + 2 * d := by rw [Int.add_mul, Int.mul_left_comm]; omega
    rw [e]; omega
  omega
theorem termE_in {r : Int} (h0 : 0 ≤ r) (h1 : r ≤ 1099511627776) (n : Nat) : 0 ≤ termE r n ∧ termE r n ≤ 1099511627776 := by
  induction n with
  | zero => simp [termE]
  | succ n ih =>
    obtain ⟨a0, a1⟩ := ih
    have p0 : 0 ≤ termE r n * r := Int.mul_nonneg a0 h0
    have p1 : termE r n * r ≤ 1099511627776 * 1099511627776 := Int.mul_le_mul a1 h1 h0 (by omega)
    have p2 : (1099511627776 : Int) * 1099511627776 ≤ 1099511627776 * (((n : Int) + 1) * 1099511627776) := by omega
    have q := near_in (X := termE r n * r) (d := ((n : Int) + 1) * 1099511627776) (m := 1099511627776) (by omega) p0 (by omega)
    show 0 ≤ divF _ _ ∧ divF _ _ ≤ _
    rw [divF_of (by omega), holdI_in (by omega) (by omega)]
    exact q
theorem sumE_in {r : Int} (h0 : 0 ≤ r) (h1 : r ≤ 1099511627776) (n : Nat) : -(((n : Int) + 1) * 1099511627776) ≤ sumE r n ∧ sumE r n ≤ ((n : Int) + 1) * 1099511627776 := by
  induction n with
  | zero => simp [sumE]
  | succ n ih =>
    have t := termE_in h0 h1 (n + 1)
    unfold sumE
    split <;> omega
theorem posI0 (t : Int) : 0 ≤ posI t := by unfold posI; omega
theorem posI1 {t : Int} (h : t ≤ 9223372036854775807) : posI t ≤ 9223372036854775807 := by unfold posI; omega
theorem shiftF_in {x n : Int} (h0 : -9223372036854775808 ≤ x) (h1 : x ≤ 9223372036854775807) : -9223372036854775808 ≤ shiftF x n ∧ shiftF x n ≤ 9223372036854775807 := by
  unfold shiftF
  split
  · exact ⟨h0, h1⟩
  · split
    · omega
    · exact shift_in _ h0 h1
theorem sum16_in {r : Int} (h0 : 0 ≤ r) (h1 : r < 762123384786) : -18691697672192 ≤ sumE r 16 ∧ sumE r 16 ≤ 18691697672192 := by
  have := sumE_in h0 (by omega : r ≤ 1099511627776) 16
  omega
theorem exp_parts {t : Int} (h0 : 0 ≤ t) (h1 : t ≤ 9223372036854775807) : 0 ≤ t % 762123384786 ∧ t % 762123384786 < 762123384786 ∧ 0 ≤ t / 762123384786 ∧ t / 762123384786 ≤ 12102203 := by omega
theorem expoF_in {t : Int} (h1 : t ≤ 9223372036854775807) : -9223372036854775808 ≤ expoF t ∧ expoF t ≤ 9223372036854775807 := by
  have p := exp_parts (posI0 t) (posI1 h1)
  have s := sum16_in p.1 p.2.1
  exact shiftF_in (by omega) (by omega)
theorem divF_in (a b : Int) : -9223372036854775808 ≤ divF a b ∧ divF a b ≤ 9223372036854775807 := by
  unfold divF
  split
  · omega
  · exact ⟨holdI0 _, holdI1 _⟩
theorem ratioF_in (d s : Int) : -9223372036854775808 ≤ ratioF d s ∧ ratioF d s ≤ 9223372036854775807 := by
  unfold ratioF
  split
  · omega
  · exact divF_in _ _
theorem abs_sq (s : Int) : s * s = absI s * absI s := by
  unfold absI
  split
  · rw [Int.neg_mul_neg]
  · rfl
theorem sq_in {s : Int} (h0 : -16777216 ≤ s) (h1 : s ≤ 16777216) : 0 ≤ s * s ∧ s * s ≤ 281474976710656 := by
  have a := abs_sq s
  have b0 : 0 ≤ absI s := absI0 s
  have b1 : absI s ≤ 16777216 := by unfold absI; split <;> omega
  rw [a]
  exact ⟨Int.mul_nonneg b0 b0, Int.mul_le_mul b1 b1 b0 (by omega)⟩
theorem ratioF_pos (d s : Int) : 0 ≤ ratioF d s := by
  unfold ratioF
  split
  · omega
  · rename_i h
    have a := sq_in (s := d) (by omega) (by omega)
    have b := sq_in (s := s) (by omega) (by omega)
    generalize d * d = D at *
    generalize s * s = S at *
    unfold divF
    split
    · omega
    · have q := near_in (X := D * 2147483648 * 1099511627776) (d := S) (m := D * 2147483648 * 1099511627776) (by omega) (by omega) (by
        have : 1 * (D * 2147483648 * 1099511627776) ≤ S * (D * 2147483648 * 1099511627776) := Int.mul_le_mul_of_nonneg_right (by omega) (by omega)
        rw [Int.mul_comm S] at this; omega)
      unfold holdI
      split <;> (try split) <;> omega
end Go.Proofs.YtaafhjngnjjcmaaGreatDoor
