/- Worlds that differ in some blocks alone: two things stand side by side. No number of the program stands in it. -/
import Derived.Test.YtfecalpfjafecaaLG
import Derived.Maps.OwnSet
namespace Go.Proofs.Ytfecalpfjafecaa
open Go.RowKit


/-- All blocks that there were, but those of S, are as they were. -/
structure Off (S : Nat → Prop) (w w' : World) : Prop where
  os : w'.os = w.os
  tape : w'.tape = w.tape
  output : w'.output = w.output
  size : w.heap.size ≤ w'.heap.size
  block : ∀ k, k < w.heap.size → ¬ S k → w'.heap[k]? = w.heap[k]?
theorem Off.refl (S : Nat → Prop) (w : World) : Off S w w := ⟨rfl, rfl, rfl, Nat.le_refl _, fun _ _ _ => rfl⟩
theorem Off.mono {S S' : Nat → Prop} {w w' : World} (h : Off S w w') (hs : ∀ k, k < w.heap.size → S k → S' k) : Off S' w w' := ⟨h.os, h.tape, h.output, h.size, fun k hk hn => h.block k hk (fun e => hn (hs k hk e))⟩
theorem Off.trans {S S' : Nat → Prop} {a b c : World} (h : Off S a b) (h' : Off S' b c) (hs : ∀ k, k < a.heap.size → S' k → S k) : Off S a c :=
  ⟨h'.os.trans h.os, h'.tape.trans h.tape, h'.output.trans h.output, Nat.le_trans h.size h'.size, fun k hk hn => (h'.block k (Nat.lt_of_lt_of_le hk h.size) (fun e => hn (hs k hk e))).trans (h.block k hk hn)⟩
theorem Off.of_grown {w w' : World} {b : Nat} (h : w.grownBy w' (some b)) : Off (fun k => k = b) w w' := ⟨h.os, h.tape, h.output, h.size, fun k hk hn => h.block k hk (fun e => hn (Option.some.inj e))⟩
theorem Off.of_grownO {w w' : World} {row : Option Nat} (h : w.grownBy w' row) : Off (fun k => some k = row) w w' := ⟨h.os, h.tape, h.output, h.size, fun k hk hn => h.block k hk hn⟩
theorem Off.of_below {S : Nat → Prop} {w w' : World} (h : Below w.heap.size w w') : Off S w w' := ⟨h.os, h.tape, h.output, h.size, fun k hk _ => h.block k hk⟩
theorem Off.below {S : Nat → Prop} {w w' : World} (h : Off S w w') {B : Nat} (hb : B ≤ w.heap.size) (hs : ∀ k, S k → B ≤ k) : Below B w w' :=
  ⟨h.os, h.tape, h.output, h.size, fun k hk => h.block k (by omega) (fun e => by have := hs k e; omega)⟩
theorem Off.after {S : Nat → Prop} {a w w' : World} {B : Nat} (hb : Below B a w) (h : Off S w w') (hB : B ≤ w.heap.size) (hs : ∀ k, S k → B ≤ k) : Below B a w' := hb.trans (h.below hB hs)
theorem Off.cell {S : Nat → Prop} {w w' : World} (h : Off S w w') {b o : Nat} (hn : ¬ S b) {v : Value} (hc : w.cell? ⟨b, o, none⟩ = some v) : w'.cell? ⟨b, o, none⟩ = some v :=
  (World.cell?_of_block (w := w) (h.block b (cell_ltL hc) hn)).trans hc
theorem Off.frozen {S : Nat → Prop} {w w' : World} (h : Off S w w') {b o : Nat} (hn : ¬ S b) (hl : b < w.heap.size) : w'.frozen? ⟨b, o, none⟩ = w.frozen? ⟨b, o, none⟩ :=
  World.frozen?_of_block (w := w) (h.block b hl hn)
theorem Off.row {S : Nat → Prop} {k : IntKind} {w w' : World} {ad : Option Addr} {xs : List Int} (h : Off S w w') (hr : RowAt k w ad xs) (hn : ∀ a, ad = some a → ¬ S a.block) : RowAt k w' ad xs := by
  rcases hr with hr | ⟨b, off, h1, h2⟩
  · exact Or.inl hr
  · exact Or.inr ⟨b, off, h1, fun j hj => h.cell (hn _ h1) (h2 j hj)⟩
theorem Off.ownr {S : Nat → Prop} {T : TypeId} {w w' : World} {base k : Nat} {v : Value} {n : Nat} {xs : List Value} (h : Off S w w') (ho : w.ownsRow base T k v n xs) (hn : ∀ g, v.ownBlock = some g → ¬ S g) : w'.ownsRow base T k v n xs := by
  refine ⟨ho.1, ?_⟩
  rcases ho.2 with h2 | ⟨g, cap, cur, hv, hB, hg, r⟩
  · exact .inl h2
  · refine .inr ⟨g, cap, cur, hv, hB, ?_, r⟩
    have hlt : g < w.heap.size := by
      rcases Nat.lt_or_ge g w.heap.size with hlt | hge
      · exact hlt
      · rw [Array.getElem?_eq_none hge] at hg; cases hg
    rw [h.block g hlt (hn g (by subst hv; rfl))]; exact hg
theorem Off.own {S : Nat → Prop} {k : IntKind} {T : TypeId} {w w' : World} {base : Nat} {v : Value} {xs : List Int} (h : Off S w w') (ho : OwnI k T w base v xs) (hn : ∀ g, v.ownBlock = some g → ¬ S g) : OwnI k T w' base v xs := h.ownr ho hn
theorem Off.map {S : Nat → Prop} {H : Type} {P : Program} {k : TypeId} {R : Value → Option (DataW H × List MemPlace)} {w w' : World} {b n : Nat} {D : DataW H} (h : Off S w w') (ho : w.ownsMap P k R b n D) (hn : ¬ S b) : w'.ownsMap P k R b n D := by
  obtain ⟨es, clock, hb, r⟩ := ho
  have hlt : b < w.heap.size := by
    rcases Nat.lt_or_ge b w.heap.size with hlt | hge
    · exact hlt
    · rw [Array.getElem?_eq_none hge] at hb; cases hb
  exact ⟨es, clock, by rw [h.block b hlt hn]; exact hb, r⟩
theorem Off.drewN {S : Nat → Prop} {a w : World} (h : Off S a w) (n : Nat) : Off S a (w.drewN n) := h.trans (S' := fun _ => False) ⟨rfl, rfl, rfl, Nat.le_refl _, fun _ _ _ => rfl⟩ (fun _ _ e => e.elim)
theorem Off.set {S : Nat → Prop} {a w : World} (h : Off S a w) {b o : Nat} (hb : b < a.heap.size → S b) (u : Value) : Off S a (w.setCell ⟨b, o, none⟩ u) :=
  h.trans (Off.of_grown (grown_set w b o u)) (fun k hk e => by subst e; exact hb hk)
theorem Off.alloc {S : Nat → Prop} {a w : World} (h : Off S a w) (o : Obj) : Off S a (w.alloc o) :=
  h.trans (S' := fun _ => False) (Off.of_grown (b := w.heap.size) (World.grownBy_alloc w o _) |>.mono (fun k hk e => by subst e; omega)) (fun _ _ e => e.elim)
end Go.Proofs.Ytfecalpfjafecaa
