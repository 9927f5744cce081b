/- A queue in memory: its record, and its numbers, wherever in their row they begin. -/
import Derived.Test.YtfecalpfjafecaaLO
import Derived.Test.YtfecalpfjafecaaS16B
namespace Go.Proofs.Ytfecalpfjafecaa
open Go.RowKit


/-- How many may be. -/
def roomQ (a : Int) : Int := if a < 1 then 1 else if 4096 < a then 4096 else a
theorem roomQ_in (a : Int) : 1 ≤ roomQ a ∧ roomQ a ≤ 4096 := by unfold roomQ; split <;> (try split) <;> omega
theorem OwnO.off {k : IntKind} {w w' : World} {base : Nat} {v : Value} {xs : List Int} {T : Nat → Prop} (h : OwnO k w base v xs) (ho : Off T w w') (hn : ∀ g, v.ownBlock = some g → ¬ T g) : OwnO k w' base v xs := by
  rcases h with ⟨rfl, rfl⟩ | ⟨g, off, cap, rfl, h1, h2, h3, h4, h5, h6⟩
  · exact Or.inl ⟨rfl, rfl⟩
  · have ne := hn g rfl
    refine Or.inr ⟨g, off, cap, rfl, h1, Nat.lt_of_lt_of_le h2 ho.size, h3, fun j hj => ho.cell ne (h4 j hj), fun j hj => ?_, fun j => ?_⟩
    · rw [World.cell?_of_block (w := w) (a := ⟨g, off + j, none⟩) (ho.block g h2 ne)]
      exact h5 j hj
    · rw [ho.frozen ne h2]
      exact h6 j
theorem OwnO.monoB {k : IntKind} {w : World} {base base' : Nat} {v : Value} {xs : List Int} (h : OwnO k w base v xs) (hb : base' ≤ base) : OwnO k w base' v xs := by
  rcases h with h | ⟨g, off, cap, hv, h1, h2⟩
  · exact Or.inl h
  · exact Or.inr ⟨g, off, cap, hv, by omega, h2⟩
/-- A queue in memory, in the blocks S. -/
structure QueueAt (w : World) (base q : Nat) (S : Nat → Prop) (room : Nat) (L : List Int) (cl : Bool) : Prop where
  r1 : 1 ≤ room
  r2 : room ≤ 4096
  len : L.length ≤ room
  lo : ∀ k, S k → base ≤ k
  hi : ∀ k, S k → k < w.heap.size
  sq : S q
  c0 : w.cell? ⟨q, 0, none⟩ = some (.int .i64 (room : Int))
  c2 : w.cell? ⟨q, 2, none⟩ = some (.bool cl)
  fr : ∀ o, w.frozen? ⟨q, o, none⟩ = false
  mem : ∃ v, w.cell? ⟨q, 1, none⟩ = some v ∧ OwnO .i64 w base v L ∧ ∀ g, v.ownBlock = some g → S g ∧ g ≠ q
theorem QueueAt.off {w w' : World} {base q room : Nat} {S T : Nat → Prop} {L : List Int} {cl : Bool} (R : QueueAt w base q S room L cl) (ho : Off T w w') (hn : ∀ k, S k → ¬ T k) : QueueAt w' base q S room L cl where
  r1 := R.r1
  r2 := R.r2
  len := R.len
  lo := R.lo
  hi := fun k hk => Nat.lt_of_lt_of_le (R.hi k hk) ho.size
  sq := R.sq
  c0 := ho.cell (hn q R.sq) R.c0
  c2 := ho.cell (hn q R.sq) R.c2
  fr := fun o => (ho.frozen (hn q R.sq) (R.hi q R.sq)).trans (R.fr o)
  mem := by
    obtain ⟨v, h1, h2, h3⟩ := R.mem
    exact ⟨v, ho.cell (hn q R.sq) h1, h2.off ho (fun g hg => hn g (h3 g hg).1), h3⟩
theorem QueueAt.below {w w' : World} {base q room : Nat} {S : Nat → Prop} {L : List Int} {cl : Bool} (R : QueueAt w base q S room L cl) (hb : Below w.heap.size w w') : QueueAt w' base q S room L cl :=
  R.off (T := fun _ => False) (Off.of_below hb) (fun _ _ e => e)
theorem QueueAt.drewN {w : World} {base q room : Nat} {S : Nat → Prop} {L : List Int} {cl : Bool} (R : QueueAt w base q S room L cl) (n : Nat) : QueueAt (w.drewN n) base q S room L cl := R.below (bdN (Below.refl _ _) n)
/-- A new one. -/
theorem queue_new (w : World) {x : Int} {room : Nat} (hx : x = (room : Int)) (r1 : 1 ≤ room) (r2 : room ≤ 4096) (T : TypeId) :
    QueueAt (w.alloc (.cells #[.int .i64 x, .slice none 0 0, .bool false] T)) w.heap.size w.heap.size (fun k => k = w.heap.size) room [] false where
  r1 := r1
  r2 := r2
  len := Nat.zero_le _
  lo := fun k hk => by omega
  hi := fun k hk => by simp; omega
  sq := rfl
  c0 := by subst hx; simp
  c2 := by simp
  fr := fun o => by simp
  mem := ⟨.slice none 0 0, by simp, OwnO.nil _ _ _, fun g hg => by cases hg⟩
/-- One more number, stored. -/
theorem QueueAt.sent {w w1 : World} {base q room : Nat} {S : Nat → Prop} {L : List Int} {cl : Bool} {v v' : Value} {x : Int} {o : Obj} (R : QueueAt w base q S room L cl) (hc : w.cell? ⟨q, 1, none⟩ = some v) (hb : ∀ g, v.ownBlock = some g → S g ∧ g ≠ q) (hl : L.length < room)
    (h1 : OwnO .i64 w1 base v' (L ++ [x])) (h2 : (w.alloc o).grownBy w1 v.ownBlock) (h3 : v'.ownBlock = v.ownBlock ∨ ∀ g, v'.ownBlock = some g → (w.alloc o).heap.size ≤ g) :
    QueueAt (w1.setCell ⟨q, 1, none⟩ v') base q (fun k => S k ∨ v'.ownBlock = some k) room (L ++ [x]) cl ∧ Off S w (w1.setCell ⟨q, 1, none⟩ v') := by
  have hq := R.hi q R.sq
  have hs : (w.alloc o).heap.size = w.heap.size + 1 := by simp
  have O1 : Off S w w1 := ((Off.refl S w).alloc o).trans (Off.of_grownO h2) (fun k hk e => (hb k e.symm).1)
  have O1q : Off (fun k => v.ownBlock = some k) w w1 := ((Off.refl (fun k => v.ownBlock = some k) w).alloc o).trans (Off.of_grownO h2) (fun k hk e => e.symm)
  have nq : ¬ (v.ownBlock = some q) := fun e => (hb q e).2 rfl
  have nq' : ∀ g, v'.ownBlock = some g → g ≠ q := fun g hg e => by
    rcases h3 with h3 | h3
    · exact (hb g (h3 ▸ hg)).2 e
    · have := h3 g hg
      omega
  have O2 := Off.of_grown (grown_set w1 q 1 v')
  have s1 := O1.size
  refine ⟨⟨R.r1, R.r2, by rw [List.length_append, List.length_singleton]; omega, fun k hk => ?_, fun k hk => ?_, Or.inl R.sq, ?_, ?_, fun o' => ?_, v', ?_, ?_, fun g hg => ⟨Or.inr hg, nq' g hg⟩⟩, O1.set (fun _ => R.sq) _⟩
  · rcases hk with hk | hk
    · exact R.lo k hk
    · exact (h1.fresh k hk).1
  · have := O2.size
    rcases hk with hk | hk
    · have := R.hi k hk
      omega
    · have := (h1.fresh k hk).2
      omega
  · rw [World.cell?_setCell_other _ _ _ _ (by simp)]
    exact O1q.cell nq R.c0
  · rw [World.cell?_setCell_other _ _ _ _ (by simp)]
    exact O1q.cell nq R.c2
  · rw [World.frozen?_setCell]
    exact (O1q.frozen nq hq).trans (R.fr o')
  · exact World.cell?_setCell_same' _ _ _ (by rw [O1q.cell nq hc]; rfl)
  · exact h1.off O2 (fun g hg => nq' g hg)
/-- The first number is gone. -/
theorem QueueAt.received {w : World} {base q room g off n cap : Nat} {S : Nat → Prop} {L : List Int} {cl : Bool} (R : QueueAt w base q S room L cl) (hc : w.cell? ⟨q, 1, none⟩ = some (.slice (some ⟨g, off, none⟩) n cap)) (ho : OwnO .i64 w base (.slice (some ⟨g, off, none⟩) n cap) L) (hb : S g ∧ g ≠ q) (hn : L.length = n) (h0 : 1 ≤ n) :
    QueueAt (w.setCell ⟨q, 1, none⟩ (.slice (some ⟨g, if cap = 1 then off else off + 1, none⟩) (n - 1) (cap - 1))) base q S room L.tail cl ∧ Off (fun k => k = q) w (w.setCell ⟨q, 1, none⟩ (.slice (some ⟨g, if cap = 1 then off else off + 1, none⟩) (n - 1) (cap - 1))) := by
  have hl := R.len
  have O2 := Off.of_grown (grown_set w q 1 (.slice (some ⟨g, if cap = 1 then off else off + 1, none⟩) (n - 1) (cap - 1)))
  refine ⟨⟨R.r1, R.r2, by rw [List.length_tail]; omega, R.lo, fun k hk => Nat.lt_of_lt_of_le (R.hi k hk) O2.size, R.sq, ?_, ?_, fun o' => ?_, _, World.cell?_setCell_same' _ _ _ (by rw [hc]; rfl), (ho.tail hn h0).off O2 (fun g' hg => ?_), fun g' hg => ?_⟩, O2⟩
  · rw [World.cell?_setCell_other _ _ _ _ (by simp)]
    exact R.c0
  · rw [World.cell?_setCell_other _ _ _ _ (by simp)]
    exact R.c2
  · rw [World.frozen?_setCell]
    exact R.fr o'
  · obtain rfl : g = g' := Option.some.inj hg
    exact hb.2
  · obtain rfl : g = g' := Option.some.inj hg
    exact hb
/-- It is closed. -/
theorem QueueAt.shut {w : World} {base q room : Nat} {S : Nat → Prop} {L : List Int} {cl : Bool} (R : QueueAt w base q S room L cl) :
    QueueAt (w.setCell ⟨q, 2, none⟩ (.bool true)) base q S room L true ∧ Off (fun k => k = q) w (w.setCell ⟨q, 2, none⟩ (.bool true)) := by
  have O2 := Off.of_grown (grown_set w q 2 (.bool true))
  obtain ⟨v, h1, h2, h3⟩ := R.mem
  refine ⟨⟨R.r1, R.r2, R.len, R.lo, fun k hk => Nat.lt_of_lt_of_le (R.hi k hk) O2.size, R.sq, ?_, World.cell?_setCell_same' _ _ _ (by rw [R.c2]; rfl), fun o' => ?_, v, ?_, h2.off O2 (fun g hg => (h3 g hg).2), h3⟩, O2⟩
  · rw [World.cell?_setCell_other _ _ _ _ (by simp)]
    exact R.c0
  · rw [World.frozen?_setCell]
    exact R.fr o'
  · rw [World.cell?_setCell_other _ _ _ _ (by simp)]
    exact h1
end Go.Proofs.Ytfecalpfjafecaa
