/- The document's ring in memory; its Put. -/
import Derived.Test.YtkkoemcciemloaaS16Q
import Derived.Test.YtkkoemcciemloaaS16B
namespace Go.Proofs.Ytkkoemcciemloaa
open Go.RowKit


/-- Rows that a call made: those that they themselves lie in keep to B. -/
def DocB (w : World) (base : Nat) (B : Nat → Prop) (v : Value) (L : List (Int × List Int)) : Prop :=
  ∃ us : List Value, us.length = L.length ∧ w.ownsRow base 61 2 v L.length (lcells L us) ∧ ∀ j, j < L.length → OwnI .i64 2 w 0 (us.getD j undef) (lnAt L j).2 ∧ ∀ g, (us.getD j undef).ownBlock = some g → B g
/-- The same, and the slice itself, too. -/
def DocAt (w : World) (B : Nat → Prop) (v : Value) (L : List (Int × List Int)) : Prop := DocB w 0 B v L ∧ ∀ g, v.ownBlock = some g → B g
theorem DocB.nil (w : World) (base : Nat) (B : Nat → Prop) : DocB w base B (.slice none 0 0) [] := ⟨[], rfl, World.ownsRow_nil _ _ _ _, fun _ h => absurd h (Nat.not_lt_zero _)⟩
theorem DocAt.nil (w : World) (B : Nat → Prop) : DocAt w B (.slice none 0 0) [] := ⟨DocB.nil _ _ _, fun g hg => by cases hg⟩
theorem DocB.off {T : Nat → Prop} {w w' : World} {base : Nat} {B : Nat → Prop} {v : Value} {L : List (Int × List Int)} (h : DocB w base B v L) (ho : Off T w w') (hv : ∀ g, v.ownBlock = some g → ¬ T g) (hB : ∀ g, g < w.heap.size → B g → ¬ T g) : DocB w' base B v L := by
  obtain ⟨us, h1, h2, h3⟩ := h
  exact ⟨us, h1, ho.ownr h2 hv, fun j hj => ⟨ho.own (h3 j hj).1 (fun g hg => hB g (OwnI.lt (h3 j hj).1 g hg) ((h3 j hj).2 g hg)), (h3 j hj).2⟩⟩
theorem DocB.below {w w' : World} {base : Nat} {B : Nat → Prop} {v : Value} {L : List (Int × List Int)} (h : DocB w base B v L) (hb : Below w.heap.size w w') : DocB w' base B v L :=
  h.off (T := fun _ => False) (Off.of_below hb) (fun _ _ e => e) (fun _ _ _ e => e)
theorem DocAt.off {T : Nat → Prop} {w w' : World} {B : Nat → Prop} {v : Value} {L : List (Int × List Int)} (h : DocAt w B v L) (ho : Off T w w') (hB : ∀ g, g < w.heap.size → B g → ¬ T g) : DocAt w' B v L :=
  ⟨h.1.off ho (fun g hg => by
    obtain ⟨us, h1, h2, h3⟩ := h.1
    exact hB g (h2.lt g hg).2 (h.2 g hg)) hB, h.2⟩
theorem DocAt.below {w w' : World} {B : Nat → Prop} {v : Value} {L : List (Int × List Int)} (h : DocAt w B v L) (hb : Below w.heap.size w w') : DocAt w' B v L := ⟨h.1.below hb, h.2⟩
/-- Kept to something else. -/
theorem DocAt.turn {w : World} {B B' : Nat → Prop} {v : Value} {L : List (Int × List Int)} (h : DocAt w B v L) (hB : ∀ g, g < w.heap.size → B g → B' g) : DocAt w B' v L := by
  obtain ⟨⟨us, h1, h2, h3⟩, h4⟩ := h
  exact ⟨⟨us, h1, h2, fun j hj => ⟨(h3 j hj).1, fun g hg => hB g (OwnI.lt (h3 j hj).1 g hg) ((h3 j hj).2 g hg)⟩⟩, fun g hg => hB g (h2.lt g hg).2 (h4 g hg)⟩
theorem DocB.mono {w : World} {base base' : Nat} {B : Nat → Prop} {v : Value} {L : List (Int × List Int)} (h : DocB w base B v L) (hb : base' ≤ base) : DocB w base' B v L := by
  obtain ⟨us, h1, h2, h3⟩ := h
  exact ⟨us, h1, own_mono h2 hb, h3⟩
theorem DocB.form {w : World} {base : Nat} {B : Nat → Prop} {v : Value} {L : List (Int × List Int)} (h : DocB w base B v L) : ∃ ad cap, v = .slice ad L.length cap ∧ RdL w ad L := by
  obtain ⟨us, h1, h2, h3⟩ := h
  by_cases h0 : L = []
  · rcases h2.2 with ⟨hv, hn⟩ | ⟨g, cap, cur, hv, _⟩
    · exact ⟨none, 0, by rw [hv, hn], Or.inl h0⟩
    · exact ⟨_, cap, hv, Or.inl h0⟩
  · obtain ⟨g, cap, hv, _, hl⟩ := OwnLs.read (T := 61) (w := w) (base := 0) (v := v) (L := L) ⟨us, h1, own_mono h2 (Nat.zero_le _), fun j hj => (h3 j hj).1⟩ h0
    exact ⟨_, cap, hv, Or.inr ⟨g, rfl, hl⟩⟩
theorem DocB.get {w : World} {base : Nat} {B : Nat → Prop} {v : Value} {L : List (Int × List Int)} (h : DocB w base B v L) {k : Nat} (hk : k < L.length) :
    ∃ g cap u, v = .slice (some ⟨g, 0, none⟩) L.length cap ∧ w.cell? ⟨g, k * 2, none⟩ = some (.int .i64 (lnAt L k).1) ∧ w.cell? ⟨g, k * 2 + 1, none⟩ = some u ∧ OwnI .i64 2 w 0 u (lnAt L k).2 ∧ ∀ g, u.ownBlock = some g → B g := by
  obtain ⟨us, h1, h2, h3⟩ := h
  have h2' := h2
  rcases h2.2 with ⟨hv, hn⟩ | ⟨g, cap, cur, rfl, _⟩
  · omega
  · obtain ⟨c1, c2⟩ := lcells_get h1 hk
    have e1 := World.ownsRow.cells h2' (g := g) rfl _ _ c1
    have e2 := World.ownsRow.cells h2' (g := g) rfl _ _ c2
    rw [addr_add, Nat.zero_add] at e1 e2
    rw [Nat.mul_comm 2 k] at e1 e2
    exact ⟨g, cap, _, rfl, e1, e2, (h3 k hk).1, (h3 k hk).2⟩
/-- One row is appended. -/
theorem doc_more {w0 wc w2 : World} {base : Nat} {B : Nat → Prop} {v v' u : Value} {L : List (Int × List Int)} {x : Int × List Int} {o : Obj} (hb : Below w0.heap.size w0 wc) (h0 : w0.heap.size ≤ base) {us : List Value} (hu : us.length = L.length)
    (hown : wc.ownsRow base 61 2 v L.length (lcells L us)) (hin : ∀ j, j < L.length → OwnI .i64 2 wc 0 (us.getD j undef) (lnAt L j).2 ∧ ∀ g, (us.getD j undef).ownBlock = some g → B g) (hx : OwnI .i64 2 wc 0 u x.2) (hxB : ∀ g, u.ownBlock = some g → B g)
    (hown' : w2.ownsRow base 61 2 v' (L.length + 1) (lcells L us ++ [.int .i64 x.1, u])) (hgrow : (wc.alloc o).grownBy w2 v.ownBlock) :
    DocB w2 base B v' (L ++ [x]) ∧ Below w0.heap.size w0 w2 := by
  have hs := hb.size
  refine ⟨⟨us ++ [u], by rw [List.length_append, List.length_append, hu]; rfl, ?_, ?_⟩, (hb.alloc (by omega) o).grown hgrow (by simp; omega) (fun j hj => by have := (World.ownsRow.lt hown j hj).1; omega)⟩
  · rw [lcells_snoc hu, List.length_append]; exact hown'
  · intro j hj
    have K : ∀ {y : Value} {xs : List Int}, OwnI .i64 2 wc 0 y xs → OwnI .i64 2 w2 0 y xs := fun {y xs} hy => OwnI.kept (hy.alloc o) hgrow (own_apart (by decide) (hy.alloc o) (World.ownsRow.alloc hown o))
    rw [List.length_append, List.length_singleton] at hj
    by_cases e : j = L.length
    · subst e
      rw [lnAt_new, show (us ++ [u]).getD L.length undef = u by rw [← hu]; exact getD_new us u]
      exact ⟨K hx, hxB⟩
    · rw [lnAt_old x (by omega), getD_old (by omega)]
      exact ⟨K (hin j (by omega)).1, (hin j (by omega)).2⟩
/-- Three cells of a block. -/
def Cel3 (w : World) (b : Nat) (x y z : Value) : Prop := w.cell? ⟨b, 0, none⟩ = some x ∧ w.cell? ⟨b, 1, none⟩ = some y ∧ w.cell? ⟨b, 2, none⟩ = some z ∧ w.frozen? ⟨b, 0, none⟩ = false ∧ w.frozen? ⟨b, 1, none⟩ = false ∧ w.frozen? ⟨b, 2, none⟩ = false
theorem Cel3.below {w w' : World} {b : Nat} {x y z : Value} (h : Cel3 w b x y z) (hb : Below w.heap.size w w') : Cel3 w' b x y z := by
  obtain ⟨a0, a1, a2, a3, a4, a5⟩ := h
  have hl := cell_ltL a0
  exact ⟨cb hb hl a0, cb hb hl a1, cb hb hl a2, fb hb hl a3, fb hb hl a4, fb hb hl a5⟩
theorem Cel3.grown {w w' : World} {b : Nat} {x y z : Value} {row : Option Nat} (h : Cel3 w b x y z) (hg : w.grownBy w' row) (hn : some b ≠ row) : Cel3 w' b x y z := by
  obtain ⟨a0, a1, a2, a3, a4, a5⟩ := h
  exact ⟨cg hg hn a0, cg hg hn a1, cg hg hn a2, fg hg hn a0 a3, fg hg hn a1 a4, fg hg hn a2 a5⟩
theorem Cel3.alloc {w : World} {b : Nat} {x y z : Value} (h : Cel3 w b x y z) (o : Obj) : Cel3 (w.alloc o) b x y z := h.grown (World.grownBy_alloc w o none) (by simp)
/-- What rows are left to go through. -/
def leftR (room : Nat) (L : List (Int × List Int)) (k : Nat) : List (Int × List Int) := if L.length = room ∧ k = 0 then L.tail else L.drop k
/-- How far the rows have come. -/
def PutI (room : Nat) (L : List (Int × List Int)) (x : Int × List Int) (k : Nat) (done : Bool) (K : List (Int × List Int)) : Prop := if done = true then K ++ leftR room L k = putR room L x else K ++ insR x (leftR room L k) = putR room L x
theorem puti_start (room : Nat) (L : List (Int × List Int)) (x : Int × List Int) : PutI room L x 0 false [] := by
  unfold PutI putR leftR
  rw [if_neg (by decide), List.nil_append, List.drop_zero]
  by_cases h : L.length = room
  · rw [if_pos ⟨h, rfl⟩, if_pos h]
  · rw [if_neg (fun e => h e.1), if_neg h]
theorem puti_skip {room : Nat} {L : List (Int × List Int)} {x : Int × List Int} {done : Bool} {K : List (Int × List Int)} (h : PutI room L x 0 done K) (hf : L.length = room) : PutI room L x 1 done K := by
  have e : leftR room L 1 = leftR room L 0 := by
    unfold leftR
    rw [if_neg (fun e => absurd e.2 (by decide)), if_pos ⟨hf, rfl⟩, List.drop_one]
  unfold PutI
  rw [e]
  exact h
theorem left_step {room : Nat} {L : List (Int × List Int)} {k : Nat} (hk : k < L.length) (hn : ¬ (L.length = room ∧ k = 0)) : leftR room L k = lnAt L k :: leftR room L (k + 1) := by
  unfold leftR
  rw [if_neg hn, if_neg (fun e => absurd e.2 (by omega)), List.drop_eq_getElem_cons hk, lnAt_get hk]
theorem puti_ins {room : Nat} {L : List (Int × List Int)} {x : Int × List Int} {k : Nat} {K : List (Int × List Int)} (h : PutI room L x k false K) (hk : k < L.length) (hn : ¬ (L.length = room ∧ k = 0)) (hlt : x.1 < (lnAt L k).1) : PutI room L x (k + 1) true (K ++ [x] ++ [lnAt L k]) := by
  unfold PutI at *
  rw [if_neg (by decide), left_step hk hn, insR, if_pos hlt] at h
  rw [if_pos rfl, List.append_assoc, List.append_assoc]
  exact h
theorem puti_old {room : Nat} {L : List (Int × List Int)} {x : Int × List Int} {k : Nat} {K : List (Int × List Int)} (h : PutI room L x k false K) (hk : k < L.length) (hn : ¬ (L.length = room ∧ k = 0)) (hlt : ¬ x.1 < (lnAt L k).1) : PutI room L x (k + 1) false (K ++ [lnAt L k]) := by
  unfold PutI at *
  rw [if_neg (by decide), left_step hk hn, insR, if_neg hlt] at h
  rw [if_neg (by decide), List.append_assoc]
  exact h
theorem puti_done {room : Nat} {L : List (Int × List Int)} {x : Int × List Int} {k : Nat} {K : List (Int × List Int)} (h : PutI room L x k true K) (hk : k < L.length) (hn : ¬ (L.length = room ∧ k = 0)) : PutI room L x (k + 1) true (K ++ [lnAt L k]) := by
  unfold PutI at *
  rw [if_pos rfl, left_step hk hn] at h
  rw [if_pos rfl, List.append_assoc]
  exact h
theorem left_end {room : Nat} {L : List (Int × List Int)} (h1 : 1 ≤ room) : leftR room L L.length = [] := by
  unfold leftR
  by_cases h : L.length = room ∧ L.length = 0
  · omega
  · rw [if_neg h, List.drop_length]
theorem puti_end1 {room : Nat} {L : List (Int × List Int)} {x : Int × List Int} {K : List (Int × List Int)} (h1 : 1 ≤ room) (h : PutI room L x L.length true K) : K = putR room L x := by
  unfold PutI at h
  rw [if_pos rfl, left_end h1, List.append_nil] at h
  exact h
theorem puti_end0 {room : Nat} {L : List (Int × List Int)} {x : Int × List Int} {K : List (Int × List Int)} (h1 : 1 ≤ room) (h : PutI room L x L.length false K) : K ++ [x] = putR room L x := by
  unfold PutI at h
  rw [if_neg (by decide), left_end h1] at h
  exact h
end Go.Proofs.Ytkkoemcciemloaa
