/- Images as bytes: the document's Decode. -/
import Derived.Test.YtoppojilndnghaaDoorS11D
import Derived.Test.YtoppojilndnghaaDoorS11E
import Derived.Test.YtoppojilndnghaaDoorS09O
namespace Go.Proofs.YtoppojilndnghaaDoor
open Go.RowKit


def im0V : Value := .agg #[.int .i64 0, .int .i64 0, .int .i64 0, .int .i64 0, .slice none 0 0]
/-- What the document's Decode answers. -/
def DecRef (B : Nat) (e : Ending) (w' : World) (r : Im × Int) : Prop :=
  (r.2 ≠ 0 ∧ e = .returned (.tuple #[im0V, .int .i64 r.2])) ∨ (r.2 = 0 ∧ ∃ b cap, e = .returned (.tuple #[imV r.1 b r.1.il.length cap, .int .i64 0]) ∧ RowAt .u16 w' (some ⟨b, 0, none⟩) r.1.il ∧ B ≤ b ∧ r.1.il.length ≤ cap)
/-- A record of noughts. -/
def Z5 (w : World) (R : Nat) : Prop :=
  (w.cell? ⟨R, 0, none⟩ = some (.int .i64 0) ∧ w.frozen? ⟨R, 0, none⟩ = false) ∧ (w.cell? ⟨R, 1, none⟩ = some (.int .i64 0) ∧ w.frozen? ⟨R, 1, none⟩ = false) ∧ (w.cell? ⟨R, 2, none⟩ = some (.int .i64 0) ∧ w.frozen? ⟨R, 2, none⟩ = false) ∧
  (w.cell? ⟨R, 3, none⟩ = some (.int .i64 0) ∧ w.frozen? ⟨R, 3, none⟩ = false) ∧ (w.cell? ⟨R, 4, none⟩ = some (.slice none 0 0) ∧ w.frozen? ⟨R, 4, none⟩ = false)
theorem Z5.grown {w w' : World} {R : Nat} {row : Option Nat} (h : Z5 w R) (g : w.grownBy w' row) (ne : some R ≠ row) : Z5 w' R := by
  obtain ⟨⟨a, a'⟩, ⟨b, b'⟩, ⟨c, c'⟩, ⟨d, d'⟩, ⟨e, e'⟩⟩ := h
  exact ⟨⟨cg g ne a, fg g ne a a'⟩, ⟨cg g ne b, fg g ne b b'⟩, ⟨cg g ne c, fg g ne c c'⟩, ⟨cg g ne d, fg g ne d d'⟩, ⟨cg g ne e, fg g ne e e'⟩⟩
theorem Z5.below {w w' : World} {R : Nat} (h : Z5 w R) (b : Below w.heap.size w w') : Z5 w' R := h.grown (grown_below b none) (by simp)
theorem z5_new (w : World) (T : TypeId) : Z5 (w.alloc (.cells #[.int .i64 0, .int .i64 0, .int .i64 0, .int .i64 0, .slice none 0 0] T)) w.heap.size := by
  unfold Z5
  simp
theorem cell_put_same {w : World} {p : Addr} {u : Value} (h : w.cell? p = some u) (q : Addr) : (w.setCell p u).cell? q = w.cell? q := by
  by_cases e : q = p
  · subst e
    rw [World.cell?_setCell_same' _ _ _ (by rw [h]; rfl), h]
  · exact World.cell?_setCell_other _ _ _ _ (fun x => e x.symm)
theorem Z5.put {w : World} {R : Nat} (h : Z5 w R) {p : Addr} {u : Value} (hp : w.cell? p = some u) : Z5 (w.setCell p u) R := by
  unfold Z5 at h ⊢
  simp only [cell_put_same hp, World.frozen?_setCell]
  exact h
theorem Z5.nought {w : World} {R : Nat} (h : Z5 w R) : Z5 (((((w.setCell ⟨R, 0, none⟩ (.int .i64 0)).setCell ⟨R, 1, none⟩ (.int .i64 0)).setCell ⟨R, 2, none⟩ (.int .i64 0)).setCell ⟨R, 3, none⟩ (.int .i64 0)).setCell ⟨R, 4, none⟩ (.slice none 0 0)) R := by
  have h1 := h.put h.1.1
  have h2 := h1.put h1.2.1.1
  have h3 := h2.put h2.2.2.1.1
  have h4 := h3.put h3.2.2.2.1.1
  exact h4.put h4.2.2.2.2.1
theorem below_nought {a w : World} {R : Nat} (h : Below a.heap.size a w) (hR : a.heap.size ≤ R) : Below a.heap.size a (((((w.setCell ⟨R, 0, none⟩ (.int .i64 0)).setCell ⟨R, 1, none⟩ (.int .i64 0)).setCell ⟨R, 2, none⟩ (.int .i64 0)).setCell ⟨R, 3, none⟩ (.int .i64 0)).setCell ⟨R, 4, none⟩ (.slice none 0 0)) :=
  bs (bs (bs (bs (bs h hR _) hR _) hR _) hR _) hR _
/-- Samples so far, in the image that is being made. -/
structure DSt (T : TypeId) (B R0 R4 R9 : Nat) (a b c t : Int) (w0 w : World) (v : Value) (L : List Int) : Prop where
  own : OwnI .u16 T w B v L
  z5 : Z5 w R0
  c4 : w.cell? ⟨R4, 3, none⟩ = some (.int .i64 t)
  d0 : w.cell? ⟨R9, 0, none⟩ = some (.int .i64 a)
  d1 : w.cell? ⟨R9, 1, none⟩ = some (.int .i64 b)
  d2 : w.cell? ⟨R9, 2, none⟩ = some (.int .i64 c)
  d3 : w.cell? ⟨R9, 3, none⟩ = some (.int .i64 t)
  d4 : w.cell? ⟨R9, 4, none⟩ = some v
  f4 : w.frozen? ⟨R9, 4, none⟩ = false
  below : Below w0.heap.size w0 w
  bw : B ≤ w.heap.size
  r0 : R0 < R4
  r4 : R4 < R9
  r9 : R9 < B
  w9 : w0.heap.size ≤ R0
theorem DSt.more {T : TypeId} {B R0 R4 R9 : Nat} {a b c t : Int} {w0 w w3 : World} {v v' : Value} {L : List Int} {x : Int} {o : Obj} (D : DSt T B R0 R4 R9 a b c t w0 w v L)
    (own' : w3.ownsRow B T 1 v' (L.length + 1) (L.map (Value.int .u16) ++ [Value.int .u16 x])) (grow : (w.alloc o).grownBy w3 v.ownBlock) :
    DSt T B R0 R4 R9 a b c t w0 (w3.setCell ⟨R9, 4, none⟩ v') v' (L ++ [x]) ∧ w3.cell? ⟨R9, 4, none⟩ = some v ∧ w3.frozen? ⟨R9, 4, none⟩ = false := by
  have hr0 := D.r0
  have hr4 := D.r4
  have hr9 := D.r9
  have hw9 := D.w9
  have hlt : ∀ g, v.ownBlock = some g → B ≤ g := own_fresh D.own
  have ne : ∀ R, R < B → some R ≠ v.ownBlock := fun R hR e => by
    have := hlt R e.symm
    omega
  have G : w.grownBy w3 v.ownBlock := (grown_below (below1 w o) _).trans grow
  have G2 := grown_set w3 R9 4 v'
  have n0 : some R0 ≠ some R9 := fun e => by have := Option.some.inj e; omega
  have n4 : some R4 ≠ some R9 := fun e => by have := Option.some.inj e; omega
  have e4 := cg G (ne R9 hr9) D.d4
  have sz := G.size
  have hbw := D.bw
  have far : ∀ (i : Nat) (u : Value), i ≠ 4 → w.cell? ⟨R9, i, none⟩ = some u → (w3.setCell ⟨R9, 4, none⟩ v').cell? ⟨R9, i, none⟩ = some u := fun i u hi h => by
    rw [World.cell?_setCell_other _ _ _ _ (by intro e'; simp only [Addr.mk.injEq] at e'; omega)]
    exact cg G (ne R9 hr9) h
  refine ⟨⟨?_, (D.z5.grown G (ne R0 (by omega))).grown G2 n0, cg G2 n4 (cg G (ne R4 (by omega)) D.c4), far 0 _ (by decide) D.d0, far 1 _ (by decide) D.d1, far 2 _ (by decide) D.d2, far 3 _ (by decide) D.d3, ?_, ?_, ?_, ?_, hr0, hr4, hr9, hw9⟩, e4, fg G (ne R9 hr9) D.d4 D.f4⟩
  · refine OwnI.kept (u := .slice (some ⟨R9, 0, none⟩) 0 0) (OwnI.append own') G2 ?_
    intro g hg he
    have h1 := own_fresh own' g hg
    have h2 := Option.some.inj he
    simp at h2
    omega
  · exact World.cell?_setCell_same' _ _ _ (by rw [e4]; rfl)
  · rw [World.frozen?_setCell]
    exact fg G (ne R9 hr9) D.d4 D.f4
  · exact bs (D.below.grown G D.below.size (fun k hk => by have := hlt k hk; omega)) (by omega) _
  · show B ≤ (w3.setCell ⟨R9, 4, none⟩ v').heap.size
    simp [World.setCell]
    omega
theorem ddec_bad (s : ByteArray) (hs : s.size ≤ 1048576) (hp : (parseF (byt s)).2 ≠ 0) (w : World) :
    Calls Tryd.prog 10 #[.string s] w fun e w' => DecRef w.heap.size e w' (decodeF (byt s)) ∧ Below w.heap.size w w' := by
  have C1 := fun w => dparse_any s hs w
  rw [decode_no hp]
  obtain ⟨⟨⟨a, b, c, d, z⟩, k⟩, hP⟩ : ∃ r, parseF (byt s) = r := ⟨_, rfl⟩
  rw [hP] at C1 hp ⊢
  simp only at C1 hp ⊢
  unfold hdV at C1
  have HD := hide (fun (w' : World) => show DecRef w.heap.size (.returned (.tuple #[im0V, .int .i64 k])) w' (im0, k) from .inl ⟨hp, rfl⟩)
  have hk0 : (k != 0) = true := bne_iff_ne.2 hp
  have z5 := z5_new w 30
  clear hs hP hp
  go_enter Tryd.func10, Tryd.ntmps10
  go_wp2_with (go_at_call 27; (with_reducible refine (C1 _).mono ?_); rintro e w1 ⟨rfl, b1⟩; have z6 := z5.below b1; have z7 := hide z6; obtain ⟨⟨p0, z0⟩, ⟨p1, z1⟩, ⟨p2, z2⟩, ⟨p3, z3⟩, ⟨p4, z4⟩⟩ := z6; have lR := cell_ltL p0)
  have hz := (z7.out.nought).below (below1 _ (.cells #[.int .i64 a, .int .i64 b, .int .i64 c, .int .i64 d, .int .i64 z] 56))
  have hb := ba (below_nought (bt (below1 w _) b1) (Nat.le_refl _)) (.cells #[.int .i64 a, .int .i64 b, .int .i64 c, .int .i64 d, .int .i64 z] 56)
  generalize (((((w1.setCell ⟨w.heap.size, 0, none⟩ (.int .i64 0)).setCell ⟨w.heap.size, 1, none⟩ (.int .i64 0)).setCell ⟨w.heap.size, 2, none⟩ (.int .i64 0)).setCell ⟨w.heap.size, 3, none⟩ (.int .i64 0)).setCell ⟨w.heap.size, 4, none⟩ (.slice none 0 0)).alloc (.cells #[.int .i64 a, .int .i64 b, .int .i64 c, .int .i64 d, .int .i64 z] 56) = W at hz hb ⊢
  obtain ⟨⟨q0, _⟩, ⟨q1, _⟩, ⟨q2, _⟩, ⟨q3, _⟩, ⟨q4, _⟩⟩ := hz
  exact bodyPost_ret (v := .tuple #[.agg #[.int .i64 0, .int .i64 0, .int .i64 0, .int .i64 0, .slice none 0 0], .int .i64 k]) (by simp [results, Tryd.results10, go_sem, q0, q1, q2, q3, q4]) rfl ⟨HD.out _, hb⟩
end Go.Proofs.YtoppojilndnghaaDoor
