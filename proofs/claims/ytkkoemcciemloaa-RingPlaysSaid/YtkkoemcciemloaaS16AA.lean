/- What a play with a ring has: the ring, and the document's beside it. -/
import Derived.Test.YtkkoemcciemloaaS16Z
import Derived.Test.YtkkoemcciemloaaS16T
import Derived.Test.YtkkoemcciemloaaS16Y
namespace Go.Proofs.Ytkkoemcciemloaa
open Go.RowKit
open Go.Maps (Keyed)
open Go.MapKept Go.ChangeMaps


/-- The ring r, and in block b the document's. -/
def PlayS (w wr : World) (b : Nat) (A : Option Nat) (J : Value) (r room width : Nat) (L : List (Int × List Int)) (v : Value) : Prop :=
  ∃ base S, w.heap.size ≤ base ∧ RingAt wr base r S room width L ∧ DocAt wr (fun g => ¬ S g ∧ g ≠ b) v L ∧ Cel3 wr b (.int .i64 (room : Int)) (.int .i64 (width : Int)) v ∧ ¬ S b ∧ w.heap.size ≤ b ∧ Below w.heap.size w wr ∧ ∀ a, A = some a → wr.cell? ⟨a, 1, none⟩ = some J ∧ ¬ S a ∧ a ≠ b
theorem PlayS.below {w wr w' : World} {b : Nat} {A : Option Nat} {J : Value} {r room width : Nat} {L : List (Int × List Int)} {v : Value} (h : PlayS w wr b A J r room width L v) (hb : Below wr.heap.size wr w') : PlayS w w' b A J r room width L v := by
  obtain ⟨base, S, h1, h2, h3, h4, h5, h6, h7, hA⟩ := h
  exact ⟨base, S, h1, h2.below hb, h3.below hb, h4.below hb, h5, h6, bt h7 hb, fun a ha => ⟨cb hb (cell_ltL (hA a ha).1) (hA a ha).1, (hA a ha).2⟩⟩
theorem PlayS.bel {w wr : World} {b : Nat} {A : Option Nat} {J : Value} {r room width : Nat} {L : List (Int × List Int)} {v : Value} (h : PlayS w wr b A J r room width L v) : Below w.heap.size w wr := by
  obtain ⟨base, S, h1, h2, h3, h4, h5, h6, h7, hA⟩ := h
  exact h7
theorem PlayS.law {w wr : World} {b : Nat} {A : Option Nat} {J : Value} {r room width : Nat} {L : List (Int × List Int)} {v : Value} (h : PlayS w wr b A J r room width L v) : LawR w wr r room width L := by
  obtain ⟨base, S, h1, h2, h3, h4, h5, h6, h7, hA⟩ := h
  exact ⟨base, S, h1, h2, h7⟩
theorem PlayS.cel {w wr : World} {b : Nat} {A : Option Nat} {J : Value} {r room width : Nat} {L : List (Int × List Int)} {v : Value} (h : PlayS w wr b A J r room width L v) : Cel3 wr b (.int .i64 (room : Int)) (.int .i64 (width : Int)) v := by
  obtain ⟨base, S, h1, h2, h3, h4, h5, h6, h7, hA⟩ := h
  exact h4
theorem PlayS.form {w wr : World} {b : Nat} {A : Option Nat} {J : Value} {r room width : Nat} {L : List (Int × List Int)} {v : Value} (h : PlayS w wr b A J r room width L v) : ∃ ad cap, v = .slice ad L.length cap ∧ RdL wr ad L := by
  obtain ⟨base, S, h1, h2, h3, h4, h5, h6, h7, hA⟩ := h
  exact h3.1.form
theorem PlayS.ok {w wr : World} {b : Nat} {A : Option Nat} {J : Value} {r room width : Nat} {L : List (Int × List Int)} {v : Value} (h : PlayS w wr b A J r room width L v) : RingOk room width L := by
  obtain ⟨base, S, h1, h2, h3, h4, h5, h6, h7, hA⟩ := h
  exact h2.ok
/-- Cells b of the record, of which the rows are others. -/
theorem Cel3.set2 {w : World} {b : Nat} {x y z : Value} (h : Cel3 w b x y z) (u : Value) : Cel3 (w.setCell ⟨b, 2, none⟩ u) b x y u := by
  obtain ⟨a0, a1, a2, a3, a4, a5⟩ := h
  refine ⟨?_, ?_, ?_, ?_, ?_, ?_⟩
  · rw [World.cell?_setCell_other _ _ _ _ (by simp)]; exact a0
  · rw [World.cell?_setCell_other _ _ _ _ (by simp)]; exact a1
  · exact World.cell?_setCell_same' _ _ _ (by rw [a2]; rfl)
  · rw [World.frozen?_setCell]; exact a3
  · rw [World.frozen?_setCell]; exact a4
  · rw [World.frozen?_setCell]; exact a5
theorem Cel3.set3 {w : World} {b : Nat} {x y z : Value} (h : Cel3 w b x y z) (p q u : Value) : Cel3 (((w.setCell ⟨b, 0, none⟩ p).setCell ⟨b, 1, none⟩ q).setCell ⟨b, 2, none⟩ u) b p q u := by
  obtain ⟨a0, a1, a2, a3, a4, a5⟩ := h
  refine ⟨?_, ?_, ?_, ?_, ?_, ?_⟩
  · rw [World.cell?_setCell_other _ _ _ _ (by simp), World.cell?_setCell_other _ _ _ _ (by simp)]
    exact World.cell?_setCell_same' _ _ _ (by rw [a0]; rfl)
  · rw [World.cell?_setCell_other _ _ _ _ (by simp)]
    exact World.cell?_setCell_same' _ _ _ (by rw [World.cell?_setCell_other _ _ _ _ (by simp), a1]; rfl)
  · exact World.cell?_setCell_same' _ _ _ (by rw [World.cell?_setCell_other _ _ _ _ (by simp), World.cell?_setCell_other _ _ _ _ (by simp), a2]; rfl)
  · rw [World.frozen?_setCell, World.frozen?_setCell, World.frozen?_setCell]; exact a3
  · rw [World.frozen?_setCell, World.frozen?_setCell, World.frozen?_setCell]; exact a4
  · rw [World.frozen?_setCell, World.frozen?_setCell, World.frozen?_setCell]; exact a5
theorem set3_off {w : World} {b : Nat} (p q u : Value) : Off (fun k => k = b) w (((w.setCell ⟨b, 0, none⟩ p).setCell ⟨b, 1, none⟩ q).setCell ⟨b, 2, none⟩ u) :=
  (((Off.refl (fun k => k = b) w).set (fun _ => rfl) _).set (fun _ => rfl) _).set (fun _ => rfl) _
/-- The ring is emptied, and the document's rows are none. -/
theorem play_reset {w wr : World} {b : Nat} {A : Option Nat} {J : Value} {r room width : Nat} {L : List (Int × List Int)} {v : Value} (h : PlayS w wr b A J r room width L v) :
    Calls Try.prog 11 #[.pointer (some ⟨r, 0, none⟩)] wr fun e w' => e = .returned (.tuple #[]) ∧ Cel3 w' b (.int .i64 (room : Int)) (.int .i64 (width : Int)) v ∧ PlayS w (w'.setCell ⟨b, 2, none⟩ (.slice none 0 0)) b A J r room width [] (.slice none 0 0) := by
  obtain ⟨base, S, h1, h2, h3, h4, h5, h6, h7, hA⟩ := h
  have hbl := cell_ltL h4.1
  refine (rreset_any h2).mono ?_
  rintro e w' ⟨rfl, S', R, O, s⟩
  have hS' : ¬ S' b := fun e => by
    rcases s b e with q | q
    · exact h5 q
    · omega
  have c4 : Cel3 w' b (.int .i64 (room : Int)) (.int .i64 (width : Int)) v := by
    obtain ⟨a0, a1, a2, a3, a4, a5⟩ := h4
    exact ⟨O.cell h5 a0, O.cell h5 a1, O.cell h5 a2, (O.frozen h5 hbl).trans a3, (O.frozen h5 hbl).trans a4, (O.frozen h5 hbl).trans a5⟩
  have O2 := Off.of_grown (grown_set w' b 2 (.slice none 0 0))
  refine ⟨rfl, c4, base, S', h1, R.off O2 (fun k hk e => by subst e; exact hS' hk), DocAt.nil _ _, c4.set2 _, hS', h6, ?_⟩
  refine ⟨bs (Off.after h7 O h7.size (fun k hk => by have := h2.lo k hk; omega)) h6 _, fun a ha => ?_⟩
  obtain ⟨q1, q2, q3⟩ := hA a ha
  exact ⟨O2.cell q3 (O.cell q2 q1), fun e => by
    rcases s a e with q | q
    · exact q2 q
    · have := cell_ltL q1
      omega, q3⟩
/-- The same while a row of the statement's own is at hand: the ring has Lr, the document Ld; the block has vc, vd is the document's. -/
def PlayG (w wr : World) (b : Nat) (A : Option Nat) (J : Value) (r room width : Nat) (Lr Ld : List (Int × List Int)) (vc vd u : Value) (n : Nat) : Prop :=
  ∃ base S xs, w.heap.size ≤ base ∧ RingAt wr base r S room width Lr ∧ DocAt wr (fun g => ¬ S g ∧ g ≠ b ∧ u.ownBlock ≠ some g) vd Ld ∧ Cel3 wr b (.int .i64 (room : Int)) (.int .i64 (width : Int)) vc ∧ ¬ S b ∧ w.heap.size ≤ b ∧ Below w.heap.size w wr ∧ xs.length = n ∧ OwnI .i64 2 wr w.heap.size u xs ∧ (∀ g, u.ownBlock = some g → ¬ S g ∧ g ≠ b) ∧ ∀ a, A = some a → wr.cell? ⟨a, 1, none⟩ = some J ∧ ¬ S a ∧ a ≠ b ∧ u.ownBlock ≠ some a
theorem PlayS.unit {w wr w1 : World} {b : Nat} {A : Option Nat} {J : Value} {r room width n : Nat} {L : List (Int × List Int)} {v u : Value} {xs : List Int} (h : PlayS w wr b A J r room width L v) (hb : Below wr.heap.size wr w1) (ho : OwnI .i64 2 w1 wr.heap.size u xs) (hx : xs.length = n) : PlayG w w1 b A J r room width L L v v u n := by
  obtain ⟨base, S, h1, h2, h3, h4, h5, h6, h7, hA⟩ := h
  have hbl := cell_ltL h4.1
  have hu : ∀ g, u.ownBlock = some g → wr.heap.size ≤ g := ownI_from ho
  have h3' : DocAt wr (fun g => ¬ S g ∧ g ≠ b ∧ u.ownBlock ≠ some g) v L := h3.turn (fun g hg hB => ⟨hB.1, hB.2, fun e => by have := hu g e; omega⟩)
  exact ⟨base, S, xs, h1, h2.below hb, h3'.below hb, h4.below hb, h5, h6, bt h7 hb, hx, ho.mono h7.size, fun g hg => by
    have := hu g hg
    exact ⟨fun e => by have := h2.hi g e; omega, by omega⟩, fun a ha => by
    obtain ⟨q1, q2, q3⟩ := hA a ha
    have ql := cell_ltL q1
    exact ⟨cb hb ql q1, q2, q3, fun e => by have := hu a e; omega⟩⟩
theorem PlayG.done {w wr : World} {b : Nat} {A : Option Nat} {J : Value} {r room width n : Nat} {L : List (Int × List Int)} {v u : Value} (h : PlayG w wr b A J r room width L L v v u n) : PlayS w wr b A J r room width L v := by
  obtain ⟨base, S, xs, h1, h2, h3, h4, h5, h6, h7, h8, h9, h10, hA⟩ := h
  exact ⟨base, S, h1, h2, h3.turn (fun g _ hB => ⟨hB.1, hB.2.1⟩), h4, h5, h6, h7, fun a ha => ⟨(hA a ha).1, (hA a ha).2.1, (hA a ha).2.2.1⟩⟩
theorem PlayG.below {w wr w' : World} {b : Nat} {A : Option Nat} {J : Value} {r room width n : Nat} {Lr Ld : List (Int × List Int)} {vc vd u : Value} (h : PlayG w wr b A J r room width Lr Ld vc vd u n) (hb : Below wr.heap.size wr w') : PlayG w w' b A J r room width Lr Ld vc vd u n := by
  obtain ⟨base, S, xs, h1, h2, h3, h4, h5, h6, h7, h8, h9, h10, hA⟩ := h
  exact ⟨base, S, xs, h1, h2.below hb, h3.below hb, h4.below hb, h5, h6, bt h7 hb, h8, h9.below hb, h10, fun a ha => ⟨cb hb (cell_ltL (hA a ha).1) (hA a ha).1, (hA a ha).2⟩⟩
theorem PlayG.cel {w wr : World} {b : Nat} {A : Option Nat} {J : Value} {r room width n : Nat} {Lr Ld : List (Int × List Int)} {vc vd u : Value} (h : PlayG w wr b A J r room width Lr Ld vc vd u n) : Cel3 wr b (.int .i64 (room : Int)) (.int .i64 (width : Int)) vc := by
  obtain ⟨base, S, xs, h1, h2, h3, h4, h5, h6, h7, h8, h9, h10, hA⟩ := h
  exact h4
theorem PlayG.bel {w wr : World} {b : Nat} {A : Option Nat} {J : Value} {r room width n : Nat} {Lr Ld : List (Int × List Int)} {vc vd u : Value} (h : PlayG w wr b A J r room width Lr Ld vc vd u n) : Below w.heap.size w wr := by
  obtain ⟨base, S, xs, h1, h2, h3, h4, h5, h6, h7, h8, h9, h10, hA⟩ := h
  exact h7
theorem PlayG.row {w wr : World} {b : Nat} {A : Option Nat} {J : Value} {r room width n : Nat} {Lr Ld : List (Int × List Int)} {vc vd u : Value} (h : PlayG w wr b A J r room width Lr Ld vc vd u n) : ∃ ad cap, u = .slice ad n cap := by
  obtain ⟨base, S, xs, h1, h2, h3, h4, h5, h6, h7, h8, h9, h10, hA⟩ := h
  obtain ⟨ad, cap, e, _⟩ := h9.formn h8
  exact ⟨ad, cap, e⟩
/-- The block takes what the document made. -/
theorem PlayG.store {w wr : World} {b : Nat} {A : Option Nat} {J : Value} {r room width n : Nat} {Lr Ld : List (Int × List Int)} {vc vd u : Value} (h : PlayG w wr b A J r room width Lr Ld vc vd u n) : PlayG w (((wr.setCell ⟨b, 0, none⟩ (.int .i64 (room : Int))).setCell ⟨b, 1, none⟩ (.int .i64 (width : Int))).setCell ⟨b, 2, none⟩ vd) b A J r room width Lr Ld vd vd u n := by
  obtain ⟨base, S, xs, h1, h2, h3, h4, h5, h6, h7, h8, h9, h10, hA⟩ := h
  have O := set3_off (w := wr) (b := b) (.int .i64 (room : Int)) (.int .i64 (width : Int)) vd
  exact ⟨base, S, xs, h1, h2.off O (fun k hk e => h5 (e ▸ hk)), h3.off O (fun g _ hB => hB.2.1), h4.set3 _ _ _, h5, h6, Off.after h7 O h7.size (fun k e => by omega), h8, O.own h9 (fun g hg => (h10 g hg).2), h10, fun a ha => ⟨O.cell (hA a ha).2.2.1 (hA a ha).1, (hA a ha).2⟩⟩
theorem PlayG.keep {w wr : World} {b : Nat} {A : Option Nat} {J : Value} {r room width n cap : Nat} {ad : Option Addr} {Lr Ld : List (Int × List Int)} {vc vd p q z : Value} {xs : List Int} (h : PlayG w wr b A J r room width Lr Ld vc vd (.slice ad n cap) n) (hr : RowAt .i64 wr ad xs) : RowAt .i64 (((wr.setCell ⟨b, 0, none⟩ p).setCell ⟨b, 1, none⟩ q).setCell ⟨b, 2, none⟩ z) ad xs := by
  obtain ⟨base, S, ys, h1, h2, h3, h4, h5, h6, h7, h8, h9, h10, hA⟩ := h
  exact (set3_off (w := wr) (b := b) p q z).row hr (fun a ha => (h10 a.block (by subst ha; rfl)).2)
/-- The document's Put. -/
theorem play_dput {w wr : World} {b : Nat} {A : Option Nat} {J : Value} {r room width n cap : Nat} {ad : Option Addr} {L : List (Int × List Int)} {v : Value} {j : Int} (h : PlayG w wr b A J r room width L L v v (.slice ad n cap) n) (hn : n ≤ 1048576) :
    Calls Try.prog 19 #[.agg #[.int .i64 (room : Int), .int .i64 (width : Int), v], .int .i64 j, .slice ad n cap] wr fun e w' => ∃ v' xs, e = .returned (.tuple #[.agg #[.int .i64 (room : Int), .int .i64 (width : Int), v'], .bool (putB room width L j n)]) ∧ (∃ ad' l' c', v' = .slice ad' l' c') ∧ Below wr.heap.size wr w' ∧ xs.length = n ∧ RowAt .i64 wr ad xs ∧ PlayG w w' b A J r room width L (if putB room width L j n = true then putR room L (j, xs) else L) v v' (.slice ad n cap) n := by
  obtain ⟨base, S, xs, h1, h2, h3, h4, h5, h6, h7, h8, h9, h10, hA⟩ := h
  have hbl := cell_ltL h4.1
  obtain ⟨ad', cap', e, hrow, hz⟩ := h9.formn h8
  simp only [Value.slice.injEq] at e
  obtain ⟨rfl, _, rfl⟩ := e
  refine (dput16_any (j := j) h2.ok.r1 h2.ok.r2 h2.ok.wd h2.ok.len h8 (by omega) hz wr hrow h3 (fun g hg => ⟨fun q => by have := h2.hi g q; omega, by omega, fun q => by have := OwnI.lt h9 g q; omega⟩)).mono ?_
  rintro e w' ⟨v', rfl, hD, hb⟩
  obtain ⟨adv, capv, hv, _⟩ := hD.1.form
  exact ⟨v', xs, rfl, ⟨_, _, _, hv⟩, hb, h8, hrow, base, S, xs, h1, h2.below hb, hD, h4.below hb, h5, h6, bt h7 hb, h8, h9.below hb, h10, fun a ha => ⟨cb hb (cell_ltL (hA a ha).1) (hA a ha).1, (hA a ha).2⟩⟩
/-- The ring's Put. -/
theorem play_rput {w wr : World} {b : Nat} {A : Option Nat} {J : Value} {r room width n cap : Nat} {ad : Option Addr} {L Ld : List (Int × List Int)} {vc vd : Value} {j : Int} {xs : List Int} (j1 : -9223372036854775808 ≤ j) (j2 : j ≤ 9223372036854775807) (h : PlayG w wr b A J r room width L Ld vc vd (.slice ad n cap) n) (hn : n ≤ 1048576) (hx : xs.length = n) (hr : RowAt .i64 wr ad xs) :
    Calls Try.prog 10 #[.pointer (some ⟨r, 0, none⟩), .int .i64 j, .slice ad n cap] wr fun e w' => e = .returned (.bool (putB room width L j n)) ∧ PlayG w w' b A J r room width (if putB room width L j n = true then putR room L (j, xs) else L) Ld vc vd (.slice ad n cap) n := by
  obtain ⟨base, S, ys, h1, h2, h3, h4, h5, h6, h7, h8, h9, h10, hA⟩ := h
  have hbl := cell_ltL h4.1
  obtain ⟨ad', cap', e, _, hz⟩ := h9.formn h8
  simp only [Value.slice.injEq] at e
  obtain ⟨rfl, _, rfl⟩ := e
  refine (rput_any j1 j2 h2 hx (by omega) hr hz (fun a ha => (h10 a.block (by subst ha; rfl)).1)).mono ?_
  rintro e w' ⟨rfl, S', R, O, s⟩
  have nS : ∀ g, g < wr.heap.size → ¬ S g → ¬ S' g := fun g hg hs q => by
    rcases s g q with q | q
    · exact hs q
    · omega
  have c4 : Cel3 w' b (.int .i64 (room : Int)) (.int .i64 (width : Int)) vc := by
    obtain ⟨a0, a1, a2, a3, a4, a5⟩ := h4
    exact ⟨O.cell h5 a0, O.cell h5 a1, O.cell h5 a2, (O.frozen h5 hbl).trans a3, (O.frozen h5 hbl).trans a4, (O.frozen h5 hbl).trans a5⟩
  refine ⟨rfl, base, S', ys, h1, R, ?_, c4, nS b hbl h5, h6, Off.after h7 O h7.size (fun k hk => by have := h2.lo k hk; omega), h8, O.own h9 (fun g hg => (h10 g hg).1), fun g hg => ⟨nS g (OwnI.lt h9 g hg) (h10 g hg).1, (h10 g hg).2⟩, fun a ha => ⟨O.cell (hA a ha).2.1 (hA a ha).1, nS a (cell_ltL (hA a ha).1) (hA a ha).2.1, (hA a ha).2.2⟩⟩
  exact (h3.turn (B' := fun g => (¬ S g ∧ g ≠ b ∧ (Value.slice ad n cap).ownBlock ≠ some g) ∧ ¬ S' g) (fun g hg hB => ⟨hB, nS g hg hB.1⟩)).off O (fun g _ hB => hB.1.1) |>.turn (fun g _ hB => ⟨hB.2, hB.1.2.1, hB.1.2.2⟩)
/-- One number of the statement's own row. -/
theorem PlayG.cell {w wr : World} {b : Nat} {A : Option Nat} {J : Value} {r room width n i : Nat} {Lr Ld : List (Int × List Int)} {vc vd u : Value} (h : PlayG w wr b A J r room width Lr Ld vc vd u n) (hi : i < n) : ∃ g cap x, u = .slice (some ⟨g, 0, none⟩) n cap ∧ wr.cell? ⟨g, i, none⟩ = some (.int .i64 x) ∧ wr.frozen? ⟨g, i, none⟩ = false ∧ ∀ y, PlayG w (wr.setCell ⟨g, i, none⟩ (.int .i64 y)) b A J r room width Lr Ld vc vd u n := by
  obtain ⟨base, S, xs, h1, h2, h3, h4, h5, h6, h7, h8, h9, h10, hA⟩ := h
  obtain ⟨g, cap, rfl, hg1, hg2, hr, hc, hf⟩ := own_row h9 h8 (by omega)
  have c := hr.at (j := i) (by omega)
  rw [Nat.zero_add] at c
  obtain ⟨n1, n2⟩ := h10 g rfl
  refine ⟨g, cap, _, rfl, c, hf i, fun y => ?_⟩
  have G := grown_set wr g i (.int .i64 y)
  have O := Off.of_grown G
  exact ⟨base, S, xs.set i y, h1, h2.off O (fun k hk e => n1 (e ▸ hk)), h3.off O (fun q _ hB e => hB.2.2 (by rw [e]; rfl)), h4.grown G (fun e => n2 (Option.some.inj e).symm), h5, h6, bs h7 hg1 _, by rw [List.length_set]; exact h8, h9.stored h8 i y, h10, fun a ha => ⟨O.cell (fun e => (hA a ha).2.2.2 (by rw [e]; rfl)) (hA a ha).1, (hA a ha).2⟩⟩
/-- An act is at hand, and no more. -/
theorem PlayS.act {w wr : World} {b : Nat} {J : Value} {r room width : Nat} {L : List (Int × List Int)} {v J' x y z : Value} {T : TypeId} (h : PlayS w wr b none J r room width L v) : PlayS w (wr.alloc (.cells #[x, J', y, z] T)) b (some wr.heap.size) J' r room width L v := by
  have h' := h.below (below1 wr (.cells #[x, J', y, z] T))
  obtain ⟨base, S, h1, h2, h3, h4, h5, h6, h7, hA⟩ := h
  obtain ⟨base2, S2, g1, g2, g3, g4, g5, g6, g7, gA⟩ := h'
  have hbl := cell_ltL h4.1
  exact ⟨base, S, h1, h2.below (below1 _ _), h3.below (below1 _ _), g4, h5, h6, g7, fun a ha => by
    obtain rfl := Option.some.inj ha
    exact ⟨by simp, fun e => by have := h2.hi _ e; omega, by omega⟩⟩
theorem PlayS.drop {w wr : World} {b : Nat} {A : Option Nat} {J J' : Value} {r room width : Nat} {L : List (Int × List Int)} {v : Value} (h : PlayS w wr b A J r room width L v) : PlayS w wr b none J' r room width L v := by
  obtain ⟨base, S, h1, h2, h3, h4, h5, h6, h7, hA⟩ := h
  exact ⟨base, S, h1, h2, h3, h4, h5, h6, h7, fun a ha => by cases ha⟩
theorem PlayS.cj {w wr : World} {b a : Nat} {J : Value} {r room width : Nat} {L : List (Int × List Int)} {v : Value} (h : PlayS w wr b (some a) J r room width L v) : wr.cell? ⟨a, 1, none⟩ = some J := by
  obtain ⟨base, S, h1, h2, h3, h4, h5, h6, h7, hA⟩ := h
  exact (hA a rfl).1
theorem PlayG.cj {w wr : World} {b a : Nat} {J : Value} {r room width n : Nat} {Lr Ld : List (Int × List Int)} {vc vd u : Value} (h : PlayG w wr b (some a) J r room width Lr Ld vc vd u n) : wr.cell? ⟨a, 1, none⟩ = some J := by
  obtain ⟨base, S, xs, h1, h2, h3, h4, h5, h6, h7, h8, h9, h10, hA⟩ := h
  exact (hA a rfl).1
end Go.Proofs.Ytkkoemcciemloaa
