/- What a play with a queue has: the queue, and the document's beside it. -/
import Derived.Test.YtfecalpfjafecaaS18D
import Derived.Test.YtfecalpfjafecaaS18C
namespace Go.Proofs.Ytfecalpfjafecaa
open Go.RowKit


/-- The queue q, and in block b the document's; the block has vc and cc, the document's numbers are vd. -/
def PlayH (w wr : World) (b q room : Nat) (Lq : List Int) (cq : Bool) (vc : Value) (cc : Bool) (vd : Value) (Ld : List Int) : Prop :=
  ∃ base S, w.heap.size ≤ base ∧ QueueAt wr base q S room Lq cq ∧ OwnO .i64 wr w.heap.size vd Ld ∧ (∀ g, vd.ownBlock = some g → ¬ S g ∧ g ≠ b) ∧ Cel3 wr b (.int .i64 (room : Int)) vc (.bool cc) ∧ ¬ S b ∧ w.heap.size ≤ b ∧ Below w.heap.size w wr
theorem PlayH.below {w wr w' : World} {b q room : Nat} {Lq Ld : List Int} {cq cc : Bool} {vc vd : Value} (h : PlayH w wr b q room Lq cq vc cc vd Ld) (hb : Below wr.heap.size wr w') : PlayH w w' b q room Lq cq vc cc vd Ld := by
  obtain ⟨base, S, h1, h2, h3, h4, h5, h6, h7, h8⟩ := h
  exact ⟨base, S, h1, h2.below hb, h3.below hb, h4, h5.below hb, h6, h7, bt h8 hb⟩
theorem PlayH.bel {w wr : World} {b q room : Nat} {Lq Ld : List Int} {cq cc : Bool} {vc vd : Value} (h : PlayH w wr b q room Lq cq vc cc vd Ld) : Below w.heap.size w wr := by
  obtain ⟨base, S, h1, h2, h3, h4, h5, h6, h7, h8⟩ := h
  exact h8
theorem PlayH.cel {w wr : World} {b q room : Nat} {Lq Ld : List Int} {cq cc : Bool} {vc vd : Value} (h : PlayH w wr b q room Lq cq vc cc vd Ld) : Cel3 wr b (.int .i64 (room : Int)) vc (.bool cc) := by
  obtain ⟨base, S, h1, h2, h3, h4, h5, h6, h7, h8⟩ := h
  exact h5
theorem PlayH.law {w wr : World} {b q room : Nat} {Lq Ld : List Int} {cq cc : Bool} {vc vd : Value} (h : PlayH w wr b q room Lq cq vc cc vd Ld) : LawQ w wr q room Lq cq := by
  obtain ⟨base, S, h1, h2, h3, h4, h5, h6, h7, h8⟩ := h
  exact ⟨base, S, h1, h2, h8⟩
theorem PlayH.row {w wr : World} {b q room : Nat} {Lq Ld : List Int} {cq cc : Bool} {vc vd : Value} (h : PlayH w wr b q room Lq cq vc cc vd Ld) : ∃ ad cap, vd = .slice ad Ld.length cap ∧ RowAt .i64 wr ad Ld := by
  obtain ⟨base, S, h1, h2, h3, h4, h5, h6, h7, h8⟩ := h
  obtain ⟨ad, cap, e, hr, _⟩ := h3.form
  exact ⟨ad, cap, e, hr⟩
theorem PlayH.start {w w3 : World} {q room : Nat} {T : TypeId} (h : LawQ w w3 q room [] false) : PlayH w (w3.alloc (.cells #[.int .i64 (room : Int), .slice none 0 0, .bool false] T)) w3.heap.size q room [] false (.slice none 0 0) false (.slice none 0 0) [] := by
  obtain ⟨base, S, h1, h2, h3⟩ := h
  refine ⟨base, S, h1, h2.below (below1 _ _), OwnO.nil _ _ _, (fun g hg => by cases hg), ?_, fun e => ?_, h3.size, ba h3 _⟩
  · refine ⟨?_, ?_, ?_, ?_, ?_, ?_⟩ <;> simp
  · have := h2.hi _ e
    omega
/-- The document's answer is stored. -/
theorem PlayH.store {w wr : World} {b q room : Nat} {Lq Ld : List Int} {cq cc : Bool} {vc vd : Value} (h : PlayH w wr b q room Lq cq vc cc vd Ld) (cd : Bool) :
    PlayH w (((wr.setCell ⟨b, 0, none⟩ (.int .i64 (room : Int))).setCell ⟨b, 1, none⟩ vd).setCell ⟨b, 2, none⟩ (.bool cd)) b q room Lq cq vd cd vd Ld := by
  obtain ⟨base, S, h1, h2, h3, h4, h5, h6, h7, h8⟩ := h
  have O : Off (fun k => k = b) wr (((wr.setCell ⟨b, 0, none⟩ (.int .i64 (room : Int))).setCell ⟨b, 1, none⟩ vd).setCell ⟨b, 2, none⟩ (.bool cd)) := (((Off.refl (fun k => k = b) wr).set (fun _ => rfl) _).set (fun _ => rfl) _).set (fun _ => rfl) _
  exact ⟨base, S, h1, h2.off O (fun k hk e => h6 (e ▸ hk)), h3.off O (fun g hg => (h4 g hg).2), h4, h5.set3 _ _ _, h6, h7, bs (bs (bs h8 h7 _) h7 _) h7 _⟩
theorem Cel3.setc {w : World} {b : Nat} {x y z : Value} (h : Cel3 w b x y z) (u : Value) : Cel3 (w.setCell ⟨b, 2, none⟩ u) b x y u := by
  obtain ⟨a0, a1, a2, a3, a4, a5⟩ := h
  refine ⟨?_, ?_, ?_, ?_, ?_, ?_⟩
  · rw [World.cell?_setCell_other _ _ _ _ (by simp)]; exact a0
  · rw [World.cell?_setCell_other _ _ _ _ (by simp)]; exact a1
  · exact World.cell?_setCell_same' _ _ _ (by rw [a2]; rfl)
  · rw [World.frozen?_setCell]; exact a3
  · rw [World.frozen?_setCell]; exact a4
  · rw [World.frozen?_setCell]; exact a5
theorem PlayH.shut {w wr : World} {b q room : Nat} {Lq Ld : List Int} {cq cc : Bool} {vc vd : Value} (h : PlayH w wr b q room Lq cq vc cc vd Ld) : PlayH w (wr.setCell ⟨b, 2, none⟩ (.bool true)) b q room Lq cq vc true vd Ld := by
  obtain ⟨base, S, h1, h2, h3, h4, h5, h6, h7, h8⟩ := h
  have O := Off.of_grown (grown_set wr b 2 (.bool true))
  exact ⟨base, S, h1, h2.off O (fun k hk e => h6 (e ▸ hk)), h3.off O (fun g hg => (h4 g hg).2), h4, h5.setc _, h6, h7, bs h8 h7 _⟩
/-- The queue's own deeds. -/
theorem PlayH.step {w wr w' : World} {b q room base : Nat} {S S' : Nat → Prop} {Ld L' : List Int} {c' cc : Bool} {vc vd : Value} (h1 : w.heap.size ≤ base) (hlo : ∀ k, S k → base ≤ k) (h3 : OwnO .i64 wr w.heap.size vd Ld) (h4 : ∀ g, vd.ownBlock = some g → ¬ S g ∧ g ≠ b) (h5 : Cel3 wr b (.int .i64 (room : Int)) vc (.bool cc)) (h6 : ¬ S b) (h7 : w.heap.size ≤ b) (h8 : Below w.heap.size w wr)
    (R : QueueAt w' base q S' room L' c') (O : Off S wr w') (hS : ∀ k, S' k → S k ∨ wr.heap.size ≤ k) : PlayH w w' b q room L' c' vc cc vd Ld := by
  have hbl := cell_ltL h5.1
  refine ⟨base, S', h1, R, h3.off O (fun g hg => (h4 g hg).1), fun g hg => ⟨fun e => ?_, (h4 g hg).2⟩, ?_, fun e => ?_, h7, Off.after h8 O h8.size (fun k hk => Nat.le_trans h1 (hlo k hk))⟩
  · rcases hS g e with e | e
    · exact (h4 g hg).1 e
    · have := (h3.fresh g hg).2
      omega
  · obtain ⟨a0, a1, a2, a3, a4, a5⟩ := h5
    exact ⟨O.cell h6 a0, O.cell h6 a1, O.cell h6 a2, (O.frozen h6 hbl).trans a3, (O.frozen h6 hbl).trans a4, (O.frozen h6 hbl).trans a5⟩
  · rcases hS b e with e | e
    · exact h6 e
    · omega
theorem playh_send {w wr : World} {b q room : Nat} {Lq Ld : List Int} {cq cc : Bool} {vc vd : Value} {x : Int} (h : PlayH w wr b q room Lq cq vc cc vd Ld) :
    Calls Try.prog 10 #[.pointer (some ⟨q, 0, none⟩), .int .i64 x] wr fun e w' => e = .returned (.int .i64 (sendC room Lq cq)) ∧ PlayH w w' b q room (sendL room Lq cq x) cq vc cc vd Ld := by
  obtain ⟨base, S, h1, h2, h3, h4, h5, h6, h7, h8⟩ := h
  refine (qsend_any h2).mono ?_
  rintro e w' ⟨rfl, S', R, O, hS, _⟩
  exact ⟨rfl, PlayH.step h1 h2.lo h3 h4 h5 h6 h7 h8 R O hS⟩
theorem playh_rec {w wr : World} {b q room : Nat} {Lq Ld : List Int} {cq cc : Bool} {vc vd : Value} (h : PlayH w wr b q room Lq cq vc cc vd Ld) :
    Calls Try.prog 12 #[.pointer (some ⟨q, 0, none⟩)] wr fun e w' => e = .returned (.tuple #[.int .i64 (Lq.headD 0), .int .i64 (recC Lq cq)]) ∧ PlayH w w' b q room Lq.tail cq vc cc vd Ld := by
  obtain ⟨base, S, h1, h2, h3, h4, h5, h6, h7, h8⟩ := h
  refine (qrec_any h2).mono ?_
  rintro e w' ⟨rfl, R, O⟩
  exact ⟨rfl, PlayH.step h1 h2.lo h3 h4 h5 h6 h7 h8 R O (fun k hk => Or.inl hk)⟩
theorem playh_close {w wr : World} {b q room : Nat} {Lq Ld : List Int} {cq cc : Bool} {vc vd : Value} (h : PlayH w wr b q room Lq cq vc cc vd Ld) :
    Calls Try.prog 17 #[.pointer (some ⟨q, 0, none⟩)] wr fun e w' => e = .returned (.bool (!cq)) ∧ PlayH w w' b q room Lq true vc cc vd Ld := by
  obtain ⟨base, S, h1, h2, h3, h4, h5, h6, h7, h8⟩ := h
  refine (qclose_any h2).mono ?_
  rintro e w' ⟨rfl, R, O⟩
  exact ⟨rfl, PlayH.step h1 h2.lo h3 h4 h5 h6 h7 h8 R O (fun k hk => Or.inl hk)⟩
/-- The document's. -/
theorem near_apart {wr : World} {b : Nat} {S : Nat → Prop} {vd v' : Value} (h4 : ∀ g, vd.ownBlock = some g → ¬ S g ∧ g ≠ b) (hn : Near18 wr vd v') (hS : ∀ k, S k → k < wr.heap.size) (hb : b < wr.heap.size) : ∀ g, v'.ownBlock = some g → ¬ S g ∧ g ≠ b := by
  intro g hg
  rcases hn g hg with e | e
  · exact h4 g e
  · exact ⟨fun q => by have := hS g q; omega, by omega⟩
theorem playh_dsend {w wr : World} {b q room n cap : Nat} {ad : Option Addr} {Lq Ld : List Int} {cq cc cl : Bool} {vc : Value} {x : Int} (hn : Ld.length = n) (hl : n ≤ 4096) (h : PlayH w wr b q room Lq cq vc cc (.slice ad n cap) Ld) :
    Calls Try.prog 18 #[.agg #[.int .i64 (room : Int), .slice ad n cap, .bool cl], .int .i64 x] wr fun e w' => ∃ ad' n' cap', e = .returned (.tuple #[.agg #[.int .i64 (room : Int), .slice ad' n' cap', .bool cl], .int .i64 (sendC room Ld cl)]) ∧ PlayH w w' b q room Lq cq vc cc (.slice ad' n' cap') (sendL room Ld cl x) ∧ Below wr.heap.size wr w' := by
  obtain ⟨base, S, h1, h2, h3, h4, h5, h6, h7, h8⟩ := h
  refine (dsend18_any (room := room) (cl := cl) (x := x) hn hl h8.size h3).mono ?_
  rintro e w' ⟨ad', n', cap', rfl, o, hne, hb⟩
  exact ⟨ad', n', cap', rfl, ⟨base, S, h1, h2.below hb, o, near_apart h4 hne h2.hi (cell_ltL h5.1), h5.below hb, h6, h7, bt h8 hb⟩, hb⟩
theorem playh_drec {w wr : World} {b q room n cap : Nat} {ad : Option Addr} {Lq Ld : List Int} {cq cc cl : Bool} {vc : Value} (hn : Ld.length = n) (hl : n ≤ 4096) (h : PlayH w wr b q room Lq cq vc cc (.slice ad n cap) Ld) :
    Calls Try.prog 16 #[.agg #[.int .i64 (room : Int), .slice ad n cap, .bool cl]] wr fun e w' => ∃ ad' cap', e = .returned (.tuple #[.agg #[.int .i64 (room : Int), .slice ad' (n - 1) cap', .bool cl], .int .i64 (Ld.headD 0), .int .i64 (recC Ld cl)]) ∧ PlayH w w' b q room Lq cq vc cc (.slice ad' (n - 1) cap') Ld.tail ∧ Below wr.heap.size wr w' := by
  obtain ⟨base, S, h1, h2, h3, h4, h5, h6, h7, h8⟩ := h
  refine (drec18_any (room := room) (cl := cl) hn hl h3).mono ?_
  rintro e w' ⟨ad', cap', rfl, o, hne, hb⟩
  exact ⟨ad', cap', rfl, ⟨base, S, h1, h2.below hb, o, near_apart h4 hne h2.hi (cell_ltL h5.1), h5.below hb, h6, h7, bt h8 hb⟩, hb⟩
end Go.Proofs.Ytfecalpfjafecaa
