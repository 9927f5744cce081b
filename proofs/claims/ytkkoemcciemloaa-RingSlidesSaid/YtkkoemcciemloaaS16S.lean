/- The document's Put. -/
import Derived.Test.YtkkoemcciemloaaS16R
namespace Go.Proofs.Ytkkoemcciemloaa
open Go.RowKit


theorem new_row2 (w : World) (x : Int) (v : Value) (t : TypeId) : ∀ j u, [Value.int .i64 x, v][j]? = some u → (w.alloc (.cells #[.int .i64 x, v] t)).cell? ((⟨w.heap.size, 0, none⟩ : Addr).add j) = some u := by
  intro j u h
  match j, h with
  | 0, h => simp at h; subst h; simp [Addr.add]
  | 1, h => simp at h; subst h; simp [Addr.add]
theorem cel_two {w W : World} {x y z p q s : Value} {T T' : TypeId} (b : Below ((w.alloc (.cells #[x, y, z] T)).alloc (.cells #[p, q, s] T')).heap.size ((w.alloc (.cells #[x, y, z] T)).alloc (.cells #[p, q, s] T')) W) : Cel3 W w.heap.size x y z ∧ Cel3 W (w.heap.size + 1) p q s := by
  have hs : (w.alloc (.cells #[x, y, z] T)).heap.size = w.heap.size + 1 := by simp
  have a1 : Cel3 (w.alloc (.cells #[x, y, z] T)) w.heap.size x y z := by refine ⟨?_, ?_, ?_, ?_, ?_, ?_⟩ <;> simp
  have a2 : Cel3 ((w.alloc (.cells #[x, y, z] T)).alloc (.cells #[p, q, s] T')) (w.alloc (.cells #[x, y, z] T)).heap.size p q s := by refine ⟨?_, ?_, ?_, ?_, ?_, ?_⟩ <;> simp
  rw [hs] at a2
  exact ⟨(a1.alloc _).below b, a2.below b⟩
theorem infoRow : (Try.prog.info? 61).map (fun i => (i.zero, i.size, i.bytes)) = some (some (.agg #[.int .i64 0, .slice none 0 0]), 2, 32) := by kernel_rfl
theorem infoI64R : (Try.prog.info? 2).map (fun i => (i.zero, i.size, i.bytes)) = some (some (.int .i64 0), 1, 8) := by kernel_rfl
/-- The state of the document's Put within its loop. -/
structure PutS (w : World) (x y z : Value) (B : Nat → Prop) (wr : World) (v : Value) (K : List (Int × List Int)) : Prop where
  rows : DocB wr (w.heap.size + 2) B v K
  box : Cel3 wr w.heap.size x y z
  res : Cel3 wr (w.heap.size + 1) (.int .i64 0) (.int .i64 0) (.slice none 0 0)
  bel : Below w.heap.size w wr
theorem PutS.below {w wr w' : World} {x y z : Value} {B : Nat → Prop} {v : Value} {K : List (Int × List Int)} (h : PutS w x y z B wr v K) (hb : Below wr.heap.size wr w') : PutS w x y z B w' v K := ⟨h.rows.below hb, h.box.below hb, h.res.below hb, bt h.bel hb⟩
/-- A row is appended. -/
theorem puts_append {w wc : World} {x y z : Value} {B : Nat → Prop} {v : Value} {K : List (Int × List Int)} {ops : Array Oper} {rest : List Oper} {o : Oper} {a : Act} {Q : Exit → Act → World → Prop} {i : Int} {ad : Option Addr} {m cap : Nat} {xs : List Int} {s e : Operand} {H : Nat}
    (h : PutS w x y z B wc v K) (hg : o.guard = none) (hop : o.op = Op.call { callee := Callee.builtin Builtin.append, args := #[s, e], argTypes := #[36, 36] }) (hs : a.eval s = v) (hH : wc.heap.size = H) (he : a.eval e = .slice (some ⟨H, 0, none⟩) 1 1)
    (ou : OwnI .i64 2 wc 0 (.slice ad m cap) xs) (uB : ∀ g, (Value.slice ad m cap).ownBlock = some g → B g) (hK : K.length ≤ 131072)
    (cont : ∀ v' w', PutS w x y z B w' v' (K ++ [(i, xs)]) → wc.grownBy w' v.ownBlock → wpList Try.prog ops Q rest (a.put o.dst v') w') : wpList Try.prog ops Q (o :: rest) a (wc.alloc (.cells #[.int .i64 i, .slice ad m cap] 61)) := by
  subst hH
  obtain ⟨i0, hi, hz0, hz1, hz2⟩ := info_parts infoRow
  obtain ⟨us, hu, hown, hin⟩ := h.rows
  have hb0 : w.heap.size + 2 ≤ wc.heap.size := by
    have := cell_ltL h.res.1
    omega
  refine wpList_append_own _ hg s e 36 hop (w.heap.size + 2) 61 i0 (.agg #[.int .i64 0, .slice none 0 0]) 2 32 Try.underlying36 hi hz0 hz1 hz2 rfl (by decide) v K.length (lcells K us) hs (World.ownsRow.alloc hown _) ⟨wc.heap.size, 0, none⟩ 1 1 [.int .i64 i, .slice ad m cap] he rfl (new_row2 _ _ _ _) (fun q hq => by
    simp at hq
    rcases hq with rfl | rfl <;> rfl) (by unfold maxLen; omega) (by omega) (by simp; omega) ?_
  intro v' w' own' grow' _
  have gb : wc.grownBy w' v.ownBlock := ⟨grow'.os, grow'.tape, grow'.output, by have := grow'.size; simp at this; omega, fun k hk hne => (grow'.block k (by simp; omega) hne).trans (Below.heap_alloc _ _ _ hk)⟩
  have ne : ∀ b, b < w.heap.size + 2 → some b ≠ v.ownBlock := fun b hb e => by
    have := (World.ownsRow.lt hown b e.symm).1
    omega
  have M := doc_more (w0 := w) (x := (i, xs)) h.bel (by omega) hu hown hin ou uB own' grow'
  exact cont v' w' ⟨M.1, h.box.grown gb (ne _ (by omega)), h.res.grown gb (ne _ (by omega)), M.2⟩ gb
/-- 'append([]int64{}, l...)'. -/
theorem lit_append {wc : World} {ops : Array Oper} {rest : List Oper} {o : Oper} {a : Act} {Q : Exit → Act → World → Prop} {s e : Operand} {H : Nat} {xs : List Int} {n cap : Nat} {ad : Option Addr}
    (hg : o.guard = none) (hop : o.op = Op.call { callee := Callee.builtin Builtin.append, args := #[s, e], argTypes := #[26, 26] }) (hH : wc.heap.size = H) (hs : a.eval s = .slice (some ⟨H, 0, none⟩) 0 0) (he : a.eval e = .slice ad n cap) (hn : xs.length = n) (hl : n ≤ 1048576) (hz : ad = none → cap = 0) (hr : RowAt .i64 wc ad xs)
    (cont : ∀ ad3 cap3 w', OwnI .i64 2 w' wc.heap.size (.slice ad3 n cap3) xs → Below wc.heap.size wc w' → wpList Try.prog ops Q rest (a.put o.dst (.slice ad3 n cap3)) w') : wpList Try.prog ops Q (o :: rest) a (wc.alloc (.cells #[] 2)) := by
  subst hH
  obtain ⟨i0, hi, hz0, hz1, hz2⟩ := info_parts infoI64R
  refine wpList_append_row .i64 _ hg s e 26 hop wc.heap.size 2 i0 (.int .i64 0) 8 Try.underlying26 hi hz0 hz1 hz2 rfl (.slice (some ⟨wc.heap.size, 0, none⟩) 0 0) [] hs (own_lit0 _ _ _ _ (Nat.le_refl _)) ad n cap xs he hn (hr.below (below1 _ _)) hz (by simp; unfold maxLen; omega) (by simp; omega) (by simp) ?_
  intro v1 w2 own2 grow2 _
  rw [List.nil_append] at own2
  obtain ⟨ad3, cap3, rfl, _⟩ := own2.formn hn
  exact cont ad3 cap3 w2 own2 (grown_lit (Below.refl _ _) grow2)
theorem vo_ne {wr : World} {base : Nat} {B : Nat → Prop} {v : Value} {K : List (Int × List Int)} (h : DocB wr base B v K) : some wr.heap.size ≠ v.ownBlock := fun e => by
  obtain ⟨us, _, hown, _⟩ := h
  have := (World.ownsRow.lt hown _ e.symm).2
  omega
theorem ownI_from {k : IntKind} {T : TypeId} {w : World} {base : Nat} {v : Value} {xs : List Int} (h : OwnI k T w base v xs) : ∀ g, v.ownBlock = some g → base ≤ g := own_fresh h
theorem puts_fin {w wr W : World} {x y z : Value} {B : Nat → Prop} {v : Value} {K : List (Int × List Int)} (h : PutS w x y z (fun g => B g ∧ g ≠ w.heap.size ∧ g ≠ w.heap.size + 1) wr v K) (hB : ∀ g, w.heap.size ≤ g → B g) (ho : Off (fun k => k = w.heap.size ∨ k = w.heap.size + 1) wr W) : DocAt W B v K ∧ Below w.heap.size w W := by
  have hv : ∀ g, v.ownBlock = some g → w.heap.size + 2 ≤ g := by
    obtain ⟨us, _, hown, _⟩ := h.rows
    exact fun g hg => (World.ownsRow.lt hown g hg).1
  have D : DocAt W (fun g => B g ∧ g ≠ w.heap.size ∧ g ≠ w.heap.size + 1) v K := by
    refine ⟨(h.rows.off ho (fun g hg e => ?_) (fun g _ hb e => ?_)).mono (Nat.zero_le _), fun g hg => ⟨hB g ?_, ?_, ?_⟩⟩
    · have := hv g hg
      omega
    · rcases e with e | e
      · exact hb.2.1 e
      · exact hb.2.2 e
    all_goals
      have := hv g hg
      omega
  exact ⟨D.turn (fun g _ hb => hb.1), Off.after h.bel ho h.bel.size (fun k hk => by omega)⟩
theorem vo_apart {wr : World} {base : Nat} {B : Nat → Prop} {vo u : Value} {K : List (Int × List Int)} {ys : List Int} (h : DocB wr base B vo K) (ou : OwnI .i64 2 wr 0 u ys) : Apart u vo := by
  obtain ⟨us, _, hown, _⟩ := h
  exact own_apart (by decide) ou hown
theorem grown_trans2 {a b c : World} {row : Option Nat} (h : Below a.heap.size a b) (k : b.grownBy c row) : a.grownBy c row := ⟨k.os.trans h.os, k.tape.trans h.tape, k.output.trans h.output, Nat.le_trans h.size k.size, fun i hi hne => (k.block i (Nat.lt_of_lt_of_le hi h.size) hne).trans (h.block i hi)⟩
end Go.Proofs.Ytkkoemcciemloaa
