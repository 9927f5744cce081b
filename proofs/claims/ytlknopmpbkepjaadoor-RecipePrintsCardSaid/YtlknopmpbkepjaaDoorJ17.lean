/- Parts, joined. -/
import Derived.Test.YtlknopmpbkepjaaDoorJ15
/- Operations as texts: the document's One. -/
namespace Go.Proofs.YtlknopmpbkepjaaDoor
open Go.RowKit


/-- Which sign a text begins with; below 0: none; what stands behind it. -/
def SgnIs (s : List Int) (k : Int) (r : List Int) : Prop := (k = -1 ∧ r = s ∧ ∀ i, 0 ≤ i ∧ i ≤ 3 → ∀ c, s ≠ sgnB i ++ c) ∨ ((0 ≤ k ∧ k ≤ 3) ∧ s = sgnB k ++ r)
theorem sgn_is (s : ByteArray) : ∃ k, ∃ r : ByteArray, SgnIs (byt s) k (byt r) ∧ r.size ≤ s.size := by
  rcases sgn_or (byt s) with ⟨k, hk, c, hc⟩ | h
  · have hy : Byts c := fun x hx => byt_in s x (by rw [hc]; exact List.mem_append.2 (.inr hx))
    refine ⟨k, txt c, .inr ⟨hk, by rw [byt_txt hy]; exact hc⟩, ?_⟩
    rw [txt_size hy, ← byt_len s, hc, List.length_append]
    omega
  · exact ⟨-1, s, .inl ⟨rfl, rfl, h⟩, Nat.le_refl _⟩
/-- Of a text that begins with a sign: this one, at this place. -/
theorem sgn_at {s r : ByteArray} {k i : Int} (h : SgnIs (byt s) k (byt r)) (hi : 0 ≤ i ∧ i ≤ 3) (hne : i ≠ k) : ¬ ((txt (sgnB i)).size ≤ s.size ∧ s.extract 0 (txt (sgnB i)).size = txt (sgnB i)) := by
  rintro ⟨h1, h2⟩
  have e := congrArg byt h2
  rw [byt_part, List.drop_zero, Nat.sub_zero, byt_txt (byts_sgn i), txt_size (byts_sgn i)] at e
  have hs : byt s = sgnB i ++ (byt s).drop (sgnB i).length := by
    conv => lhs; rw [← List.take_append_drop (sgnB i).length (byt s)]
    rw [e]
  rcases h with ⟨_, _, hn⟩ | ⟨hk, hs2⟩
  · exact hn i hi _ hs
  · exact hne (sgn_inj hi.1 hi.2 hk.1 hk.2 (hs.symm.trans hs2)).1
theorem sgn_cut {s r : ByteArray} {k : Int} (h : byt s = sgnB k ++ byt r) : (txt (sgnB k)).size ≤ s.size ∧ s.extract 0 (txt (sgnB k)).size = txt (sgnB k) ∧ s.extract (txt (sgnB k)).size s.size = r := by
  have hz := txt_size (byts_sgn k)
  refine ⟨?_, ?_, ?_⟩
  · rw [hz, ← byt_len s, h, List.length_append]; omega
  · refine byt_inj ?_
    rw [byt_part, hz, List.drop_zero, Nat.sub_zero, h, List.take_left, byt_txt (byts_sgn k)]
  · refine byt_inj ?_
    rw [byt_cut, hz, h, List.drop_left]
/-- Which border a name is; below 0: none. -/
def BordIs (s : List Int) (b : Int) : Prop := (b = -1 ∧ ∀ i, 0 ≤ i ∧ i ≤ 2 → s ≠ bordB i) ∨ ((0 ≤ b ∧ b ≤ 2) ∧ s = bordB b)
theorem bord_is (s : List Int) : ∃ b, BordIs s b := by
  rcases bord_or s with ⟨b, hb, h⟩ | h
  · exact ⟨b, .inr ⟨hb, h⟩⟩
  · exact ⟨-1, .inl ⟨rfl, h⟩⟩
theorem bord_hit {s : ByteArray} {b i : Int} (h : BordIs (byt s) b) (hi : 0 ≤ i ∧ i ≤ 2) : (txt (bordB i) = s ↔ i = b) := by
  constructor
  · intro e
    have e2 : byt s = bordB i := by rw [← e, byt_txt (byts_bord i)]
    rcases h with ⟨_, hn⟩ | ⟨hb, hs⟩
    · exact absurd e2 (hn i hi)
    · exact bord_inj hi.1 hi.2 hb.1 hb.2 (e2.symm.trans hs)
  · rintro rfl
    rcases h with ⟨hb, _⟩ | ⟨_, hs⟩
    · omega
    · rw [← hs, txt_byt]
def FiltIs (s : List Int) (b : Int) : Prop := (b = -1 ∧ ∀ i, 0 ≤ i ∧ i ≤ 2 → s ≠ filtB i) ∨ ((0 ≤ b ∧ b ≤ 2) ∧ s = filtB b)
theorem filt_is (s : List Int) : ∃ b, FiltIs s b := by
  rcases filt_or s with ⟨b, hb, h⟩ | h
  · exact ⟨b, .inr ⟨hb, h⟩⟩
  · exact ⟨-1, .inl ⟨rfl, h⟩⟩
theorem filt_hit {s : ByteArray} {b i : Int} (h : FiltIs (byt s) b) (hi : 0 ≤ i ∧ i ≤ 2) : (txt (filtB i) = s ↔ i = b) := by
  constructor
  · intro e
    have e2 : byt s = filtB i := by rw [← e, byt_txt (byts_filt i)]
    rcases h with ⟨_, hn⟩ | ⟨hb, hs⟩
    · exact absurd e2 (hn i hi)
    · exact filt_inj hi.1 hi.2 hb.1 hb.2 (e2.symm.trans hs)
  · rintro rfl
    rcases h with ⟨hb, _⟩ | ⟨_, hs⟩
    · omega
    · rw [← hs, txt_byt]
/-- What lies in memory when a word's sign and border are known: the answer's block, an empty one, the operation's. -/
def OneSt (w wx : World) (k b : Int) : Prop :=
  (P9 wx w.heap.size 0 0 0 0 (.slice none 0 0) (.slice none 0 0) 0 0 0 ∧ F9 wx w.heap.size) ∧ P9 wx (w.heap.size + 1) 0 0 0 0 (.slice none 0 0) (.slice none 0 0) 0 0 0 ∧ (P9 wx (w.heap.size + 1 + 1) k b 0 0 (.slice none 0 0) (.slice none 0 0) 0 0 0 ∧ F9 wx (w.heap.size + 1 + 1)) ∧ Below w.heap.size w wx
theorem OneSt.below {w wx w' : World} {k b : Int} (h : OneSt w wx k b) (hb : Below wx.heap.size wx w') : OneSt w w' k b := ⟨⟨h.1.1.below hb, h.1.2.below hb⟩, h.2.1.below hb, ⟨h.2.2.1.1.below hb, h.2.2.1.2.below hb⟩, bt h.2.2.2 hb⟩
theorem p9_set0 {w : World} {b : Nat} {k d s r : Int} {x y : Value} {f a h : Int} (p : P9 w b k d s r x y f a h) (k' : Int) : P9 (w.setCell ⟨b, 0, none⟩ (.int .i64 k')) b k' d s r x y f a h := by
  obtain ⟨p0, p1, p2, p3, p4, p5, p6, p7, p8⟩ := p
  have o := fun (i : Nat) (hi : 0 ≠ i) => World.cell?_setCell_other w ⟨b, 0, none⟩ ⟨b, i, none⟩ (.int .i64 k') (by intro e; simp only [Addr.mk.injEq] at e; omega)
  exact ⟨World.cell?_setCell_same' _ _ _ (by rw [p0]; rfl), (o 1 (by omega)).trans p1, (o 2 (by omega)).trans p2, (o 3 (by omega)).trans p3, (o 4 (by omega)).trans p4, (o 5 (by omega)).trans p5, (o 6 (by omega)).trans p6, (o 7 (by omega)).trans p7, (o 8 (by omega)).trans p8⟩
theorem p9_set1 {w : World} {b : Nat} {k d s r : Int} {x y : Value} {f a h : Int} (p : P9 w b k d s r x y f a h) (d' : Int) : P9 (w.setCell ⟨b, 1, none⟩ (.int .i64 d')) b k d' s r x y f a h := by
  obtain ⟨p0, p1, p2, p3, p4, p5, p6, p7, p8⟩ := p
  have o := fun (i : Nat) (hi : 1 ≠ i) => World.cell?_setCell_other w ⟨b, 1, none⟩ ⟨b, i, none⟩ (.int .i64 d') (by intro e; simp only [Addr.mk.injEq] at e; omega)
  exact ⟨(o 0 (by omega)).trans p0, World.cell?_setCell_same' _ _ _ (by rw [p1]; rfl), (o 2 (by omega)).trans p2, (o 3 (by omega)).trans p3, (o 4 (by omega)).trans p4, (o 5 (by omega)).trans p5, (o 6 (by omega)).trans p6, (o 7 (by omega)).trans p7, (o 8 (by omega)).trans p8⟩
theorem p9_set4 {w : World} {b : Nat} {k d s r : Int} {x y : Value} {f a h : Int} (p : P9 w b k d s r x y f a h) (x' : Value) : P9 (w.setCell ⟨b, 4, none⟩ x') b k d s r x' y f a h := by
  obtain ⟨p0, p1, p2, p3, p4, p5, p6, p7, p8⟩ := p
  have o := fun (i : Nat) (hi : 4 ≠ i) => World.cell?_setCell_other w ⟨b, 4, none⟩ ⟨b, i, none⟩ x' (by intro e; simp only [Addr.mk.injEq] at e; omega)
  exact ⟨(o 0 (by omega)).trans p0, (o 1 (by omega)).trans p1, (o 2 (by omega)).trans p2, (o 3 (by omega)).trans p3, World.cell?_setCell_same' _ _ _ (by rw [p4]; rfl), (o 5 (by omega)).trans p5, (o 6 (by omega)).trans p6, (o 7 (by omega)).trans p7, (o 8 (by omega)).trans p8⟩
theorem p9_apart {w : World} {b c i : Nat} {k d s r : Int} {x y u : Value} {f a h : Int} (p : P9 w b k d s r x y f a h) (hne : c ≠ b) : P9 (w.setCell ⟨c, i, none⟩ u) b k d s r x y f a h := by
  obtain ⟨p0, p1, p2, p3, p4, p5, p6, p7, p8⟩ := p
  have o := fun (j : Nat) => World.cell?_setCell_other w ⟨c, i, none⟩ ⟨b, j, none⟩ u (by intro e; simp only [Addr.mk.injEq] at e; omega)
  exact ⟨(o 0).trans p0, (o 1).trans p1, (o 2).trans p2, (o 3).trans p3, (o 4).trans p4, (o 5).trans p5, (o 6).trans p6, (o 7).trans p7, (o 8).trans p8⟩
theorem f9_set {w : World} {b : Nat} (h : F9 w b) (c : Addr) (u : Value) : F9 (w.setCell c u) b := by
  obtain ⟨f0, f1, f2, f3, f4, f5, f6, f7, f8, hl⟩ := h
  exact ⟨(World.frozen?_setCell _ _ _ _).trans f0, (World.frozen?_setCell _ _ _ _).trans f1, (World.frozen?_setCell _ _ _ _).trans f2, (World.frozen?_setCell _ _ _ _).trans f3, (World.frozen?_setCell _ _ _ _).trans f4, (World.frozen?_setCell _ _ _ _).trans f5, (World.frozen?_setCell _ _ _ _).trans f6, (World.frozen?_setCell _ _ _ _).trans f7, (World.frozen?_setCell _ _ _ _).trans f8, by simpa [World.setCell] using hl⟩
theorem OneSt.kind {w wx : World} {k b : Int} (h : OneSt w wx k b) (k' : Int) : OneSt w (wx.setCell ⟨w.heap.size + 1 + 1, 0, none⟩ (.int .i64 k')) k' b :=
  ⟨⟨p9_apart h.1.1 (by omega), f9_set h.1.2 _ _⟩, p9_apart h.2.1 (by omega), ⟨p9_set0 h.2.2.1.1 k', f9_set h.2.2.1.2 _ _⟩, h.2.2.2.setCell (p := ⟨w.heap.size + 1 + 1, 0, none⟩) (by show w.heap.size ≤ w.heap.size + 1 + 1; omega) _⟩
theorem OneSt.bord {w wx : World} {k b : Int} (h : OneSt w wx k b) (b' : Int) : OneSt w (wx.setCell ⟨w.heap.size + 1 + 1, 1, none⟩ (.int .i64 b')) k b' :=
  ⟨⟨p9_apart h.1.1 (by omega), f9_set h.1.2 _ _⟩, p9_apart h.2.1 (by omega), ⟨p9_set1 h.2.2.1.1 b', f9_set h.2.2.1.2 _ _⟩, h.2.2.2.setCell (p := ⟨w.heap.size + 1 + 1, 1, none⟩) (by show w.heap.size ≤ w.heap.size + 1 + 1; omega) _⟩
theorem p9_set6 {w : World} {b : Nat} {k d s r : Int} {x y : Value} {f a h : Int} (p : P9 w b k d s r x y f a h) (f' : Int) : P9 (w.setCell ⟨b, 6, none⟩ (.int .i64 f')) b k d s r x y f' a h := by
  obtain ⟨p0, p1, p2, p3, p4, p5, p6, p7, p8⟩ := p
  have o := fun (i : Nat) (hi : 6 ≠ i) => World.cell?_setCell_other w ⟨b, 6, none⟩ ⟨b, i, none⟩ (.int .i64 f') (by intro e; simp only [Addr.mk.injEq] at e; omega)
  exact ⟨(o 0 (by omega)).trans p0, (o 1 (by omega)).trans p1, (o 2 (by omega)).trans p2, (o 3 (by omega)).trans p3, (o 4 (by omega)).trans p4, (o 5 (by omega)).trans p5, World.cell?_setCell_same' _ _ _ (by rw [p6]; rfl), (o 7 (by omega)).trans p7, (o 8 (by omega)).trans p8⟩
theorem p9_set7 {w : World} {b : Nat} {k d s r : Int} {x y : Value} {f a h : Int} (p : P9 w b k d s r x y f a h) (a' : Int) : P9 (w.setCell ⟨b, 7, none⟩ (.int .i64 a')) b k d s r x y f a' h := by
  obtain ⟨p0, p1, p2, p3, p4, p5, p6, p7, p8⟩ := p
  have o := fun (i : Nat) (hi : 7 ≠ i) => World.cell?_setCell_other w ⟨b, 7, none⟩ ⟨b, i, none⟩ (.int .i64 a') (by intro e; simp only [Addr.mk.injEq] at e; omega)
  exact ⟨(o 0 (by omega)).trans p0, (o 1 (by omega)).trans p1, (o 2 (by omega)).trans p2, (o 3 (by omega)).trans p3, (o 4 (by omega)).trans p4, (o 5 (by omega)).trans p5, (o 6 (by omega)).trans p6, World.cell?_setCell_same' _ _ _ (by rw [p7]; rfl), (o 8 (by omega)).trans p8⟩
theorem p9_set8 {w : World} {b : Nat} {k d s r : Int} {x y : Value} {f a h : Int} (p : P9 w b k d s r x y f a h) (h' : Int) : P9 (w.setCell ⟨b, 8, none⟩ (.int .i64 h')) b k d s r x y f a h' := by
  obtain ⟨p0, p1, p2, p3, p4, p5, p6, p7, p8⟩ := p
  have o := fun (i : Nat) (hi : 8 ≠ i) => World.cell?_setCell_other w ⟨b, 8, none⟩ ⟨b, i, none⟩ (.int .i64 h') (by intro e; simp only [Addr.mk.injEq] at e; omega)
  exact ⟨(o 0 (by omega)).trans p0, (o 1 (by omega)).trans p1, (o 2 (by omega)).trans p2, (o 3 (by omega)).trans p3, (o 4 (by omega)).trans p4, (o 5 (by omega)).trans p5, (o 6 (by omega)).trans p6, (o 7 (by omega)).trans p7, World.cell?_setCell_same' _ _ _ (by rw [p8]; rfl)⟩
/-- As above, with a filter and sides. -/
def OneS3 (w wx : World) (b fl wd ht : Int) : Prop :=
  (P9 wx w.heap.size 0 0 0 0 (.slice none 0 0) (.slice none 0 0) 0 0 0 ∧ F9 wx w.heap.size) ∧ (P9 wx (w.heap.size + 1 + 1) 3 b 0 0 (.slice none 0 0) (.slice none 0 0) fl wd ht ∧ F9 wx (w.heap.size + 1 + 1)) ∧ Below w.heap.size w wx
theorem OneS3.below {w wx w' : World} {b fl wd ht : Int} (h : OneS3 w wx b fl wd ht) (hb : Below wx.heap.size wx w') : OneS3 w w' b fl wd ht := ⟨⟨h.1.1.below hb, h.1.2.below hb⟩, ⟨h.2.1.1.below hb, h.2.1.2.below hb⟩, bt h.2.2 hb⟩
theorem OneS3.filt {w wx : World} {b fl wd ht : Int} (h : OneS3 w wx b fl wd ht) (fl' : Int) : OneS3 w (wx.setCell ⟨w.heap.size + 1 + 1, 6, none⟩ (.int .i64 fl')) b fl' wd ht :=
  ⟨⟨p9_apart h.1.1 (by omega), f9_set h.1.2 _ _⟩, ⟨p9_set6 h.2.1.1 fl', f9_set h.2.1.2 _ _⟩, h.2.2.setCell (p := ⟨w.heap.size + 1 + 1, 6, none⟩) (by show w.heap.size ≤ w.heap.size + 1 + 1; omega) _⟩
theorem OneSt.sides {w wx : World} {b : Int} (h : OneSt w wx 3 b) (wd ht fl : Int) : OneS3 w (((wx.setCell ⟨w.heap.size + 1 + 1, 7, none⟩ (.int .i64 wd)).setCell ⟨w.heap.size + 1 + 1, 8, none⟩ (.int .i64 ht)).setCell ⟨w.heap.size + 1 + 1, 6, none⟩ (.int .i64 fl)) b fl wd ht :=
  have hc : w.heap.size ≤ w.heap.size + 1 + 1 := by omega
  ⟨⟨p9_apart (p9_apart (p9_apart h.1.1 (by omega)) (by omega)) (by omega), f9_set (f9_set (f9_set h.1.2 _ _) _ _) _ _⟩, ⟨p9_set6 (p9_set8 (p9_set7 h.2.2.1.1 wd) ht) fl, f9_set (f9_set (f9_set h.2.2.1.2 _ _) _ _) _ _⟩, ((h.2.2.2.setCell (p := ⟨w.heap.size + 1 + 1, 7, none⟩) hc _).setCell (p := ⟨w.heap.size + 1 + 1, 8, none⟩) hc _).setCell (p := ⟨w.heap.size + 1 + 1, 6, none⟩) hc _⟩
end Go.Proofs.YtlknopmpbkepjaaDoor
