/- Parts, joined. -/
import Derived.Test.YtclgghhpiljgfaaGreatDoorJ21
import Derived.Test.YtclgghhpiljgfaaGreatDoorJ15
import Derived.Test.YtclgghhpiljgfaaGreatDoorJ18
import Derived.Test.YtclgghhpiljgfaaGreatDoorJ02
import Derived.Test.YtclgghhpiljgfaaGreatDoorJ01
import Derived.Deep.Slices
import Derived.Deep.Fields
import Derived.ChangeSame
import Derived.OpenShut
/- Operations: their codes, their tables, the sizes that they lead to; one behind the other. Plain; no number of the program stands in it. -/
namespace Go.Proofs.YtclgghhpiljgfaaGreatDoor
open Go.RowKit


/-- An operation. -/
structure Opr where
  kd : Int
  bd : Int
  sg : Int
  rd : Int
  xs : List Int
  ys : List Int
  fl : Int
  wd : Int
  ht : Int
/-- What its kind's weights tell. -/
def wCode (o : Opr) : Int := if o.kd = 0 then gauCode o.sg else if o.kd = 1 then blurCode o.rd else if userCode o.xs ≠ 0 then userCode o.xs else userCode o.ys
def wX (o : Opr) : List Int := if o.kd = 0 then gauOut o.sg else if o.kd = 1 then blurOut o.rd else userOut o.xs
def wY (o : Opr) : List Int := if o.kd = 0 then gauOut o.sg else if o.kd = 1 then blurOut o.rd else userOut o.ys
/-- May it be, of such sizes? -/
def okO (o : Opr) (w h : Int) : Bool := decide (0 ≤ o.kd) && decide (o.kd ≤ 3) && decide (0 ≤ o.bd) && decide (o.bd ≤ 2) && sideB w && sideB h && (decide (o.kd ≠ 3) || (sideB o.wd && sideB o.ht && decide (0 ≤ o.fl) && decide (o.fl ≤ 2)))
theorem okO_iff (o : Opr) (w h : Int) : okO o w h = true ↔ (0 ≤ o.kd ∧ o.kd ≤ 3) ∧ (0 ≤ o.bd ∧ o.bd ≤ 2) ∧ (1 ≤ w ∧ w ≤ 65536) ∧ (1 ≤ h ∧ h ≤ 65536) ∧ (o.kd = 3 → (1 ≤ o.wd ∧ o.wd ≤ 65536) ∧ (1 ≤ o.ht ∧ o.ht ≤ 65536) ∧ 0 ≤ o.fl ∧ o.fl ≤ 2) := by
  unfold okO
  simp only [Bool.and_eq_true, Bool.or_eq_true, decide_eq_true_eq, sideB_iff]
  constructor
  · rintro ⟨⟨⟨⟨⟨⟨a, b⟩, c⟩, d⟩, e⟩, f⟩, g⟩
    refine ⟨⟨a, b⟩, ⟨c, d⟩, e, f, fun h3 => ?_⟩
    rcases g with g | ⟨⟨⟨g1, g2⟩, g3⟩, g4⟩
    · exact absurd h3 g
    · exact ⟨g1, g2, g3, g4⟩
  · rintro ⟨⟨a, b⟩, ⟨c, d⟩, e, f, g⟩
    refine ⟨⟨⟨⟨⟨⟨a, b⟩, c⟩, d⟩, e⟩, f⟩, ?_⟩
    by_cases h3 : o.kd = 3
    · obtain ⟨g1, g2, g3, g4⟩ := g h3
      exact .inr ⟨⟨⟨g1, g2⟩, g3⟩, g4⟩
    · exact .inl h3
def xCode (o : Opr) (w : Int) : Int := if o.kd = 3 then resCode o.fl w o.wd else filCode (wX o) w
def yCode (o : Opr) (h : Int) : Int := if o.kd = 3 then resCode o.fl h o.ht else filCode (wY o) h
def xLines (o : Opr) (w : Int) : List (Int × List Int) := if o.kd = 3 then linesTo o.fl w o.wd o.wd.toNat else filTo (wX o) w.toNat
def yLines (o : Opr) (h : Int) : List (Int × List Int) := if o.kd = 3 then linesTo o.fl h o.ht o.ht.toNat else filTo (wY o) h.toNat
/-- What is wrong first. -/
def opCode (o : Opr) (w h : Int) : Int := if okO o w h = false then 6 else if o.kd ≠ 3 ∧ wCode o ≠ 0 then wCode o else if xCode o w ≠ 0 then xCode o w else yCode o h
/-- The sizes that it leads to. -/
def toW (o : Opr) (w : Int) : Int := if o.kd = 3 then o.wd else w
def toH (o : Opr) (h : Int) : Int := if o.kd = 3 then o.ht else h
/-- What an operation does: lines both ways, what they are from, the border. -/
structure Stg where
  lx : List (Int × List Int)
  ly : List (Int × List Int)
  fx : Int
  fy : Int
  sb : Int
def stgOf (o : Opr) (w h : Int) : Stg := ⟨xLines o w, yLines o h, w, h, o.bd⟩
def op0 : Opr := ⟨0, 0, 0, 0, [], [], 0, 0, 0⟩
def opAt (L : List Opr) (j : Nat) : Opr := L.getD j op0
/-- The sizes ahead of the k-th operation. -/
def whAt (L : List Opr) (w h : Int) : Nat → Int × Int
  | 0 => (w, h)
  | k + 1 => (toW (opAt L k) (whAt L w h k).1, toH (opAt L k) (whAt L w h k).2)
def stepCode (L : List Opr) (w h c : Int) (k : Nat) : Int :=
  if opCode (opAt L k) (whAt L w h k).1 (whAt L w h k).2 ≠ 0 then opCode (opAt L k) (whAt L w h k).1 (whAt L w h k).2 else if fitsF (whAt L w h (k + 1)).1 (whAt L w h (k + 1)).2 c = true then 0 else 5
def firstA (L : List Opr) (w h c : Int) : Nat → Int
  | 0 => 0
  | k + 1 => if firstA L w h c k ≠ 0 then firstA L w h c k else stepCode L w h c k
def allCode (L : List Opr) (w h c : Int) : Int := if 16 < L.length then 6 else if fitsF w h c = false then 5 else firstA L w h c L.length
def stgAt (L : List Opr) (w h : Int) (k : Nat) : Stg := stgOf (opAt L k) (whAt L w h k).1 (whAt L w h k).2
theorem firstA_stays {L : List Opr} {w h c : Int} {a : Nat} (n : firstA L w h c a ≠ 0) {b : Nat} (hb : a ≤ b) : firstA L w h c b = firstA L w h c a := by
  induction b with
  | zero => rw [Nat.le_zero.1 hb]
  | succ b ih =>
    rcases Nat.lt_or_ge b a with h1 | h1
    · rw [show b + 1 = a by omega]
    · have := ih h1
      show (if firstA L w h c b ≠ 0 then firstA L w h c b else stepCode L w h c b) = _
      rw [if_pos (by rw [this]; exact n), this]
theorem firstA_step {L : List Opr} {w h c : Int} {k n : Nat} (hf : firstA L w h c k = 0) (hs : stepCode L w h c k ≠ 0) (hk : k < n) : firstA L w h c n = stepCode L w h c k := by
  have e : firstA L w h c (k + 1) = stepCode L w h c k := by
    show (if firstA L w h c k ≠ 0 then firstA L w h c k else stepCode L w h c k) = _
    rw [if_neg (by rw [hf]; decide)]
  rw [firstA_stays (a := k + 1) (by rw [e]; exact hs) (by omega), e]
theorem firstA_next {L : List Opr} {w h c : Int} {k : Nat} (hf : firstA L w h c k = 0) (hs : stepCode L w h c k = 0) : firstA L w h c (k + 1) = 0 := by
  show (if firstA L w h c k ≠ 0 then firstA L w h c k else stepCode L w h c k) = _
  rw [if_neg (by rw [hf]; decide), hs]
theorem firstA_back {L : List Opr} {w h c : Int} {n : Nat} (hf : firstA L w h c n = 0) {k : Nat} (hk : k < n) : firstA L w h c k = 0 ∧ stepCode L w h c k = 0 := by
  have a : firstA L w h c k = 0 := by
    by_cases e : firstA L w h c k = 0
    · exact e
    · have := firstA_stays e (Nat.le_of_lt hk)
      rw [hf] at this
      exact this.symm
  refine ⟨a, ?_⟩
  by_cases e : stepCode L w h c k = 0
  · exact e
  · have := firstA_step a e hk
    rw [hf] at this
    exact this.symm
theorem gauOut_len {s : Int} (h : gauCode s = 0) : (gauOut s).length % 2 = 1 ∧ (gauOut s).length ≤ 1048576 := by
  unfold gauCode at h
  unfold gauOut
  split at h
  · rename_i hs
    rw [if_pos hs]
    unfold gaussR
    rw [gaussTo_len]
    have : (radG s).toNat ≤ 192 := by unfold radG; omega
    omega
  · omega
theorem userR_len (l : List Int) : (userR l).length = l.length := by unfold userR; rw [List.length_map]
theorem userOut_lenO {l : List Int} (h : userCode l = 0) : (userOut l).length % 2 = 1 ∧ (userOut l).length ≤ 1048576 := by
  unfold userCode at h
  unfold userOut
  split at h
  · rename_i hs
    rw [if_pos hs, userR_len]
    have := (userB_iff l).1 hs
    exact ⟨this.1, by have := this.2.1; omega⟩
  · omega
theorem blurOut_len {r : Int} (h : blurCode r = 0) : (blurOut r).length % 2 = 1 ∧ (blurOut r).length ≤ 1048576 := by
  unfold blurCode at h
  unfold blurOut
  split at h
  · rename_i hs
    rw [if_pos hs, userR_len, List.length_replicate]
    omega
  · omega
/-- Weights that there are: as many as a table may have. -/
theorem wX_len {o : Opr} (h : wCode o = 0) : (wX o).length ≤ 1048576 ∧ (wY o).length ≤ 1048576 := by
  unfold wCode at h
  unfold wX wY
  by_cases h0 : o.kd = 0
  · rw [if_pos h0] at h ⊢
    rw [if_pos h0]
    exact ⟨(gauOut_len h).2, (gauOut_len h).2⟩
  rw [if_neg h0] at h ⊢
  rw [if_neg h0]
  by_cases h1 : o.kd = 1
  · rw [if_pos h1] at h ⊢
    rw [if_pos h1]
    exact ⟨(blurOut_len h).2, (blurOut_len h).2⟩
  rw [if_neg h1] at h ⊢
  rw [if_neg h1]
  by_cases h2 : userCode o.xs ≠ 0
  · rw [if_pos h2] at h; exact absurd h h2
  · rw [if_neg h2] at h
    exact ⟨(userOut_lenO (by omega)).2, (userOut_lenO h).2⟩
theorem mem_64 {l : List Int} (h : ∀ x ∈ l, -9223372036854775808 ≤ x ∧ x ≤ 9223372036854775807) : All64 l := fun j hj => by
  rw [List.getD_eq_getElem?_getD, List.getElem?_eq_getElem hj]
  exact h _ (List.getElem_mem hj)
theorem userR_64 (l : List Int) (hs : sizeH l ≠ 0) : All64 (userR l) := by
  refine mem_64 fun x hx => ?_
  obtain ⟨y, _, rfl⟩ := List.mem_map.1 hx
  rw [divF_of hs]
  exact ⟨holdI0 _, holdI1 _⟩
theorem gauOut_64 (s : Int) : All64 (gauOut s) := by
  refine mem_64 fun x hx => ?_
  unfold gauOut at hx
  split at hx
  · obtain ⟨k, _, rfl⟩ := List.mem_map.1 hx
    have := gaussF_unit ((k : Int) - radG s) s
    omega
  · cases hx
theorem userOut_64 (l : List Int) : All64 (userOut l) := by
  unfold userOut
  by_cases h : userB l = true
  · rw [if_pos h]
    have := (userB_iff l).1 h
    exact userR_64 l (by have := this.2.2.1; omega)
  · rw [if_neg h]
    exact fun j hj => absurd hj (Nat.not_lt_zero _)
theorem blurOut_64 (r : Int) : All64 (blurOut r) := by
  unfold blurOut
  by_cases h : 0 ≤ r ∧ r ≤ 511
  · rw [if_pos h]
    exact userR_64 _ (by rw [sizeH_ones _ (by omega)]; omega)
  · rw [if_neg h]
    exact fun j hj => absurd hj (Nat.not_lt_zero _)
theorem wX_64 (o : Opr) : All64 (wX o) ∧ All64 (wY o) := by
  unfold wX wY
  by_cases h0 : o.kd = 0
  · rw [if_pos h0, if_pos h0]
    exact ⟨gauOut_64 _, gauOut_64 _⟩
  rw [if_neg h0, if_neg h0]
  by_cases h1 : o.kd = 1
  · rw [if_pos h1, if_pos h1]
    exact ⟨blurOut_64 _, blurOut_64 _⟩
  rw [if_neg h1, if_neg h1]
  exact ⟨userOut_64 _, userOut_64 _⟩
theorem fits_side {a b c : Int} (h : fitsF a b c = true) : (1 ≤ a ∧ a ≤ 65536) ∧ (1 ≤ b ∧ b ≤ 65536) ∧ (c = 1 ∨ c = 3) := by
  obtain ⟨a0, a1, b0, b1, hc, _⟩ := fitsF_iff.1 h
  exact ⟨⟨a0, a1⟩, ⟨b0, b1⟩, hc⟩
end Go.Proofs.YtclgghhpiljgfaaGreatDoor

/- The deeds of a play in memory: a slice of records of three ints and a sample. -/
namespace Go.Proofs.YtclgghhpiljgfaaGreatDoor
open Go.RowKit

theorem list_of {α : Type} (d : α) (P : Nat → α → Prop) : ∀ (n : Nat), (∀ i, i < n → ∃ x, P i x) → ∃ L : List α, L.length = n ∧ ∀ i, i < n → P i (L.getD i d)
  | 0, _ => ⟨[], rfl, fun _ h => absurd h (Nat.not_lt_zero _)⟩
  | n + 1, h => by
    obtain ⟨L, hL, hP⟩ := list_of d P n (fun i hi => h i (by omega))
    obtain ⟨x, hx⟩ := h n (by omega)
    refine ⟨L ++ [x], by simp [hL], fun i hi => ?_⟩
    by_cases e : i = n
    · subst e
      rw [List.getD_eq_getElem?_getD, List.getElem?_append_right (by omega), hL, Nat.sub_self]
      exact hx
    · rw [List.getD_eq_getElem?_getD, List.getElem?_append_left (by omega), ← List.getD_eq_getElem?_getD]
      exact hP i (by omega)
end Go.Proofs.YtclgghhpiljgfaaGreatDoor

/- Operations in memory: a struct of seven ints and two slices of ints, by value and in a slice; opened. -/
namespace Go.Proofs.YtclgghhpiljgfaaGreatDoor
open Go.RowKit


/-- An operation as a value. -/
def opV (o : Opr) (ax : Option Addr) (cx : Nat) (ay : Option Addr) (cy : Nat) : Value :=
  .agg #[.int .i64 o.kd, .int .i64 o.bd, .int .i64 o.sg, .int .i64 o.rd, .slice ax o.xs.length cx, .slice ay o.ys.length cy, .int .i64 o.fl, .int .i64 o.wd, .int .i64 o.ht]
def In64 (x : Int) : Prop := -9223372036854775808 ≤ x ∧ x ≤ 9223372036854775807
/-- What numbers it may have. -/
structure OpFits (o : Opr) : Prop where
  kd : In64 o.kd
  bd : In64 o.bd
  sg : In64 o.sg
  rd : In64 o.rd
  fl : In64 o.fl
  wd : In64 o.wd
  ht : In64 o.ht
  xs : AllK .i64 o.xs
  ys : AllK .i64 o.ys
  lx : o.xs.length ≤ maxLen
  ly : o.ys.length ≤ maxLen
theorem AllK.all {xs : List Int} (h : AllK .i64 xs) : All64 xs := fun _ hj => allK_i64 h hj
/-- Its weights stand in memory. -/
def OpAt (w : World) (o : Opr) (ax : Option Addr) (cx : Nat) (ay : Option Addr) (cy : Nat) : Prop := RowAt .i64 w ax o.xs ∧ RowAt .i64 w ay o.ys ∧ (ax = none → cx = 0) ∧ (ay = none → cy = 0)
theorem OpAt.below {w w' : World} {o : Opr} {ax ay : Option Addr} {cx cy : Nat} (h : OpAt w o ax cx ay cy) (hb : Below w.heap.size w w') : OpAt w' o ax cx ay cy := ⟨h.1.below hb, h.2.1.below hb, h.2.2⟩
/-- The nine cells of one. -/
def OpIn (w : World) (b q : Nat) (o : Opr) : Prop :=
  w.cell? ⟨b, q, none⟩ = some (.int .i64 o.kd) ∧ w.cell? ⟨b, q + 1, none⟩ = some (.int .i64 o.bd) ∧ w.cell? ⟨b, q + 2, none⟩ = some (.int .i64 o.sg) ∧ w.cell? ⟨b, q + 3, none⟩ = some (.int .i64 o.rd) ∧
  w.cell? ⟨b, q + 6, none⟩ = some (.int .i64 o.fl) ∧ w.cell? ⟨b, q + 7, none⟩ = some (.int .i64 o.wd) ∧ w.cell? ⟨b, q + 8, none⟩ = some (.int .i64 o.ht) ∧
  ∃ ax cx ay cy, w.cell? ⟨b, q + 4, none⟩ = some (.slice ax o.xs.length cx) ∧ w.cell? ⟨b, q + 5, none⟩ = some (.slice ay o.ys.length cy) ∧ OpAt w o ax cx ay cy
theorem OpIn.below {w w' : World} {b q : Nat} {o : Opr} (h : OpIn w b q o) (hb : Below w.heap.size w w') : OpIn w' b q o := by
  obtain ⟨h0, h1, h2, h3, h6, h7, h8, ax, cx, ay, cy, h4, h5, ha⟩ := h
  have hl := cell_ltL h0
  exact ⟨cb hb hl h0, cb hb hl h1, cb hb hl h2, cb hb hl h3, cb hb hl h6, cb hb hl h7, cb hb hl h8, ax, cx, ay, cy, cb hb hl h4, cb hb hl h5, ha.below hb⟩
/-- The slice at an address reads as these operations. -/
def OpsAt (w : World) (ad : Option Addr) (L : List Opr) : Prop :=
  L = [] ∨ ∃ b off, ad = some ⟨b, off, none⟩ ∧ ∀ j, j < L.length → OpIn w b (off + j * 9) (opAt L j)
def OpsFit (L : List Opr) : Prop := ∀ j, j < L.length → OpFits (opAt L j)
theorem OpsAt.get {w : World} {ad : Option Addr} {L : List Opr} (h : OpsAt w ad L) {j : Nat} (hj : j < L.length) : ∃ b off, ad = some ⟨b, off, none⟩ ∧ OpIn w b (off + j * 9) (opAt L j) := by
  rcases h with rfl | ⟨b, off, h1, h2⟩
  · exact absurd hj (Nat.not_lt_zero _)
  · exact ⟨b, off, h1, h2 j hj⟩
theorem OpsAt.below {w w' : World} {ad : Option Addr} {L : List Opr} (h : OpsAt w ad L) (hb : Below w.heap.size w w') : OpsAt w' ad L := by
  rcases h with h | ⟨b, off, h1, h2⟩
  · exact Or.inl h
  · exact Or.inr ⟨b, off, h1, fun j hj => (h2 j hj).below hb⟩
theorem in64_wf {x : Int} (h : (Lit.int .i64 x).wf = true) : In64 x := by
  simpa [In64, Lit.wf, IntKind.min, IntKind.max, IntKind.signed, IntKind.bits] using h
theorem rowo_cells {H : Type} {enc : TypeId × Value → H} {w : World} {base : Nat} {held : Bool} {fuel : Nat} {v : Value} {x : DataW H × List MemPlace}
    (h : DataW.trod enc Tryz.prog w base (fun _ => true) held fuel 25 [v] = some x) : ∃ (xs : List Int) (ad : Option Addr) (cap : Nat), v = .slice ad xs.length cap ∧ RowAt .i64 w ad xs ∧ AllK .i64 xs ∧ xs.length ≤ maxLen ∧ (ad = none → cap = 0) := by
  rcases Go.ChangeShapes.open_ints Tryz.underlying25 Tryz.underlying2 (by kernel_rfl) h with ⟨hcs, _⟩ | ⟨x, l, c, zs, hcs, _, hl, hm, hz, _, hcell, hwz⟩
  · obtain rfl : v = .slice none 0 0 := by simpa using hcs
    exact ⟨[], none, 0, rfl, Or.inl rfl, fun n hn => (by cases hn), Nat.zero_le _, fun _ => rfl⟩
  · obtain rfl : v = .slice (some x) l c := by simpa using hcs
    obtain ⟨xs, e, a, b, d, f⟩ := row_open (.inr ⟨x, zs, rfl, hl, hm, by simpa using hz, hcell, hwz⟩)
    subst e
    exact ⟨xs, _, _, rfl, a, b, d, f⟩
set_option maxRecDepth 100000 in
theorem op_cells {H : Type} {enc : TypeId × Value → H} {w : World} {base : Nat} {held : Bool} {fuel : Nat} {cs : List Value} {x : DataW H × List MemPlace}
    (h : DataW.trod enc Tryz.prog w base (fun _ => true) held fuel 28 cs = some x) (h9 : cs.length = 9) : ∃ (o : Opr) (ax : Option Addr) (cx : Nat) (ay : Option Addr) (cy : Nat),
      cs = [.int .i64 o.kd, .int .i64 o.bd, .int .i64 o.sg, .int .i64 o.rd, .slice ax o.xs.length cx, .slice ay o.ys.length cy, .int .i64 o.fl, .int .i64 o.wd, .int .i64 o.ht] ∧ OpAt w o ax cx ay cy ∧ OpFits o := by
  obtain ⟨ys, n', _, _, hlen, hyl, hf⟩ := DataW.trod_struct Tryz.underlying28 h
  have k1 : Tryz.prog.cellsOf 3 = 1 := by kernel_rfl
  have k2 : Tryz.prog.cellsOf 2 = 1 := by kernel_rfl
  have k3 : Tryz.prog.cellsOf 23 = 1 := by kernel_rfl
  have k4 : Tryz.prog.cellsOf 24 = 1 := by kernel_rfl
  have k5 : Tryz.prog.cellsOf 26 = 1 := by kernel_rfl
  have k6 : Tryz.prog.cellsOf 25 = 1 := by kernel_rfl
  match cs, h9 with
  | [c0, c1, c2, c3, c4, c5, c6, c7, c8], _ =>
    have hy : ys.length = 9 := hyl
    match ys, hy with
    | [y0, y1, y2, y3, y4, y5, y6, y7, y8], _ =>
      have f0 : DataW.trod enc Tryz.prog w base (fun _ => true) held n' 23 (List.take (Tryz.prog.cellsOf 23) (List.drop 0 [c0, c1, c2, c3, c4, c5, c6, c7, c8])) = some y0 := hf 0 _ rfl
      have f1 : DataW.trod enc Tryz.prog w base (fun _ => true) held n' 24 (List.take (Tryz.prog.cellsOf 24) (List.drop 1 [c0, c1, c2, c3, c4, c5, c6, c7, c8])) = some y1 := hf 1 _ rfl
      have f2 : DataW.trod enc Tryz.prog w base (fun _ => true) held n' 2 (List.take (Tryz.prog.cellsOf 2) (List.drop 2 [c0, c1, c2, c3, c4, c5, c6, c7, c8])) = some y2 := hf 2 _ rfl
      have f3 : DataW.trod enc Tryz.prog w base (fun _ => true) held n' 3 (List.take (Tryz.prog.cellsOf 3) (List.drop 3 [c0, c1, c2, c3, c4, c5, c6, c7, c8])) = some y3 := hf 3 _ rfl
      have f4 : DataW.trod enc Tryz.prog w base (fun _ => true) held n' 25 (List.take (Tryz.prog.cellsOf 25) (List.drop 4 [c0, c1, c2, c3, c4, c5, c6, c7, c8])) = some y4 := hf 4 _ rfl
      have f5 : DataW.trod enc Tryz.prog w base (fun _ => true) held n' 25 (List.take (Tryz.prog.cellsOf 25) (List.drop 5 [c0, c1, c2, c3, c4, c5, c6, c7, c8])) = some y5 := hf 5 _ rfl
      have f6 : DataW.trod enc Tryz.prog w base (fun _ => true) held n' 26 (List.take (Tryz.prog.cellsOf 26) (List.drop 6 [c0, c1, c2, c3, c4, c5, c6, c7, c8])) = some y6 := hf 6 _ rfl
      have f7 : DataW.trod enc Tryz.prog w base (fun _ => true) held n' 3 (List.take (Tryz.prog.cellsOf 3) (List.drop 7 [c0, c1, c2, c3, c4, c5, c6, c7, c8])) = some y7 := hf 7 _ rfl
      have f8 : DataW.trod enc Tryz.prog w base (fun _ => true) held n' 3 (List.take (Tryz.prog.cellsOf 3) (List.drop 8 [c0, c1, c2, c3, c4, c5, c6, c7, c8])) = some y8 := hf 8 _ rfl
      rw [k3] at f0
      rw [k4] at f1
      rw [k2] at f2
      rw [k1] at f3 f7 f8
      rw [k6] at f4 f5
      rw [k5] at f6
      obtain ⟨x0, q0, _, w0⟩ := DataW.trod_int Tryz.underlying23 f0
      obtain ⟨x1, q1, _, w1⟩ := DataW.trod_int Tryz.underlying24 f1
      obtain ⟨x2, q2, _, w2⟩ := DataW.trod_int Tryz.underlying2 f2
      obtain ⟨x3, q3, _, w3⟩ := DataW.trod_int Tryz.underlying3 f3
      obtain ⟨x6, q6, _, w6⟩ := DataW.trod_int Tryz.underlying26 f6
      obtain ⟨x7, q7, _, w7⟩ := DataW.trod_int Tryz.underlying3 f7
      obtain ⟨x8, q8, _, w8⟩ := DataW.trod_int Tryz.underlying3 f8
      simp at q0 q1 q2 q3 q6 q7 q8
      subst q0 q1 q2 q3 q6 q7 q8
      obtain ⟨xs, ax, cx, rfl, r4, a4, l4, z4⟩ := rowo_cells f4
      obtain ⟨zs, ay, cy, rfl, r5, a5, l5, z5⟩ := rowo_cells f5
      exact ⟨⟨x0, x1, x2, x3, xs, zs, x6, x7, x8⟩, ax, cx, ay, cy, rfl, ⟨r4, r5, z4, z5⟩, in64_wf w0, in64_wf w1, in64_wf w2, in64_wf w3, in64_wf w6, in64_wf w7, in64_wf w8, a4, a5, l4, l5⟩
set_option maxRecDepth 100000 in
theorem op_open {H : Type} {enc : TypeId × Value → H} {w : World} {r : Reach} {b0 base : Nat} {held : Bool} {v : Value} {d : DataW H} {p : List MemPlace}
    (hv : Value.okWide Tryz.prog w r b0 28 v) (h : DataW.Trod enc Tryz.prog w base (fun _ => true) held 28 v d p) : ∃ (o : Opr) (ax : Option Addr) (cx : Nat) (ay : Option Addr) (cy : Nat), v = opV o ax cx ay cy ∧ OpAt w o ax cx ay cy ∧ OpFits o := by
  obtain ⟨cs, rfl, hsz⟩ := Go.WideShapes.okWide_struct Tryz.underlying28 hv
  obtain ⟨n, hn⟩ := h
  have hC : Tryz.prog.cellsOf 28 = 9 := by kernel_rfl
  rw [hC] at hsz
  obtain ⟨o, ax, cx, ay, cy, e, a, b⟩ := op_cells hn (by simpa [Value.cells] using hsz)
  obtain ⟨l⟩ := cs
  simp only [Value.cells] at e
  subst e
  exact ⟨o, ax, cx, ay, cy, rfl, a, b⟩
set_option maxRecDepth 100000 in
/-- Operations that come in as a slice. -/
theorem ops_open {H : Type} {enc : TypeId × Value → H} {w : World} {base : Nat} {held : Bool} {fuel : Nat} {ad : Option Addr} {len cap : Nat} {x : DataW H × List MemPlace}
    (h : DataW.trod enc Tryz.prog w base (fun _ => true) held fuel 29 [.slice ad len cap] = some x) :
    ∃ L : List Opr, L.length = len ∧ (OpsAt w ad L ∧ OpsFit L) ∧ L.length ≤ maxLen ∧ (ad = none → cap = 0) := by
  rcases Go.Deep.open_slice Tryz.underlying29 h with ⟨hcs, _⟩ | ⟨a, len', cap', m, n, D, Pl, hcs, _, hl, hm, hmm, _, hi⟩
  · simp only [List.cons.injEq, Value.slice.injEq, and_true] at hcs
    obtain ⟨rfl, rfl, rfl⟩ := hcs
    exact ⟨[], rfl, ⟨Or.inl rfl, fun _ hj => absurd hj (Nat.not_lt_zero _)⟩, Nat.zero_le _, fun _ => rfl⟩
  · simp only [List.cons.injEq, Value.slice.injEq, and_true] at hcs
    obtain ⟨rfl, rfl, rfl⟩ := hcs
    have hlm : len ≤ m := by rw [hmm]; split <;> omega
    have hC : Tryz.prog.cellsOf 28 = 9 := by kernel_rfl
    have one : ∀ i, i < len → ∃ o : Opr, (∃ ax cx ay cy, w.cell? (a.add (i * 9)) = some (.int .i64 o.kd) ∧ w.cell? (a.add (i * 9 + 1)) = some (.int .i64 o.bd) ∧ w.cell? (a.add (i * 9 + 2)) = some (.int .i64 o.sg) ∧ w.cell? (a.add (i * 9 + 3)) = some (.int .i64 o.rd) ∧ w.cell? (a.add (i * 9 + 6)) = some (.int .i64 o.fl) ∧ w.cell? (a.add (i * 9 + 7)) = some (.int .i64 o.wd) ∧ w.cell? (a.add (i * 9 + 8)) = some (.int .i64 o.ht) ∧
        w.cell? (a.add (i * 9 + 4)) = some (.slice ax o.xs.length cx) ∧ w.cell? (a.add (i * 9 + 5)) = some (.slice ay o.ys.length cy) ∧ OpAt w o ax cx ay cy) ∧ OpFits o := by
      intro i hil
      obtain ⟨cs', hc, ht⟩ := hi i (by omega)
      rw [hC] at hc
      obtain ⟨_, hcl, hat⟩ := World.cells?_some hc
      obtain ⟨o, ax, cx, ay, cy, rfl, oa, ofi⟩ := op_cells ht hcl
      refine ⟨o, ⟨ax, cx, ay, cy, ?_⟩, ofi⟩
      have a0 := hat 0 (by decide)
      have a1 := hat 1 (by decide)
      have a2 := hat 2 (by decide)
      have a3 := hat 3 (by decide)
      have a4 := hat 4 (by decide)
      have a5 := hat 5 (by decide)
      have a6 := hat 6 (by decide)
      have a7 := hat 7 (by decide)
      have a8 := hat 8 (by decide)
      rw [Go.Deep.add_add] at a0 a1 a2 a3 a4 a5 a6 a7 a8
      exact ⟨a0, a1, a2, a3, a6, a7, a8, a4, a5, oa⟩
    obtain ⟨L, hL, hP⟩ := list_of op0 _ len one
    refine ⟨L, hL, ⟨?_, fun j hj => (hP j (by omega)).2⟩, by omega, fun e => by cases e⟩
    by_cases h0 : len = 0
    · exact Or.inl (List.eq_nil_of_length_eq_zero (by omega))
    · obtain ⟨b, off, spot⟩ := a
      have hspot : spot = none := by
        obtain ⟨⟨ax, cx, ay, cy, this, _⟩, _⟩ := hP 0 (by omega)
        simpa [Addr.add] using World.cell?_spot this
      subst hspot
      refine Or.inr ⟨b, off, rfl, fun j hj => ?_⟩
      obtain ⟨⟨ax, cx, ay, cy, g0, g1, g2, g3, g6, g7, g8, g4, g5, oa⟩, _⟩ := hP j (by omega)
      rw [addr_add] at g0 g1 g2 g3 g4 g5 g6 g7 g8
      exact ⟨g0, g1, g2, g3, g6, g7, g8, ax, cx, ay, cy, g4, g5, oa⟩
end Go.Proofs.YtclgghhpiljgfaaGreatDoor

/- Sums and bounds, held: the program's; and the law on them. -/
namespace Go.Proofs.YtclgghhpiljgfaaGreatDoor
open Go.RowKit


theorem fixadd_any (a b : Int) (h0 : -9223372036854775808 ≤ a) (h1 : a ≤ 9223372036854775807) (k0 : -9223372036854775808 ≤ b) (k1 : b ≤ 9223372036854775807) (w : World) :
    Calls Tryz.prog 90 #[.int .i64 a, .int .i64 b] w fun e w' => e = .returned (.int .i64 (holdI (a + b))) ∧ w = w' := by
  by_cases hp : 0 < b
  · by_cases hc : 9223372036854775807 - b < a
    · rw [holdI_hi (by omega)]
      go_enter Tryz.func90, Tryz.ntmps90
      go_wp2
      go_ret
      exact ⟨rfl, rfl⟩
    · rw [holdI_in (by omega) (by omega)]
      go_enter Tryz.func90, Tryz.ntmps90
      go_wp2
      go_ret
      exact ⟨rfl, rfl⟩
  by_cases hn : b < 0
  · by_cases hc : a < -9223372036854775808 - b
    · rw [holdI_lo (by omega)]
      go_enter Tryz.func90, Tryz.ntmps90
      go_wp2
      go_ret
      exact ⟨rfl, rfl⟩
    · rw [holdI_in (by omega) (by omega)]
      go_enter Tryz.func90, Tryz.ntmps90
      go_wp2
      go_ret
      exact ⟨rfl, rfl⟩
  · obtain rfl : b = 0 := by omega
    rw [holdI_in (by omega) (by omega)]
    go_enter Tryz.func90, Tryz.ntmps90
    go_wp2
    go_ret
    exact ⟨by first | rfl | simp, rfl⟩
end Go.Proofs.YtclgghhpiljgfaaGreatDoor

/- What stands beyond the edge: the program's answer, and the document's. -/
namespace Go.Proofs.YtclgghhpiljgfaaGreatDoor
open Go.RowKit

theorem knownE_yes (p : Int) (p0 : 0 ≤ p) (p1 : p ≤ 2) (w : World) :
    Calls Tryz.prog 45 #[.int .i64 p] w fun e w' => e = .returned (.bool true) ∧ w = w' := by
  go_enter Tryz.func45, Tryz.ntmps45
  go_wp2
  go_ret
  first | exact ⟨rfl, rfl⟩ | exact ⟨ret_bool (decide_eq_true (by omega)), rfl⟩
theorem knownE_no (p : Int) (h : p < 0 ∨ 2 < p) (w : World) :
    Calls Tryz.prog 45 #[.int .i64 p] w fun e w' => e = .returned (.bool false) ∧ w = w' := by
  rcases h with h | h
  all_goals
    go_enter Tryz.func45, Tryz.ntmps45
    go_wp2
    go_ret
    first | exact ⟨rfl, rfl⟩ | exact ⟨ret_bool (decide_eq_false (by omega)), rfl⟩
end Go.Proofs.YtclgghhpiljgfaaGreatDoor
