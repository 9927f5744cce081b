/- Parts, joined. -/
import Derived.Test.YtdpkigdfhfippaaGreatDoorJ21
import Derived.Test.YtdpkigdfhfippaaGreatDoorJ04
import Derived.Deep.RegionLaw
import Derived.Laws.CopyOwn
/- Operations: their codes, their tables, the sizes that they lead to; one behind the other. Plain; no number of the program stands in it. -/
namespace Go.Proofs.YtdpkigdfhfippaaGreatDoor
open Go.RowKit


/-- An operation. -/
structure Opr where
  kd : Int
  bd : Int
  sg : Int
  rd : Int
  xs : List Int
  ys : List Int
  fl : Int
  wd : Int
  ht : Int
/-- What its kind's weights tell. -/
def wCode (o : Opr) : Int := if o.kd = 0 then gauCode o.sg else if o.kd = 1 then blurCode o.rd else if userCode o.xs ≠ 0 then userCode o.xs else userCode o.ys
def wX (o : Opr) : List Int := if o.kd = 0 then gauOut o.sg else if o.kd = 1 then blurOut o.rd else userOut o.xs
def wY (o : Opr) : List Int := if o.kd = 0 then gauOut o.sg else if o.kd = 1 then blurOut o.rd else userOut o.ys
/-- May it be, of such sizes? -/
def okO (o : Opr) (w h : Int) : Bool := decide (0 ≤ o.kd) && decide (o.kd ≤ 3) && decide (0 ≤ o.bd) && decide (o.bd ≤ 2) && sideB w && sideB h && (decide (o.kd ≠ 3) || (sideB o.wd && sideB o.ht && decide (0 ≤ o.fl) && decide (o.fl ≤ 2)))
theorem okO_iff (o : Opr) (w h : Int) : okO o w h = true ↔ (0 ≤ o.kd ∧ o.kd ≤ 3) ∧ (0 ≤ o.bd ∧ o.bd ≤ 2) ∧ (1 ≤ w ∧ w ≤ 65536) ∧ (1 ≤ h ∧ h ≤ 65536) ∧ (o.kd = 3 → (1 ≤ o.wd ∧ o.wd ≤ 65536) ∧ (1 ≤ o.ht ∧ o.ht ≤ 65536) ∧ 0 ≤ o.fl ∧ o.fl ≤ 2) := by
  unfold okO
  simp only [Bool.and_eq_true, Bool.or_eq_true, decide_eq_true_eq, sideB_iff]
  constructor
  · rintro ⟨⟨⟨⟨⟨⟨a, b⟩, c⟩, d⟩, e⟩, f⟩, g⟩
    refine ⟨⟨a, b⟩, ⟨c, d⟩, e, f, fun h3 => ?_⟩
    rcases g with g | ⟨⟨⟨g1, g2⟩, g3⟩, g4⟩
    · exact absurd h3 g
    · exact ⟨g1, g2, g3, g4⟩
  · rintro ⟨⟨a, b⟩, ⟨c, d⟩, e, f, g⟩
    refine ⟨⟨⟨⟨⟨⟨a, b⟩, c⟩, d⟩, e⟩, f⟩, ?_⟩
    by_cases h3 : o.kd = 3
    · obtain ⟨g1, g2, g3, g4⟩ := g h3
      exact .inr ⟨⟨⟨g1, g2⟩, g3⟩, g4⟩
    · exact .inl h3
def xCode (o : Opr) (w : Int) : Int := if o.kd = 3 then resCode o.fl w o.wd else filCode (wX o) w
def yCode (o : Opr) (h : Int) : Int := if o.kd = 3 then resCode o.fl h o.ht else filCode (wY o) h
def xLines (o : Opr) (w : Int) : List (Int × List Int) := if o.kd = 3 then linesTo o.fl w o.wd o.wd.toNat else filTo (wX o) w.toNat
def yLines (o : Opr) (h : Int) : List (Int × List Int) := if o.kd = 3 then linesTo o.fl h o.ht o.ht.toNat else filTo (wY o) h.toNat
/-- What is wrong first. -/
def opCode (o : Opr) (w h : Int) : Int := if okO o w h = false then 6 else if o.kd ≠ 3 ∧ wCode o ≠ 0 then wCode o else if xCode o w ≠ 0 then xCode o w else yCode o h
/-- The sizes that it leads to. -/
def toW (o : Opr) (w : Int) : Int := if o.kd = 3 then o.wd else w
def toH (o : Opr) (h : Int) : Int := if o.kd = 3 then o.ht else h
/-- What an operation does: lines both ways, what they are from, the border. -/
structure Stg where
  lx : List (Int × List Int)
  ly : List (Int × List Int)
  fx : Int
  fy : Int
  sb : Int
def stgOf (o : Opr) (w h : Int) : Stg := ⟨xLines o w, yLines o h, w, h, o.bd⟩
def op0 : Opr := ⟨0, 0, 0, 0, [], [], 0, 0, 0⟩
def opAt (L : List Opr) (j : Nat) : Opr := L.getD j op0
/-- The sizes ahead of the k-th operation. -/
def whAt (L : List Opr) (w h : Int) : Nat → Int × Int
  | 0 => (w, h)
  | k + 1 => (toW (opAt L k) (whAt L w h k).1, toH (opAt L k) (whAt L w h k).2)
def stepCode (L : List Opr) (w h c : Int) (k : Nat) : Int :=
  if opCode (opAt L k) (whAt L w h k).1 (whAt L w h k).2 ≠ 0 then opCode (opAt L k) (whAt L w h k).1 (whAt L w h k).2 else if fitsF (whAt L w h (k + 1)).1 (whAt L w h (k + 1)).2 c = true then 0 else 5
def firstA (L : List Opr) (w h c : Int) : Nat → Int
  | 0 => 0
  | k + 1 => if firstA L w h c k ≠ 0 then firstA L w h c k else stepCode L w h c k
def allCode (L : List Opr) (w h c : Int) : Int := if 16 < L.length then 6 else if fitsF w h c = false then 5 else firstA L w h c L.length
def stgAt (L : List Opr) (w h : Int) (k : Nat) : Stg := stgOf (opAt L k) (whAt L w h k).1 (whAt L w h k).2
theorem firstA_stays {L : List Opr} {w h c : Int} {a : Nat} (n : firstA L w h c a ≠ 0) {b : Nat} (hb : a ≤ b) : firstA L w h c b = firstA L w h c a := by
  induction b with
  | zero => rw [Nat.le_zero.1 hb]
  | succ b ih =>
    rcases Nat.lt_or_ge b a with h1 | h1
    · rw [show b + 1 = a by omega]
    · have := ih h1
      show (if firstA L w h c b ≠ 0 then firstA L w h c b else stepCode L w h c b) = _
      rw [if_pos (by rw [this]; exact n), this]
theorem firstA_step {L : List Opr} {w h c : Int} {k n : Nat} (hf : firstA L w h c k = 0) (hs : stepCode L w h c k ≠ 0) (hk : k < n) : firstA L w h c n = stepCode L w h c k := by
  have e : firstA L w h c (k + 1) = stepCode L w h c k := by
    show (if firstA L w h c k ≠ 0 then firstA L w h c k else stepCode L w h c k) = _
    rw [if_neg (by rw [hf]; decide)]
  rw [firstA_stays (a := k + 1) (by rw [e]; exact hs) (by omega), e]
theorem firstA_next {L : List Opr} {w h c : Int} {k : Nat} (hf : firstA L w h c k = 0) (hs : stepCode L w h c k = 0) : firstA L w h c (k + 1) = 0 := by
  show (if firstA L w h c k ≠ 0 then firstA L w h c k else stepCode L w h c k) = _
  rw [if_neg (by rw [hf]; decide), hs]
theorem firstA_back {L : List Opr} {w h c : Int} {n : Nat} (hf : firstA L w h c n = 0) {k : Nat} (hk : k < n) : firstA L w h c k = 0 ∧ stepCode L w h c k = 0 := by
  have a : firstA L w h c k = 0 := by
    by_cases e : firstA L w h c k = 0
    · exact e
    · have := firstA_stays e (Nat.le_of_lt hk)
      rw [hf] at this
      exact this.symm
  refine ⟨a, ?_⟩
  by_cases e : stepCode L w h c k = 0
  · exact e
  · have := firstA_step a e hk
    rw [hf] at this
    exact this.symm
theorem gauOut_len {s : Int} (h : gauCode s = 0) : (gauOut s).length % 2 = 1 ∧ (gauOut s).length ≤ 1048576 := by
  unfold gauCode at h
  unfold gauOut
  split at h
  · rename_i hs
    rw [if_pos hs]
    unfold gaussR
    rw [gaussTo_len]
    have : (radG s).toNat ≤ 192 := by unfold radG; omega
    omega
  · omega
theorem userR_len (l : List Int) : (userR l).length = l.length := by unfold userR; rw [List.length_map]
theorem userOut_lenO {l : List Int} (h : userCode l = 0) : (userOut l).length % 2 = 1 ∧ (userOut l).length ≤ 1048576 := by
  unfold userCode at h
  unfold userOut
  split at h
  · rename_i hs
    rw [if_pos hs, userR_len]
    have := (userB_iff l).1 hs
    exact ⟨this.1, by have := this.2.1; omega⟩
  · omega
theorem blurOut_len {r : Int} (h : blurCode r = 0) : (blurOut r).length % 2 = 1 ∧ (blurOut r).length ≤ 1048576 := by
  unfold blurCode at h
  unfold blurOut
  split at h
  · rename_i hs
    rw [if_pos hs, userR_len, List.length_replicate]
    omega
  · omega
/-- Weights that there are: as many as a table may have. -/
theorem wX_len {o : Opr} (h : wCode o = 0) : (wX o).length ≤ 1048576 ∧ (wY o).length ≤ 1048576 := by
  unfold wCode at h
  unfold wX wY
  by_cases h0 : o.kd = 0
  · rw [if_pos h0] at h ⊢
    rw [if_pos h0]
    exact ⟨(gauOut_len h).2, (gauOut_len h).2⟩
  rw [if_neg h0] at h ⊢
  rw [if_neg h0]
  by_cases h1 : o.kd = 1
  · rw [if_pos h1] at h ⊢
    rw [if_pos h1]
    exact ⟨(blurOut_len h).2, (blurOut_len h).2⟩
  rw [if_neg h1] at h ⊢
  rw [if_neg h1]
  by_cases h2 : userCode o.xs ≠ 0
  · rw [if_pos h2] at h; exact absurd h h2
  · rw [if_neg h2] at h
    exact ⟨(userOut_lenO (by omega)).2, (userOut_lenO h).2⟩
theorem mem_64 {l : List Int} (h : ∀ x ∈ l, -9223372036854775808 ≤ x ∧ x ≤ 9223372036854775807) : All64 l := fun j hj => by
  rw [List.getD_eq_getElem?_getD, List.getElem?_eq_getElem hj]
  exact h _ (List.getElem_mem hj)
theorem userR_64 (l : List Int) (hs : sizeH l ≠ 0) : All64 (userR l) := by
  refine mem_64 fun x hx => ?_
  obtain ⟨y, _, rfl⟩ := List.mem_map.1 hx
  rw [divF_of hs]
  exact ⟨holdI0 _, holdI1 _⟩
theorem gauOut_64 (s : Int) : All64 (gauOut s) := by
  refine mem_64 fun x hx => ?_
  unfold gauOut at hx
  split at hx
  · obtain ⟨k, _, rfl⟩ := List.mem_map.1 hx
    have := gaussF_unit ((k : Int) - radG s) s
    omega
  · cases hx
theorem userOut_64 (l : List Int) : All64 (userOut l) := by
  unfold userOut
  by_cases h : userB l = true
  · rw [if_pos h]
    have := (userB_iff l).1 h
    exact userR_64 l (by have := this.2.2.1; omega)
  · rw [if_neg h]
    exact fun j hj => absurd hj (Nat.not_lt_zero _)
theorem blurOut_64 (r : Int) : All64 (blurOut r) := by
  unfold blurOut
  by_cases h : 0 ≤ r ∧ r ≤ 511
  · rw [if_pos h]
    exact userR_64 _ (by rw [sizeH_ones _ (by omega)]; omega)
  · rw [if_neg h]
    exact fun j hj => absurd hj (Nat.not_lt_zero _)
theorem wX_64 (o : Opr) : All64 (wX o) ∧ All64 (wY o) := by
  unfold wX wY
  by_cases h0 : o.kd = 0
  · rw [if_pos h0, if_pos h0]
    exact ⟨gauOut_64 _, gauOut_64 _⟩
  rw [if_neg h0, if_neg h0]
  by_cases h1 : o.kd = 1
  · rw [if_pos h1, if_pos h1]
    exact ⟨blurOut_64 _, blurOut_64 _⟩
  rw [if_neg h1, if_neg h1]
  exact ⟨userOut_64 _, userOut_64 _⟩
theorem fits_side {a b c : Int} (h : fitsF a b c = true) : (1 ≤ a ∧ a ≤ 65536) ∧ (1 ≤ b ∧ b ≤ 65536) ∧ (c = 1 ∨ c = 3) := by
  obtain ⟨a0, a1, b0, b1, hc, _⟩ := fitsF_iff.1 h
  exact ⟨⟨a0, a1⟩, ⟨b0, b1⟩, hc⟩
end Go.Proofs.YtdpkigdfhfippaaGreatDoor

/- Tables: what the program's calls are to answer; and that a table is the document's. -/
namespace Go.Proofs.YtdpkigdfhfippaaGreatDoor
open Go.RowKit

def ResizeC (K : World → Prop) (T : World → Value → Int → List (Int × List Int) → Prop) : Prop := ∀ (f n m : Int), -9223372036854775808 ≤ f → f ≤ 9223372036854775807 → -9223372036854775808 ≤ n → n ≤ 9223372036854775807 → -9223372036854775808 ≤ m → m ≤ 9223372036854775807 → ∀ w : World, K w →
  Calls Tryz.prog 51 #[.int .i64 f, .int .i64 n, .int .i64 m] w fun e w' => ∃ v, e = .returned (.tuple #[v, .int .i64 (resCode f n m)]) ∧ (resCode f n m = 0 → T w' v n (linesTo f n m m.toNat)) ∧ (resCode f n m ≠ 0 → v = .pointer none) ∧ Below w.heap.size w w'
def FilterC (K : World → Prop) (T : World → Value → Int → List (Int × List Int) → Prop) : Prop := ∀ (xs : List Int) (ad : Option Addr) (cap : Nat) (n : Int) (w : World), K w → RowAt .i64 w ad xs → All64 xs → xs.length ≤ 9223372036854775807 → -9223372036854775808 ≤ n → n ≤ 9223372036854775807 →
  Calls Tryz.prog 53 #[.slice ad xs.length cap, .int .i64 n] w fun e w' => ∃ v, e = .returned (.tuple #[v, .int .i64 (filCode xs n)]) ∧ (filCode xs n = 0 → T w' v n (filTo xs n.toNat)) ∧ (filCode xs n ≠ 0 → v = .pointer none) ∧ Below w.heap.size w w'
end Go.Proofs.YtdpkigdfhfippaaGreatDoor

/- Tables: the example, and the laws on resizes and filters, out of what the program's calls answer. -/
namespace Go.Proofs.YtdpkigdfhfippaaGreatDoor
open Go.RowKit


def LiveC (K : World → Prop) (f : FuncId) : Prop := ∀ w : World, K w → Calls Tryz.prog f #[] w fun e w' => e = .returned (.bool true) ∧ Below w.heap.size w w'
theorem res_ex : resCode 0 4 2 = 0 ∧ linesTo 0 4 2 2 = [(0, [8192, 8192]), (2, [8192, 8192])] ∧ reachF [(0, [8192, 8192]), (2, [8192, 8192])] 0 2 = (0, 4, true) := by decide +kernel
theorem lit2 (w : World) (a b : Int) (t : TypeId) : RowAt .i64 (w.alloc (.cells #[.int .i64 a, .int .i64 b] t)) (some ⟨w.heap.size, 0, none⟩) [a, b] := by
  refine Or.inr ⟨w.heap.size, 0, rfl, fun j hj => ?_⟩
  match j, hj with
  | 0, _ => simp
  | 1, _ => simp
theorem field_first (x : Int) (ad : Option Addr) (n c : Nat) : ∀ w : World, (Instr.field 63 (.agg #[.int .i64 x, .slice ad n c]) 0).run Tryz.prog w = .ok (.int .i64 x) w := fun _ => by kernel_rfl
end Go.Proofs.YtdpkigdfhfippaaGreatDoor

/- Tables: windows move on. Out of what the program's calls answer, and that a resize has no code. -/
namespace Go.Proofs.YtdpkigdfhfippaaGreatDoor
open Go.RowKit


theorem cen_next (n m i : Int) : cenR n m (i + 1) = cenR n m i + 2 * n := by
  unfold cenR
  rw [show 2 * (i + 1) + 1 = (2 * i + 1) + 2 by omega, Int.add_mul]
  omega
theorem low_mono {f n m i : Int} (n0 : 1 ≤ n) (m0 : 1 ≤ m) : lowW f n m i ≤ lowW f n m (i + 1) ∧ topW f n m i ≤ topW f n m (i + 1) := by
  unfold lowW topW
  rw [cen_next]
  exact ⟨Int.ediv_le_ediv (by omega) (by omega), Int.ediv_le_ediv (by omega) (by omega)⟩
/-- Windows move on. -/
def Moves (L : List (Int × List Int)) : Prop := ∀ j, j + 1 < L.length → (lnAt L j).1 ≤ (lnAt L (j + 1)).1 ∧ (lnAt L j).1 + ((lnAt L j).2.length : Int) ≤ (lnAt L (j + 1)).1 + ((lnAt L (j + 1)).2.length : Int)
theorem appR_length (xs : List Int) : (appR xs).length = xs.length := by
  unfold appR
  rw [(giveN_len _ _ _).1, quotsW_len]
theorem moves_lines {f n : Int} {m : Nat} (f0 : 0 ≤ f) (f1 : f ≤ 2) (n0 : 1 ≤ n) (n1 : n ≤ 65536) (m1 : m ≤ 65536) : Moves (linesTo f n m m) := by
  intro j hj
  rw [linesTo_len] at hj
  have e : ∀ i : Nat, i < m → lnAt (linesTo f n m m) i = lineR f n m i := fun i hi => lnAt_map _ hi
  rw [e j (by omega), e (j + 1) (by omega)]
  have en : ∀ i : Nat, i < m → (lineR f n m i).1 + ((lineR f n m i).2.length : Int) = topW f n m i + 1 := by
    intro i hi
    have hM : MayP f n m i := ⟨f0, f1, n0, n1, by omega, by omega, by omega, by omega⟩
    have := win_closed hM
    show startR f n m i + ((appR (rowI f n m i)).length : Int) = _
    rw [appR_length, rowI_len]
    unfold startR countR
    omega
  rw [en j (by omega), en (j + 1) (by omega)]
  obtain ⟨a, b⟩ := low_mono (f := f) (n := n) (m := (m : Int)) (i := (j : Int)) n0 (by omega)
  refine ⟨?_, ?_⟩
  · show lowW f n m j + 1 ≤ lowW f n m ((j + 1 : Nat) : Int) + 1
    rw [show ((j + 1 : Nat) : Int) = (j : Int) + 1 by omega]; omega
  · rw [show ((j + 1 : Nat) : Int) = (j : Int) + 1 by omega]; omega
theorem reach_below {L : List (Int × List Int)} {i k : Int} (o : Nat) (h : (o : Int) ≤ i) : reachTo L i k o = (0, 0, false) := by
  induction o with
  | zero => rfl
  | succ o ih =>
    unfold reachTo
    rw [if_pos (Or.inl (by omega))]
    exact ih (by omega)
theorem reach_above {L : List (Int × List Int)} {i k : Int} (a d : Nat) (h : k ≤ (a : Int)) : reachTo L i k (a + d) = reachTo L i k a := by
  induction d with
  | zero => rfl
  | succ d ih =>
    have s : reachTo L i k (a + (d + 1)) = if ((a + d : Nat) : Int) < i ∨ k ≤ ((a + d : Nat) : Int) then reachTo L i k (a + d) else reachStep (reachTo L i k (a + d)) (lnAt L (a + d)).1 (lnAt L (a + d)).2.length := rfl
    rw [s, if_pos (Or.inr (by omega)), ih]
end Go.Proofs.YtdpkigdfhfippaaGreatDoor

/- Plans: an output, cut into tiles; what they take. Plain; no number of the program stands in it. -/
namespace Go.Proofs.YtdpkigdfhfippaaGreatDoor
open Go.RowKit


/-- How many steps lead over a side. -/
def stepsN (n t : Int) : Int := (n + t - 1) / t
theorem steps_lt {n t i : Int} (ht : 1 ≤ t) : i < stepsN n t ↔ i * t < n := by
  unfold stepsN
  rw [← Int.add_one_le_iff, Int.le_ediv_iff_mul_le (by omega), Int.add_mul]
  omega
theorem steps_pos {n t : Int} (hn : 1 ≤ n) (ht : 1 ≤ t) : 1 ≤ stepsN n t := by
  have := (steps_lt (n := n) (i := 0) ht).2 (by omega)
  omega
theorem steps_le {n t : Int} (hn : 0 ≤ n) (ht : 1 ≤ t) : stepsN n t ≤ n := by
  rcases Int.lt_or_le n (stepsN n t) with h | h
  · have := (steps_lt (n := n) (i := n) ht).1 h
    have h2 : n * 1 ≤ n * t := Int.mul_le_mul_of_nonneg_left ht hn
    omega
  · exact h
theorem steps_back {n t i : Int} (ht : 1 ≤ t) (h : stepsN n t ≤ i) : n ≤ i * t := by
  rcases Int.lt_or_le (i * t) n with g | g
  · have := (steps_lt (n := n) (i := i) ht).2 g
    omega
  · exact g
/-- A tile: its number, where it stands, how wide and high it is, the least source column and row, how many, how many rows at once. -/
structure Til where
  tn : Int
  tx : Int
  ty : Int
  tw : Int
  th : Int
  fx : Int
  fy : Int
  cx : Int
  cy : Int
  rg : Int
def til0 : Til := ⟨0, 0, 0, 0, 0, 0, 0, 0, 0, 0⟩
/-- The tile of number k, at the i-th place of the j-th row of tiles. -/
def tilAt (LX LY : List (Int × List Int)) (a b i j k : Int) : Til :=
  ⟨k, i * a, j * b, min a ((LX.length : Int) - i * a), min b ((LY.length : Int) - j * b),
    (reachF LX (i * a) (i * a + min a ((LX.length : Int) - i * a))).1, (reachF LY (j * b) (j * b + min b ((LY.length : Int) - j * b))).1,
    (reachF LX (i * a) (i * a + min a ((LX.length : Int) - i * a))).2.1 - (reachF LX (i * a) (i * a + min a ((LX.length : Int) - i * a))).1,
    (reachF LY (j * b) (j * b + min b ((LY.length : Int) - j * b))).2.1 - (reachF LY (j * b) (j * b + min b ((LY.length : Int) - j * b))).1, mostF LY⟩
/-- How many tiles stand in a row, and how many rows of them. -/
def acrossF (LX : List (Int × List Int)) (a : Int) : Int := stepsN (LX.length : Int) a
def countF (LX LY : List (Int × List Int)) (a b : Int) : Int := acrossF LX a * acrossF LY b
def tilF (LX LY : List (Int × List Int)) (a b k : Int) : Til := tilAt LX LY a b (k % acrossF LX a) (k / acrossF LX a) k
theorem plc_of {A i j : Int} (h0 : 0 ≤ i) (h1 : i < A) : (j * A + i) % A = i ∧ (j * A + i) / A = j := by
  have hA : A ≠ 0 := by omega
  constructor
  · rw [Int.add_comm, Int.add_mul_emod_self_right]
    exact Int.emod_eq_of_lt h0 h1
  · rw [Int.add_comm, Int.add_mul_ediv_right _ _ hA, Int.ediv_eq_zero_of_lt h0 h1]
    omega
theorem tilF_at {LX LY : List (Int × List Int)} {a b i j : Int} (h0 : 0 ≤ i) (h1 : i < acrossF LX a) : tilF LX LY a b (j * acrossF LX a + i) = tilAt LX LY a b i j (j * acrossF LX a + i) := by
  unfold tilF
  rw [(plc_of h0 h1).1, (plc_of h0 h1).2]
/-- A number that there is: its place. -/
theorem plc_in {A D k : Int} (hA : 1 ≤ A) (k0 : 0 ≤ k) (k1 : k < A * D) : 0 ≤ k % A ∧ k % A < A ∧ 0 ≤ k / A ∧ k / A < D ∧ k = k / A * A + k % A := by
  have e := Int.emod_add_mul_ediv k A
  rw [Int.mul_comm] at e
  refine ⟨Int.emod_nonneg _ (by omega), Int.emod_lt_of_pos _ (by omega), Int.ediv_nonneg k0 (by omega), ?_, by omega⟩
  exact Int.ediv_lt_of_lt_mul (by omega) (by rw [Int.mul_comm]; exact k1)
/-- Tiles of lines that there are: their numbers are little. -/
structure TilOk (LX LY : List (Int × List Int)) (t : Til) : Prop where
  tx : 0 ≤ t.tx ∧ t.tx < (LX.length : Int)
  ty : 0 ≤ t.ty ∧ t.ty < (LY.length : Int)
  tw : 1 ≤ t.tw ∧ t.tx + t.tw ≤ (LX.length : Int)
  th : 1 ≤ t.th ∧ t.ty + t.th ≤ (LY.length : Int)
  fx : -1099511627776 ≤ t.fx ∧ t.fx ≤ 1099511627776
  fy : -1099511627776 ≤ t.fy ∧ t.fy ≤ 1099511627776
  cx : -3298534883328 ≤ t.cx ∧ t.cx ≤ 3298534883328
  cy : -3298534883328 ≤ t.cy ∧ t.cy ≤ 3298534883328
  rg : 0 ≤ t.rg ∧ t.rg ≤ 1048576
theorem til_ok {LX LY : List (Int × List Int)} (hx : LinesOk LX) (hy : LinesOk LY) {a b i j k : Int} (ha : 1 ≤ a) (hb : 1 ≤ b) (i0 : 0 ≤ i) (i1 : i < acrossF LX a) (j0 : 0 ≤ j) (j1 : j < acrossF LY b) : TilOk LX LY (tilAt LX LY a b i j k) := by
  have e1 := (steps_lt ha).1 i1
  have e2 := (steps_lt hb).1 j1
  have z1 : 0 ≤ i * a := Int.mul_nonneg i0 (by omega)
  have z2 : 0 ≤ j * b := Int.mul_nonneg j0 (by omega)
  have rx := reachTo_in hx (i * a) (i * a + min a ((LX.length : Int) - i * a)) LX.length (Nat.le_refl _)
  have ry := reachTo_in hy (j * b) (j * b + min b ((LY.length : Int) - j * b)) LY.length (Nat.le_refl _)
  have mo := mostTo_in hy LY.length (Nat.le_refl _)
  rw [show reachTo LX (i * a) (i * a + min a ((LX.length : Int) - i * a)) LX.length = reachF LX (i * a) (i * a + min a ((LX.length : Int) - i * a)) from rfl] at rx
  rw [show reachTo LY (j * b) (j * b + min b ((LY.length : Int) - j * b)) LY.length = reachF LY (j * b) (j * b + min b ((LY.length : Int) - j * b)) from rfl] at ry
  rw [show mostTo LY LY.length = mostF LY from rfl] at mo
  obtain ⟨p0, p1, p2, p3, _, _⟩ := rx
  obtain ⟨q0, q1, q2, q3, _, _⟩ := ry
  exact ⟨⟨z1, e1⟩, ⟨z2, e2⟩, ⟨by show 1 ≤ min a _; omega, by show i * a + min a _ ≤ _; omega⟩, ⟨by show 1 ≤ min b _; omega, by show j * b + min b _ ≤ _; omega⟩, ⟨p0, p1⟩, ⟨q0, q1⟩,
    ⟨by show _ ≤ (reachF LX _ _).2.1 - _; omega, by show (reachF LX _ _).2.1 - _ ≤ _; omega⟩, ⟨by show _ ≤ (reachF LY _ _).2.1 - _; omega, by show (reachF LY _ _).2.1 - _ ≤ _; omega⟩, mo⟩
theorem tilF_ok {LX LY : List (Int × List Int)} (hx : LinesOk LX) (hy : LinesOk LY) (lx : 1 ≤ LX.length) {a b k : Int} (ha : 1 ≤ a) (hb : 1 ≤ b) (k0 : 0 ≤ k) (k1 : k < countF LX LY a b) : TilOk LX LY (tilF LX LY a b k) := by
  obtain ⟨p0, p1, p2, p3, _⟩ := plc_in (A := acrossF LX a) (steps_pos (by omega) ha) k0 k1
  exact til_ok hx hy ha hb p0 p1 p2 p3
/-- How many there are, at most. -/
theorem count_in {LX LY : List (Int × List Int)} {a b : Int} (ha : 1 ≤ a) (hb : 1 ≤ b) : 0 ≤ acrossF LX a ∧ acrossF LX a ≤ (LX.length : Int) ∧ 0 ≤ acrossF LY b ∧ acrossF LY b ≤ (LY.length : Int) ∧ 0 ≤ countF LX LY a b ∧ countF LX LY a b ≤ (LX.length : Int) * (LY.length : Int) := by
  have h1 := steps_le (n := (LX.length : Int)) (t := a) (by omega) ha
  have h2 := steps_le (n := (LY.length : Int)) (t := b) (by omega) hb
  have z : ∀ n : Nat, ∀ t : Int, 1 ≤ t → 0 ≤ stepsN (n : Int) t := fun n t ht => Int.ediv_nonneg (by omega) (by omega)
  have z1 := z LX.length a ha
  have z2 := z LY.length b hb
  exact ⟨z1, h1, z2, h2, Int.mul_nonneg z1 z2, Int.mul_le_mul h1 h2 z2 (by omega)⟩
/-! ### What tiles take -/
theorem reach_has {L : List (Int × List Int)} {i k : Int} {o : Nat} (h0 : i ≤ (o : Int)) (h1 : (o : Int) < k) : ∀ {n : Nat}, o < n → (reachTo L i k n).2.2 = true ∧ (reachTo L i k n).1 ≤ (lnAt L o).1 ∧ (lnAt L o).1 + ((lnAt L o).2.length : Int) ≤ (reachTo L i k n).2.1
  | 0, h => absurd h (Nat.not_lt_zero _)
  | n + 1, h => by
    have e : reachTo L i k (n + 1) = if (n : Int) < i ∨ k ≤ (n : Int) then reachTo L i k n else reachStep (reachTo L i k n) (lnAt L n).1 (lnAt L n).2.length := rfl
    by_cases g : o = n
    · subst g
      rw [e, if_neg (by omega)]
      unfold reachStep
      split
      · exact ⟨rfl, by show min _ _ ≤ _; omega, by show _ ≤ max _ _; omega⟩
      · exact ⟨rfl, Int.le_refl _, Int.le_refl _⟩
    · obtain ⟨a, b, c⟩ := reach_has h0 h1 (n := n) (by omega)
      rw [e]
      split
      · exact ⟨a, b, c⟩
      · unfold reachStep
        rw [if_pos a]
        exact ⟨rfl, by show min _ _ ≤ _; omega, by show _ ≤ max _ _; omega⟩
theorem til_takes {L : List (Int × List Int)} {i k : Int} {o : Nat} (h0 : i ≤ (o : Int)) (h1 : (o : Int) < k) (h : o < L.length) : (reachF L i k).1 ≤ (lnAt L o).1 ∧ (lnAt L o).1 + ((lnAt L o).2.length : Int) ≤ (reachF L i k).2.1 := (reach_has h0 h1 h).2
theorem most_has {L : List (Int × List Int)} {o : Nat} (h : o < L.length) : ((lnAt L o).2.length : Int) ≤ mostF L := mostTo_ge _ h
/-! ### In which tile a pixel is -/
def findF (LX : List (Int × List Int)) (a b x y : Int) : Int := y / b * acrossF LX a + x / a
theorem find_of {a i d : Int} (h0 : 0 ≤ d) (h1 : d < a) : (i * a + d) / a = i := (plc_of h0 h1).2
end Go.Proofs.YtdpkigdfhfippaaGreatDoor

/- Slices of numbers that are made whole and filled, number by number. No number of the program stands in it. -/
namespace Go.Proofs.YtdpkigdfhfippaaGreatDoor
open Go.RowKit


/-- 'make' of so many, as one step of a region that draws its order. -/
theorem step_make_full {P : Program} {ops : Array Oper} {o : Oper} {a : Act} {w : World} {K : Act → World → Prop} {Q : Exit → Act → World → Prop} {E : Prop}
    (hg : o.guard = none) (l c : Operand) (t : TypeId) (hop : o.op = Op.makeSlice t l c)
    (base : Nat) (e : TypeId) (i : TypeInfo) (z : Value) (size : Nat) (h1 : P.underlying t = some (.slice e)) (h2 : P.info? e = some i) (h3 : i.zero = some z) (h4 : i.size = size)
    (kl kc : IntKind) (L C : Int) (n : Nat) (hl : a.eval l = .int kl L) (hc : a.eval c = .int kc C) (hL : L = (n : Int)) (hC : C = (n : Int)) (b2 : i.bytes * n ≤ 281474976710656) (b3 : n ≤ maxLen) (b4 : base ≤ w.heap.size)
    (hK : ∀ w', w'.ownsRow base e size (.slice (some ⟨w.heap.size, 0, none⟩) n n) n (madeCells z.cells (n * size)).toList → w.grownBy w' none → K (a.put o.dst (.slice (some ⟨w.heap.size, 0, none⟩) n n)) w') :
    if Region.wanted o (yielded ops a.tmps) = true then Oper.wp P o a w K Q else E := by
  have hw : Region.wanted o (yielded ops a.tmps) = true := by simp [Region.wanted, hg]
  rw [if_pos hw]
  obtain ⟨w', hrun, r1, r2⟩ := run_make_full (P := P) w base t e i z size h1 h2 h3 h4 kl kc n b2 b3 b4
  subst hL
  subst hC
  unfold Oper.wp
  simp [execOp, hop, hl, hc, hrun, Result.andThen]
  exact hK w' r1 r2
/-- What is made owns noughts. -/
theorem OwnI.made {k : IntKind} {T : TypeId} {w : World} {base : Nat} {v : Value} {n : Nat} (h : w.ownsRow base T 1 v n (madeCells (Value.int k 0).cells (n * 1)).toList) : OwnI k T w base v (List.replicate n 0) := by
  unfold OwnI
  rw [List.length_replicate, List.map_replicate, ← toList_madeCells_one]
  rw [Nat.mul_one] at h
  exact h
/-- So many numbers, the rest nought. -/
def padZ (L : List Int) (n : Nat) : List Int := L ++ List.replicate (n - L.length) 0
theorem padZ_nil (n : Nat) : padZ [] n = List.replicate n 0 := by unfold padZ; simp
theorem padZ_len {L : List Int} {n : Nat} (h : L.length ≤ n) : (padZ L n).length = n := by unfold padZ; rw [List.length_append, List.length_replicate]; omega
theorem padZ_full {L : List Int} {n : Nat} (h : L.length = n) : padZ L n = L := by unfold padZ; rw [h, Nat.sub_self]; simp
theorem padZ_set {L : List Int} {n j : Nat} (hj : L.length = j) (h : j < n) (x : Int) : (padZ L n).set j x = padZ (L ++ [x]) n := by
  subst hj
  unfold padZ
  rw [List.set_append_right _ _ (Nat.le_refl _), Nat.sub_self, List.length_append, List.length_singleton]
  obtain ⟨d, hd⟩ : ∃ d, n - L.length = d + 1 := ⟨n - L.length - 1, by omega⟩
  rw [hd, show n - (L.length + 1) = d by omega, List.replicate_succ, List.set_cons_zero, List.append_assoc]
  rfl
/-- Filled so far. -/
def fillZ (F : Int → Int) (xs : List Int) (n j : Nat) : List Int := padZ ((xs.take j).map F) n
theorem fillZ_zero (F : Int → Int) (xs : List Int) (n : Nat) : fillZ F xs n 0 = List.replicate n 0 := by unfold fillZ; rw [List.take_zero, List.map_nil, padZ_nil]
theorem fillZ_len {F : Int → Int} {xs : List Int} {n j : Nat} (hx : xs.length = n) : (fillZ F xs n j).length = n := padZ_len (by rw [List.length_map, List.length_take]; omega)
theorem fillZ_all {F : Int → Int} {xs : List Int} {n : Nat} (hx : xs.length = n) : fillZ F xs n n = xs.map F := by
  unfold fillZ
  rw [List.take_of_length_le (by omega), padZ_full (by rw [List.length_map]; exact hx)]
theorem fillZ_set {F : Int → Int} {xs : List Int} {n j : Nat} (hx : xs.length = n) (h : j < n) : (fillZ F xs n j).set j (F (xs.getD j 0)) = fillZ F xs n (j + 1) := by
  unfold fillZ
  rw [padZ_set (by rw [List.length_map, List.length_take]; omega) h, take_step xs (by omega), List.map_append]
  rfl
theorem OwnI.of_block {k : IntKind} {T : TypeId} {w : World} {base g n : Nat} {xs : List Int} (hg : w.heap[g]? = some (.cells (xs.map (Value.int k)).toArray T (0, 0))) (hn : xs.length = n) (hb : base ≤ g) (hm : n ≤ maxLen) : OwnI k T w base (.slice (some ⟨g, 0, none⟩) n n) xs := by
  subst hn
  exact ⟨by simp, Or.inr ⟨g, xs.length, _, rfl, hb, hg, Nat.le_refl _, hm, by simp, by rw [List.toList_toArray, Nat.mul_one]; exact List.take_of_length_le (by rw [List.length_map]; exact Nat.le_refl _)⟩⟩
/-- 'copy' into a block that is known whole: what the call answers, and what the block holds then. -/
theorem copy_run {P : Program} (w : World) (dT sT ty elem : TypeId) (hu : P.underlying dT = some (.slice elem)) (hs : (P.info? elem).map (·.size) = some 1) (g o dLen dCap : Nat) (a : Addr) (sLen sCap : Nat) (cur : List Value) (t : TypeId) (cs : List Value) (c : Nat)
    (hg : w.heap[g]? = some (.cells cur.toArray t (0, 0))) (hc : cs.length = c) (hn : c = Nat.min sLen dLen)
    (hsrc : ∀ j v, cs[j]? = some v → w.cell? (a.add j) = some v) (hfit : o + c ≤ cur.length) (h1 : ∀ v ∈ cs, v.oneCell' = true) (B : Nat) (hB : B ≤ g) :
    ∃ w', (Builtin.copy_ #[dT, sT] ty #[.slice (some ⟨g, o, none⟩) dLen dCap, .slice (some a) sLen sCap]).run P w = .ok (.int .i64 (c : Int)) w' ∧ w'.heap[g]? = some (.cells (splice cur o cs).toArray t (0, 0)) ∧ Below B w w' := by
  subst hc
  refine ⟨_, run_copy_row (P := P) w dT sT ty elem g o dLen dCap a sLen sCap cur.toArray t cs hu hs hg hn hsrc (by simpa using hfit) h1, ?_, below_setRow (Below.refl _ _) hB _⟩
  simpa [splice] using setRow_heap w g _ _ t _ hg
theorem below_made {w w1 w2 : World} (h : Below w.heap.size w w1) (hg : w1.grownBy w2 none) : Below w.heap.size w w2 := h.grown hg h.size (fun j hj => by cases hj)
end Go.Proofs.YtdpkigdfhfippaaGreatDoor
