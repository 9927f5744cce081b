/- Parts, joined. -/
import Derived.Test.YtlknopmpbkepjaaGreatDoorJ11
import Derived.Test.YtlknopmpbkepjaaGreatDoorJ08
import Derived.Laws.BytesArg
import Derived.Laws.IdiomStrings
import Derived.Shelf.Unicode.DecodeAny
import Derived.Shelf.Strconv.Itoa3
import Derived.Lib.SmallJoins
/- Operations: their codes, their tables, the sizes that they lead to; one behind the other. Plain; no number of the program stands in it. -/
namespace Go.Proofs.YtlknopmpbkepjaaGreatDoor
open Go.RowKit


/-- An operation. -/
structure Opr where
  kd : Int
  bd : Int
  sg : Int
  rd : Int
  xs : List Int
  ys : List Int
  fl : Int
  wd : Int
  ht : Int
/-- What its kind's weights tell. -/
def wCode (o : Opr) : Int := if o.kd = 0 then gauCode o.sg else if o.kd = 1 then blurCode o.rd else if userCode o.xs ≠ 0 then userCode o.xs else userCode o.ys
def wX (o : Opr) : List Int := if o.kd = 0 then gauOut o.sg else if o.kd = 1 then blurOut o.rd else userOut o.xs
def wY (o : Opr) : List Int := if o.kd = 0 then gauOut o.sg else if o.kd = 1 then blurOut o.rd else userOut o.ys
/-- May it be, of such sizes? -/
def okO (o : Opr) (w h : Int) : Bool := decide (0 ≤ o.kd) && decide (o.kd ≤ 3) && decide (0 ≤ o.bd) && decide (o.bd ≤ 2) && sideB w && sideB h && (decide (o.kd ≠ 3) || (sideB o.wd && sideB o.ht && decide (0 ≤ o.fl) && decide (o.fl ≤ 2)))
theorem okO_iff (o : Opr) (w h : Int) : okO o w h = true ↔ (0 ≤ o.kd ∧ o.kd ≤ 3) ∧ (0 ≤ o.bd ∧ o.bd ≤ 2) ∧ (1 ≤ w ∧ w ≤ 65536) ∧ (1 ≤ h ∧ h ≤ 65536) ∧ (o.kd = 3 → (1 ≤ o.wd ∧ o.wd ≤ 65536) ∧ (1 ≤ o.ht ∧ o.ht ≤ 65536) ∧ 0 ≤ o.fl ∧ o.fl ≤ 2) := by
  unfold okO
  simp only [Bool.and_eq_true, Bool.or_eq_true, decide_eq_true_eq, sideB_iff]
  constructor
  · rintro ⟨⟨⟨⟨⟨⟨a, b⟩, c⟩, d⟩, e⟩, f⟩, g⟩
    refine ⟨⟨a, b⟩, ⟨c, d⟩, e, f, fun h3 => ?_⟩
    rcases g with g | ⟨⟨⟨g1, g2⟩, g3⟩, g4⟩
    · exact absurd h3 g
    · exact ⟨g1, g2, g3, g4⟩
  · rintro ⟨⟨a, b⟩, ⟨c, d⟩, e, f, g⟩
    refine ⟨⟨⟨⟨⟨⟨a, b⟩, c⟩, d⟩, e⟩, f⟩, ?_⟩
    by_cases h3 : o.kd = 3
    · obtain ⟨g1, g2, g3, g4⟩ := g h3
      exact .inr ⟨⟨⟨g1, g2⟩, g3⟩, g4⟩
    · exact .inl h3
def xCode (o : Opr) (w : Int) : Int := if o.kd = 3 then resCode o.fl w o.wd else filCode (wX o) w
def yCode (o : Opr) (h : Int) : Int := if o.kd = 3 then resCode o.fl h o.ht else filCode (wY o) h
def xLines (o : Opr) (w : Int) : List (Int × List Int) := if o.kd = 3 then linesTo o.fl w o.wd o.wd.toNat else filTo (wX o) w.toNat
def yLines (o : Opr) (h : Int) : List (Int × List Int) := if o.kd = 3 then linesTo o.fl h o.ht o.ht.toNat else filTo (wY o) h.toNat
/-- What is wrong first. -/
def opCode (o : Opr) (w h : Int) : Int := if okO o w h = false then 6 else if o.kd ≠ 3 ∧ wCode o ≠ 0 then wCode o else if xCode o w ≠ 0 then xCode o w else yCode o h
/-- What an operation does: lines both ways, what they are from, the border. -/
structure Stg where
  lx : List (Int × List Int)
  ly : List (Int × List Int)
  fx : Int
  fy : Int
  sb : Int
def stgOf (o : Opr) (w h : Int) : Stg := ⟨xLines o w, yLines o h, w, h, o.bd⟩
def op0 : Opr := ⟨0, 0, 0, 0, [], [], 0, 0, 0⟩
def opAt (L : List Opr) (j : Nat) : Opr := L.getD j op0
theorem gauOut_len {s : Int} (h : gauCode s = 0) : (gauOut s).length % 2 = 1 ∧ (gauOut s).length ≤ 1048576 := by
  unfold gauCode at h
  unfold gauOut
  split at h
  · rename_i hs
    rw [if_pos hs]
    unfold gaussR
    rw [gaussTo_len]
    have : (radG s).toNat ≤ 192 := by unfold radG; omega
    omega
  · omega
theorem userR_len (l : List Int) : (userR l).length = l.length := by unfold userR; rw [List.length_map]
theorem userOut_lenO {l : List Int} (h : userCode l = 0) : (userOut l).length % 2 = 1 ∧ (userOut l).length ≤ 1048576 := by
  unfold userCode at h
  unfold userOut
  split at h
  · rename_i hs
    rw [if_pos hs, userR_len]
    have := (userB_iff l).1 hs
    exact ⟨this.1, by have := this.2.1; omega⟩
  · omega
theorem blurOut_len {r : Int} (h : blurCode r = 0) : (blurOut r).length % 2 = 1 ∧ (blurOut r).length ≤ 1048576 := by
  unfold blurCode at h
  unfold blurOut
  split at h
  · rename_i hs
    rw [if_pos hs, userR_len, List.length_replicate]
    omega
  · omega
/-- Weights that there are: as many as a table may have. -/
theorem wX_len {o : Opr} (h : wCode o = 0) : (wX o).length ≤ 1048576 ∧ (wY o).length ≤ 1048576 := by
  unfold wCode at h
  unfold wX wY
  by_cases h0 : o.kd = 0
  · rw [if_pos h0] at h ⊢
    rw [if_pos h0]
    exact ⟨(gauOut_len h).2, (gauOut_len h).2⟩
  rw [if_neg h0] at h ⊢
  rw [if_neg h0]
  by_cases h1 : o.kd = 1
  · rw [if_pos h1] at h ⊢
    rw [if_pos h1]
    exact ⟨(blurOut_len h).2, (blurOut_len h).2⟩
  rw [if_neg h1] at h ⊢
  rw [if_neg h1]
  by_cases h2 : userCode o.xs ≠ 0
  · rw [if_pos h2] at h; exact absurd h h2
  · rw [if_neg h2] at h
    exact ⟨(userOut_lenO (by omega)).2, (userOut_lenO h).2⟩
theorem mem_64 {l : List Int} (h : ∀ x ∈ l, -9223372036854775808 ≤ x ∧ x ≤ 9223372036854775807) : All64 l := fun j hj => by
  rw [List.getD_eq_getElem?_getD, List.getElem?_eq_getElem hj]
  exact h _ (List.getElem_mem hj)
theorem userR_64 (l : List Int) (hs : sizeH l ≠ 0) : All64 (userR l) := by
  refine mem_64 fun x hx => ?_
  obtain ⟨y, _, rfl⟩ := List.mem_map.1 hx
  rw [divF_of hs]
  exact ⟨holdI0 _, holdI1 _⟩
theorem gauOut_64 (s : Int) : All64 (gauOut s) := by
  refine mem_64 fun x hx => ?_
  unfold gauOut at hx
  split at hx
  · obtain ⟨k, _, rfl⟩ := List.mem_map.1 hx
    have := gaussF_unit ((k : Int) - radG s) s
    omega
  · cases hx
theorem userOut_64 (l : List Int) : All64 (userOut l) := by
  unfold userOut
  by_cases h : userB l = true
  · rw [if_pos h]
    have := (userB_iff l).1 h
    exact userR_64 l (by have := this.2.2.1; omega)
  · rw [if_neg h]
    exact fun j hj => absurd hj (Nat.not_lt_zero _)
theorem blurOut_64 (r : Int) : All64 (blurOut r) := by
  unfold blurOut
  by_cases h : 0 ≤ r ∧ r ≤ 511
  · rw [if_pos h]
    exact userR_64 _ (by rw [sizeH_ones _ (by omega)]; omega)
  · rw [if_neg h]
    exact fun j hj => absurd hj (Nat.not_lt_zero _)
theorem wX_64 (o : Opr) : All64 (wX o) ∧ All64 (wY o) := by
  unfold wX wY
  by_cases h0 : o.kd = 0
  · rw [if_pos h0, if_pos h0]
    exact ⟨gauOut_64 _, gauOut_64 _⟩
  rw [if_neg h0, if_neg h0]
  by_cases h1 : o.kd = 1
  · rw [if_pos h1, if_pos h1]
    exact ⟨blurOut_64 _, blurOut_64 _⟩
  rw [if_neg h1, if_neg h1]
  exact ⟨userOut_64 _, userOut_64 _⟩
end Go.Proofs.YtlknopmpbkepjaaGreatDoor

/- Heads as lists of bytes: blanks and remarks, numbers, what is wrong first, the text. Plain arithmetic; no number of the program stands in it. -/
namespace Go.Proofs.YtlknopmpbkepjaaGreatDoor
open Go.RowKit

/-- A head as a value: channels, width, height, greatest sample, size. -/
structure Hd where
  hc : Int
  hw : Int
  hh : Int
  ht : Int
  hs : Int
def hd0 : Hd := ⟨0, 0, 0, 0, 0⟩
/-- A number's digits. -/
def decF (n : Nat) : List Int := if n < 10 then [48 + (n : Int)] else decF (n / 10) ++ [48 + ((n % 10 : Nat) : Int)]
decreasing_by omega
theorem decF_small {n : Nat} (h : n < 10) : decF n = [48 + (n : Int)] := by rw [decF, if_pos h]
theorem decF_more {n : Nat} (h : 10 ≤ n) : decF n = decF (n / 10) ++ [48 + ((n % 10 : Nat) : Int)] := by rw [decF, if_neg (by omega)]
theorem decF_digit (n : Nat) : ∀ x ∈ decF n, 48 ≤ x ∧ x ≤ 57 := by
  induction n using Nat.strongRecOn with
  | ind n ih =>
    intro x hx
    by_cases h : n < 10
    · rw [decF_small h, List.mem_singleton] at hx
      omega
    · rw [decF_more (by omega)] at hx
      rcases List.mem_append.1 hx with hx | hx
      · exact ih (n / 10) (by omega) x hx
      · rw [List.mem_singleton] at hx
        omega
end Go.Proofs.YtlknopmpbkepjaaGreatDoor

/- Heads as lists of bytes: the text is parsed to its head; a text that is cut off; remarks and blanks. Plain arithmetic; no number of the program stands in it. -/
namespace Go.Proofs.YtlknopmpbkepjaaGreatDoor
open Go.RowKit


/-- An int's digits. -/
def intF (n : Int) : List Int := if n < 0 then 45 :: decF (-n).toNat else decF n.toNat
end Go.Proofs.YtlknopmpbkepjaaGreatDoor

/- Operations as texts: words, texts, what is parsed; there and back. Plain; no number of the program stands in it. -/
namespace Go.Proofs.YtlknopmpbkepjaaGreatDoor
open Go.RowKit

/-- Lists, with c between. -/
def joinC (c : Int) : List (List Int) → List Int
  | [] => []
  | [p] => p
  | p :: q :: ps => p ++ c :: joinC c (q :: ps)
theorem join_mem {c y : Int} : ∀ {ps : List (List Int)}, y ∈ joinC c ps → y = c ∨ ∃ p ∈ ps, y ∈ p
  | [], h => by cases h
  | [p], h => .inr ⟨p, List.mem_cons_self, h⟩
  | p :: q :: ps, h => by
    rcases List.mem_append.1 h with h | h
    · exact .inr ⟨p, List.mem_cons_self, h⟩
    · rcases List.mem_cons.1 h with h | h
      · exact .inl h
      · rcases join_mem h with h | ⟨r, hr, h⟩
        · exact .inl h
        · exact .inr ⟨r, List.mem_cons_of_mem _ hr, h⟩
/-! ### Numbers as texts -/
theorem intF_mem {n x : Int} (h : x ∈ intF n) : x = 45 ∨ (48 ≤ x ∧ x ≤ 57) := by
  unfold intF at h
  by_cases g : n < 0
  · rw [if_pos g] at h
    rcases List.mem_cons.1 h with h | h
    · exact .inl h
    · exact .inr (decF_digit _ x h)
  · rw [if_neg g] at h
    exact .inr (decF_digit _ x h)
/-- Numbers with commas between. -/
def rowB (xs : List Int) : List Int := joinC 44 (xs.map intF)
theorem rowB_mem {xs : List Int} {y : Int} (h : y ∈ rowB xs) : y = 44 ∨ y = 45 ∨ (48 ≤ y ∧ y ≤ 57) := by
  rcases join_mem h with h | ⟨p, hp, h⟩
  · exact .inl h
  · obtain ⟨x, _, rfl⟩ := List.mem_map.1 hp
    exact .inr (intF_mem h)
/-! ### Words -/
def sgnB (k : Int) : List Int := if k = 0 then [207, 131] else if k = 1 then [226, 150, 161] else if k = 2 then [226, 138, 151] else if k = 3 then [226, 134, 148] else []
def mulB : List Int := [195, 151]
def bordB (b : Int) : List Int := if b = 0 then [99, 108, 97, 109, 112] else if b = 1 then [109, 105, 114, 114, 111, 114] else if b = 2 then [119, 114, 97, 112] else []
def filtB (f : Int) : List Int := if f = 0 then [98, 111, 120] else if f = 1 then [99, 117, 98, 105, 99] else if f = 2 then [108, 97, 110, 99, 122, 111, 115] else []
def bodyB (o : Opr) : List Int := if o.kd = 0 then intF o.sg else if o.kd = 1 then intF o.rd else if o.kd = 2 then rowB o.xs ++ (mulB ++ rowB o.ys) else intF o.wd ++ (mulB ++ (intF o.ht ++ 44 :: filtB o.fl))
def wordB (o : Opr) : List Int := sgnB o.kd ++ (bodyB o ++ 124 :: bordB o.bd)
/-- Has it a word? -/
def mayW (o : Opr) : Bool := decide (0 ≤ o.kd ∧ o.kd ≤ 3 ∧ 0 ≤ o.bd ∧ o.bd ≤ 2 ∧ (o.kd = 3 → 0 ≤ o.fl ∧ o.fl ≤ 2))
theorem mayW_iff {o : Opr} : mayW o = true ↔ 0 ≤ o.kd ∧ o.kd ≤ 3 ∧ 0 ≤ o.bd ∧ o.bd ≤ 2 ∧ (o.kd = 3 → 0 ≤ o.fl ∧ o.fl ≤ 2) := by unfold mayW; exact decide_eq_true_iff
/-- With what its kind asks for alone. -/
def clnO (o : Opr) : Opr := ⟨o.kd, o.bd, if o.kd = 0 then o.sg else 0, if o.kd = 1 then o.rd else 0, if o.kd = 2 then o.xs else [], if o.kd = 2 then o.ys else [], if o.kd = 3 then o.fl else 0, if o.kd = 3 then o.wd else 0, if o.kd = 3 then o.ht else 0⟩
theorem cln_cln (o : Opr) : clnO (clnO o) = clnO o := by
  unfold clnO
  simp only
  congr 1 <;> split <;> rfl
theorem filt_mem {f y : Int} (h : y ∈ filtB f) : 97 ≤ y ∧ y ≤ 122 := by
  unfold filtB at h
  repeat' split at h
  all_goals simp at h
  all_goals omega
theorem bord_mem {b y : Int} (h : y ∈ bordB b) : 97 ≤ y ∧ y ≤ 122 := by
  unfold bordB at h
  repeat' split at h
  all_goals simp at h
  all_goals omega
theorem mul_mem {y : Int} (h : y ∈ mulB) : y = 195 ∨ y = 151 := by simpa [mulB] using h
/-- Of words the kind decides, by its sign. -/
theorem sgn_inj {a b : Int} (a0 : 0 ≤ a) (a1 : a ≤ 3) (b0 : 0 ≤ b) (b1 : b ≤ 3) {p q : List Int} (h : sgnB a ++ p = sgnB b ++ q) : a = b ∧ p = q := by
  rcases (show a = 0 ∨ a = 1 ∨ a = 2 ∨ a = 3 by omega) with rfl | rfl | rfl | rfl <;> rcases (show b = 0 ∨ b = 1 ∨ b = 2 ∨ b = 3 by omega) with rfl | rfl | rfl | rfl <;> simp [sgnB] at h <;> first | exact ⟨rfl, h⟩ | exact ⟨trivial, h⟩ | exact h.elim
/-! ### Texts -/
def printB (L : List Opr) : List Int := joinC 59 (L.map wordB)
/-- Numbers that a word may have. -/
def FitW (o : Opr) : Prop := (∀ x ∈ [o.sg, o.rd, o.fl, o.wd, o.ht], -9223372036854775808 ≤ x ∧ x ≤ 9223372036854775807) ∧ (∀ x ∈ o.xs, -9223372036854775808 ≤ x ∧ x ≤ 9223372036854775807) ∧ ∀ x ∈ o.ys, -9223372036854775808 ≤ x ∧ x ≤ 9223372036854775807
end Go.Proofs.YtlknopmpbkepjaaGreatDoor

/- Texts as lists of bytes. No number of the program stands in it. -/
namespace Go.Proofs.YtlknopmpbkepjaaGreatDoor
open Go.RowKit


/-- A text's bytes, as numbers. -/
def byt (s : ByteArray) : List Int := s.data.toList.map fun b => (b.toNat : Int)
theorem byt_len (s : ByteArray) : (byt s).length = s.size := by unfold byt; rw [List.length_map, Array.length_toList]; rfl
theorem byt_in (s : ByteArray) : ∀ x ∈ byt s, 0 ≤ x ∧ x ≤ 255 := by
  intro x hx
  obtain ⟨b, _, rfl⟩ := List.mem_map.1 hx
  have := b.toNat_lt
  omega
theorem byt_add (a b : ByteArray) : byt (a ++ b) = byt a ++ byt b := by unfold byt; simp [ByteArray.data_append]
theorem byt_inj {a b : ByteArray} (h : byt a = byt b) : a = b := by
  unfold byt at h
  apply ByteArray.ext
  apply Array.toList_inj.1
  exact List.map_inj_right (by intro x y e; exact UInt8.toNat_inj.1 (by omega)) |>.1 h
theorem byt_nums {xs : List Int} (h : ∀ x ∈ xs, 0 ≤ x ∧ x ≤ 255) : byt (strOfNums xs) = xs := by
  unfold byt
  rw [strOfNums_data, List.map_map]
  refine (List.map_congr_left fun x hx => ?_).trans (List.map_id _)
  have := h x hx
  simp [UInt8.toNat_ofNat']
  omega
theorem byt_empty {s : ByteArray} : s.toList.isEmpty = (byt s).isEmpty := by
  unfold byt
  rw [ByteArray.toList_eq]
  simp
end Go.Proofs.YtlknopmpbkepjaaGreatDoor

/- Operations as texts: how long they are; what is a number; cutting at the first place. Plain; no number of the program stands in it. -/
namespace Go.Proofs.YtlknopmpbkepjaaGreatDoor
open Go.RowKit


/-- Is it so in 64 bits? -/
def I64P (x : Int) : Prop := -9223372036854775808 ≤ x ∧ x ≤ 9223372036854775807
theorem decF_le : ∀ (k n : Nat), n < 10 ^ (k + 1) → (decF n).length ≤ k + 1
  | 0, n, h => by rw [decF_small (by simpa using h)]; simp
  | k + 1, n, h => by
    by_cases g : n < 10
    · rw [decF_small g]; simp
    · rw [decF_more (by omega), List.length_append, List.length_singleton]
      have := decF_le k (n / 10) (by rw [Nat.pow_succ] at h; omega)
      omega
theorem decF_19 {n : Nat} (h : n ≤ 9223372036854775808) : (decF n).length ≤ 19 := decF_le 18 n (by omega)
theorem intF_20 {n : Int} (h : I64P n) : (intF n).length ≤ 20 := by
  unfold intF
  unfold I64P at h
  by_cases g : n < 0
  · rw [if_pos g, List.length_cons]
    have := decF_19 (n := (-n).toNat) (by omega)
    omega
  · rw [if_neg g]
    have := decF_19 (n := n.toNat) (by omega)
    omega
theorem rowB_len : ∀ {xs : List Int}, (∀ x ∈ xs, I64P x) → (rowB xs).length ≤ 21 * xs.length
  | [], _ => Nat.le_refl _
  | [x], h => by
    show (intF x).length ≤ 21
    have := intF_20 (h x List.mem_cons_self)
    omega
  | x :: y :: l, h => by
    show (intF x ++ 44 :: rowB (y :: l)).length ≤ _
    have h1 := intF_20 (h x List.mem_cons_self)
    have h2 := rowB_len (xs := y :: l) (fun z hz => h z (List.mem_cons_of_mem _ hz))
    rw [List.length_append, List.length_cons, List.length_cons]
    omega
theorem rowB_more {xs : List Int} (h : xs ≠ []) (x : Int) : rowB (xs ++ [x]) = rowB xs ++ 44 :: intF x := by
  induction xs with
  | nil => exact absurd rfl h
  | cons a l ih =>
    cases l with
    | nil => rfl
    | cons b l =>
      have := ih (List.cons_ne_nil _ _)
      show intF a ++ 44 :: rowB ((b :: l) ++ [x]) = (intF a ++ 44 :: rowB (b :: l)) ++ 44 :: intF x
      rw [this]
      simp
theorem filt_len (f : Int) : (filtB f).length ≤ 7 := by
  unfold filtB
  repeat' split
  all_goals decide
theorem bord_len (b : Int) : (bordB b).length ≤ 6 := by
  unfold bordB
  repeat' split
  all_goals decide
theorem sgn_len (k : Int) : (sgnB k).length ≤ 3 := by
  unfold sgnB
  repeat' split
  all_goals decide
theorem body_len {o : Opr} (h : FitW o) : (bodyB o).length ≤ 50 + 21 * (o.xs.length + o.ys.length) := by
  obtain ⟨h1, h2, h3⟩ := h
  have i1 := intF_20 (n := o.sg) (h1 _ (by simp))
  have i2 := intF_20 (n := o.rd) (h1 _ (by simp))
  have i3 := intF_20 (n := o.wd) (h1 _ (by simp))
  have i4 := intF_20 (n := o.ht) (h1 _ (by simp))
  have r1 := rowB_len h2
  have r2 := rowB_len h3
  have f1 := filt_len o.fl
  unfold bodyB
  have hm : mulB.length = 2 := rfl
  by_cases h0 : o.kd = 0
  · rw [if_pos h0]; omega
  by_cases h1' : o.kd = 1
  · rw [if_neg h0, if_pos h1']; omega
  by_cases h2' : o.kd = 2
  · rw [if_neg h0, if_neg h1', if_pos h2', List.length_append, List.length_append]; omega
  rw [if_neg h0, if_neg h1', if_neg h2', List.length_append, List.length_append, List.length_append, List.length_cons]
  omega
/-! ### The bytes are bytes -/
def Byts (l : List Int) : Prop := ∀ x ∈ l, 0 ≤ x ∧ x ≤ 255
theorem byts_int (n : Int) : Byts (intF n) := fun x h => by have := intF_mem h; omega
theorem byts_row (xs : List Int) : Byts (rowB xs) := fun x h => by have := rowB_mem h; omega
theorem sgn_in {k y : Int} (h : y ∈ sgnB k) : 0 ≤ y ∧ y ≤ 255 := by
  unfold sgnB at h
  repeat' split at h
  all_goals simp at h
  all_goals omega
theorem byts_body (o : Opr) : Byts (bodyB o) := by
  intro y h
  unfold bodyB at h
  by_cases h0 : o.kd = 0
  · rw [if_pos h0] at h; have := intF_mem h; omega
  rw [if_neg h0] at h
  by_cases h1 : o.kd = 1
  · rw [if_pos h1] at h; have := intF_mem h; omega
  rw [if_neg h1] at h
  by_cases h2 : o.kd = 2
  · rw [if_pos h2] at h
    rcases List.mem_append.1 h with h | h
    · have := rowB_mem h; omega
    rcases List.mem_append.1 h with h | h
    · have := mul_mem h; omega
    · have := rowB_mem h; omega
  rw [if_neg h2] at h
  rcases List.mem_append.1 h with h | h
  · have := intF_mem h; omega
  rcases List.mem_append.1 h with h | h
  · have := mul_mem h; omega
  rcases List.mem_append.1 h with h | h
  · have := intF_mem h; omega
  rcases List.mem_cons.1 h with h | h
  · omega
  · have := filt_mem h; omega
/-- A text by its bytes. -/
def txt (l : List Int) : ByteArray := strOfNums l
theorem byt_txt {l : List Int} (h : Byts l) : byt (txt l) = l := byt_nums h
theorem txt_of {t : ByteArray} {l : List Int} (h : byt t = l) : t = txt l := byt_inj (h.trans (byt_nums (fun x hx => byt_in t x (by rw [h]; exact hx))).symm)
theorem txt_size {l : List Int} (h : Byts l) : (txt l).size = l.length := by rw [← byt_len, byt_txt h]
/-! ### The first place -/
/-- Does t stand at i in s? -/
def AtP (t s : List Int) (i : Nat) : Prop := (s.drop i).take t.length = t
theorem at_cut {t s : List Int} {i : Nat} (h : AtP t s i) : s = s.take i ++ (t ++ s.drop (i + t.length)) := by
  unfold AtP at h
  have e : t ++ s.drop (i + t.length) = s.drop i := by
    have d : s.drop (i + t.length) = (s.drop i).drop t.length := by rw [List.drop_drop]
    rw [d]
    conv => lhs; lhs; rw [← h]
    exact List.take_append_drop _ _
  rw [e, List.take_append_drop]
end Go.Proofs.YtlknopmpbkepjaaGreatDoor

/- Operations as texts: an operation that is clean does what it did; words out of their parts. Plain; no number of the program stands in it. -/
namespace Go.Proofs.YtlknopmpbkepjaaGreatDoor
open Go.RowKit


theorem kd_cln (o : Opr) : (clnO o).kd = o.kd := rfl
theorem bd_cln (o : Opr) : (clnO o).bd = o.bd := rfl
theorem okO_cln (o : Opr) (a b : Int) : okO (clnO o) a b = okO o a b := by
  unfold okO clnO
  simp only
  by_cases h3 : o.kd = 3
  · simp [h3]
  · simp [h3]
theorem w_cln {o : Opr} (k0 : 0 ≤ o.kd) (k1 : o.kd ≤ 3) (k3 : o.kd ≠ 3) : wCode (clnO o) = wCode o ∧ wX (clnO o) = wX o ∧ wY (clnO o) = wY o := by
  unfold wCode wX wY clnO
  simp only
  by_cases h0 : o.kd = 0
  · simp [h0]
  by_cases h1 : o.kd = 1
  · simp [h1]
  have h2 : o.kd = 2 := by omega
  simp [h2]
theorem x_cln {o : Opr} (k0 : 0 ≤ o.kd) (k1 : o.kd ≤ 3) (a : Int) : xCode (clnO o) a = xCode o a ∧ yCode (clnO o) a = yCode o a ∧ xLines (clnO o) a = xLines o a ∧ yLines (clnO o) a = yLines o a := by
  unfold xCode yCode xLines yLines
  rw [kd_cln]
  by_cases h3 : o.kd = 3
  · simp only [if_pos h3]
    unfold clnO
    simp [h3]
  · simp only [if_neg h3]
    obtain ⟨_, e1, e2⟩ := w_cln k0 k1 h3
    rw [e1, e2]
    exact ⟨rfl, rfl, rfl, rfl⟩
theorem op_cln (o : Opr) (a b : Int) : opCode (clnO o) a b = opCode o a b := by
  unfold opCode
  rw [okO_cln]
  by_cases h : okO o a b = false
  · rw [if_pos h, if_pos h]
  · have ho : okO o a b = true := by simpa using h
    obtain ⟨⟨k0, k1⟩, _⟩ := (okO_iff o a b).1 ho
    obtain ⟨x1, _, _, _⟩ := x_cln k0 k1 a
    obtain ⟨_, x2, _, _⟩ := x_cln k0 k1 b
    rw [if_neg h, if_neg h, x1, x2, kd_cln]
    by_cases h3 : o.kd = 3
    · rw [if_neg (show ¬ (o.kd ≠ 3 ∧ wCode (clnO o) ≠ 0) from fun q => q.1 h3), if_neg (show ¬ (o.kd ≠ 3 ∧ wCode o ≠ 0) from fun q => q.1 h3)]
    · obtain ⟨w1, _⟩ := w_cln k0 k1 h3
      rw [w1]
theorem stg_cln {o : Opr} {a b : Int} (h : opCode o a b = 0) : stgOf (clnO o) a b = stgOf o a b := by
  have ho : okO o a b = true := by
    cases e : okO o a b with
    | true => rfl
    | false =>
      unfold opCode at h
      rw [if_pos e] at h
      cases h
  obtain ⟨⟨k0, k1⟩, _⟩ := (okO_iff o a b).1 ho
  unfold stgOf
  rw [(x_cln k0 k1 a).2.2.1, (x_cln k0 k1 b).2.2.2]
  rfl
/-! ### Words out of their parts -/
theorem word_of (o : Opr) : wordB o = sgnB o.kd ++ bodyB o ++ 124 :: bordB o.bd := by unfold wordB; rw [List.append_assoc]
/-- The sign that a text begins with. -/
theorem sgn_ne {k : Int} (h : 0 ≤ k ∧ k ≤ 3) : sgnB k ≠ [] := by
  rcases (show k = 0 ∨ k = 1 ∨ k = 2 ∨ k = 3 by omega) with rfl | rfl | rfl | rfl <;> decide
theorem sgn_pre {a b : Int} (ha : 0 ≤ a ∧ a ≤ 3) (hb : 0 ≤ b ∧ b ≤ 3) {s : List Int} (h1 : AtP (sgnB a) s 0) (h2 : AtP (sgnB b) s 0) : a = b := by
  have e1 := at_cut h1
  have e2 := at_cut h2
  rw [List.take_zero, List.nil_append] at e1 e2
  exact (sgn_inj ha.1 ha.2 hb.1 hb.2 (e1.symm.trans e2)).1
end Go.Proofs.YtlknopmpbkepjaaGreatDoor

/- Operations as texts: what a word is made of; which it is, by its parts. Plain; no number of the program stands in it. -/
namespace Go.Proofs.YtlknopmpbkepjaaGreatDoor
open Go.RowKit

def g0 (bo x : Int) : Opr := ⟨0, bo, x, 0, [], [], 0, 0, 0⟩
def g1 (bo x : Int) : Opr := ⟨1, bo, 0, x, [], [], 0, 0, 0⟩
def g2 (bo : Int) (xs ys : List Int) : Opr := ⟨2, bo, 0, 0, xs, ys, 0, 0, 0⟩
def g3 (bo fl wd ht : Int) : Opr := ⟨3, bo, 0, 0, [], [], fl, wd, ht⟩
end Go.Proofs.YtlknopmpbkepjaaGreatDoor

/- Operations as texts: the signs as runes. Plain; no number of the program stands in it. -/
namespace Go.Proofs.YtlknopmpbkepjaaGreatDoor
open Go.RowKit


def runeB (k : Int) : Int := if k = 0 then 963 else if k = 1 then 9633 else if k = 2 then 8855 else if k = 3 then 8596 else 0
theorem rune_at {k : Int} : runeB k = 0 ↔ k < 0 ∨ 3 < k := by
  unfold runeB
  constructor
  · intro h
    repeat' split at h
    all_goals omega
  · intro h
    rw [if_neg (by omega), if_neg (by omega), if_neg (by omega), if_neg (by omega)]
end Go.Proofs.YtlknopmpbkepjaaGreatDoor

/- The library's strconv.Itoa, by the shelf's contract, laid here: a number's digits. -/
namespace Go.Proofs.YtlknopmpbkepjaaGreatDoor
open Go.RowKit


def itoaL_ren : Go.Shelf.Ren := ⟨fun | 171 => 30 | 243 => 41 | 246 => 40 | 283 => 55 | 284 => 56 | 285 => 57 | 286 => 58 | 129 => 84 | 317 => 83 | 318 => 85 | 319 => 86 | 320 => 87 | 337 => 105 | 338 => 106 | n => n, fun | 3 => 3 | 9 => 9 | 2 => 2 | 4 => 4 | 171 => 94 | 0 => 0 | 53 => 95 | 37 => 82 | 5 => 5 | 173 => 98 | 212 => 122 | 51 => 123 | 20 => 20 | 213 => 124 | 46 => 107 | 232 => 147 | 233 => 148 | n => n, fun | 17 => 2 | 18 => 5 | 19 => 6 | n => n⟩
theorem itoaL : Go.Proofs.LaysM.n171 Tryz.prog itoaL_ren := {
  mixed := by kernel_rfl
  f129 := Tryz.func84.trans (congrArg some (by kernel_rfl))
  f171 := Tryz.func30.trans (congrArg some (by kernel_rfl))
  f243 := Tryz.func41.trans (congrArg some (by kernel_rfl))
  f246 := Tryz.func40.trans (congrArg some (by kernel_rfl))
  f283 := Tryz.func55.trans (congrArg some (by kernel_rfl))
  f284 := Tryz.func56.trans (congrArg some (by kernel_rfl))
  f285 := Tryz.func57.trans (congrArg some (by kernel_rfl))
  f286 := Tryz.func58.trans (congrArg some (by kernel_rfl))
  f317 := Tryz.func83.trans (congrArg some (by kernel_rfl))
  f318 := Tryz.func85.trans (congrArg some (by kernel_rfl))
  f319 := Tryz.func86.trans (congrArg some (by kernel_rfl))
  f320 := Tryz.func87.trans (congrArg some (by kernel_rfl))
  f337 := Tryz.func105.trans (congrArg some (by kernel_rfl))
  f338 := Tryz.func106.trans (congrArg some (by kernel_rfl))
  t0 := Tryz.underlying0
  a0 := Tryz.isAgg0
  z0 := Tryz.sizeOf0
  v0 := Tryz.zeroValue0
  t2 := Tryz.underlying2
  a2 := Tryz.isAgg2
  z2 := Tryz.sizeOf2
  v2 := Tryz.zeroValue2
  t3 := Tryz.underlying3
  a3 := Tryz.isAgg3
  z3 := Tryz.sizeOf3
  v3 := Tryz.zeroValue3
  t4 := Tryz.underlying4
  a4 := Tryz.isAgg4
  z4 := Tryz.sizeOf4
  v4 := Tryz.zeroValue4
  t5 := Tryz.underlying5
  a5 := Tryz.isAgg5
  z5 := Tryz.sizeOf5
  v5 := Tryz.zeroValue5
  t9 := Tryz.underlying9
  a9 := Tryz.isAgg9
  z9 := Tryz.sizeOf9
  v9 := Tryz.zeroValue9
  t20 := Tryz.underlying20
  a20 := Tryz.isAgg20
  z20 := Tryz.sizeOf20
  v20 := Tryz.zeroValue20
  t37 := Tryz.underlying82
  a37 := Tryz.isAgg82
  z37 := Tryz.sizeOf82
  v37 := Tryz.zeroValue82
  t46 := Tryz.underlying107
  a46 := Tryz.isAgg107
  z46 := Tryz.sizeOf107
  v46 := Tryz.zeroValue107
  t51 := Tryz.underlying123
  a51 := Tryz.isAgg123
  z51 := Tryz.sizeOf123
  v51 := Tryz.zeroValue123
  t53 := Tryz.underlying95
  a53 := Tryz.isAgg95
  z53 := Tryz.sizeOf95
  v53 := Tryz.zeroValue95
  t171 := Tryz.underlying94
  a171 := Tryz.isAgg94
  z171 := Tryz.sizeOf94
  v171 := Tryz.zeroValue94
  t173 := Tryz.underlying98
  a173 := Tryz.isAgg98
  z173 := Tryz.sizeOf98
  v173 := Tryz.zeroValue98
  t212 := Tryz.underlying122
  a212 := Tryz.isAgg122
  z212 := Tryz.sizeOf122
  v212 := Tryz.zeroValue122
  t213 := Tryz.underlying124
  a213 := Tryz.isAgg124
  z213 := Tryz.sizeOf124
  t232 := Tryz.underlying147
  a232 := Tryz.isAgg147
  z232 := Tryz.sizeOf147
  v232 := Tryz.zeroValue147
  t233 := Tryz.underlying148
  a233 := Tryz.isAgg148
  z233 := Tryz.sizeOf148
  v233 := Tryz.zeroValue148
  g17 := by kernel_rfl
  g18 := by kernel_rfl
  g19 := by kernel_rfl
  i0 := by kernel_rfl
  i2 := by kernel_rfl
  i3 := by kernel_rfl
  i4 := by kernel_rfl
  i5 := by kernel_rfl
  i9 := by kernel_rfl
  i20 := by kernel_rfl
  i37 := by kernel_rfl
  i46 := by kernel_rfl
  i51 := by kernel_rfl
  i53 := by kernel_rfl
  i171 := by kernel_rfl
  i173 := by kernel_rfl
  i212 := by kernel_rfl
  i232 := by kernel_rfl
  i233 := by kernel_rfl
  m17 := by kernel_rfl
  m18 := by kernel_rfl
  m19 := by kernel_rfl }
/-- The library's table of powers of ten is in memory. -/
def Pow10 (w : World) : Prop := Go.Lib.TabIs Tryz.prog w "internal/strconv.uint64pow10" .u64 Go.Lib.pow10Tab
theorem pow10_below (w w' : World) (h : Pow10 w) (hb : Below w.heap.size w w') : Pow10 w' := Go.Joins.tab_stays (g := 2) (by kernel_rfl) h hb (Nat.le_refl _)
theorem dec_map (u : Nat) : (Go.Lib.decDigits u).map (fun b => (b.toNat : Int)) = decF u := by
  induction u using Nat.strongRecOn with
  | ind u ih =>
    rw [Go.Lib.decDigits]
    by_cases h : u < 10
    · rw [dif_pos h, decF_small h, List.map_singleton]
      congr 1
      rw [UInt8.toNat_ofNat']
      omega
    · rw [dif_neg h, decF_more (by omega), List.map_append, ih (u / 10) (by omega), List.map_singleton]
      congr 2
      rw [UInt8.toNat_ofNat']
      omega
theorem itoa_byt (n : Int) : byt ⟨(Go.Lib.itoa n).toArray⟩ = intF n := by
  unfold byt Go.Lib.itoa intF
  show List.map (fun b : UInt8 => (b.toNat : Int)) _ = _
  by_cases h : n < 0
  · rw [if_pos h, if_pos h, List.map_cons, dec_map, show n.natAbs = (-n).toNat by omega]
    rfl
  · rw [if_neg h, if_neg h, dec_map]
theorem below_grow (w : World) (k : Nat) (os : Array Obj) : Below w.heap.size w (Go.Sort.grow (w.drewN k) os) :=
  (bdN (Below.refl _ w) k).trans ⟨rfl, rfl, rfl, by simp [Go.Sort.grow], fun j hj => by
    show ((w.drewN k).heap ++ os)[j]? = _
    exact Array.getElem?_append_left hj⟩
end Go.Proofs.YtlknopmpbkepjaaGreatDoor
