/- Parts, joined. -/
import Derived.Test.YtaafhjngnjjcmaaGreatDoorJ16
import Derived.Test.YtaafhjngnjjcmaaGreatDoorJ01
import Derived.Test.YtaafhjngnjjcmaaGreatDoorJ11
import Derived.Test.YtaafhjngnjjcmaaGreatDoorJ12
import Derived.Laws.BitsLemmas
import Derived.Deep.LoopGhost
import Derived.Deep.RegionHeld3
import Derived.Deep.QuietTactic
import Derived.BigQuiet
/- Operations: their codes, their tables, the sizes that they lead to; one behind the other. Plain; no number of the program stands in it. -/
namespace Go.Proofs.YtaafhjngnjjcmaaGreatDoor
open Go.RowKit


/-- An operation. -/
structure Opr where
  kd : Int
  bd : Int
  sg : Int
  rd : Int
  xs : List Int
  ys : List Int
  fl : Int
  wd : Int
  ht : Int
/-- What its kind's weights tell. -/
def wCode (o : Opr) : Int := if o.kd = 0 then gauCode o.sg else if o.kd = 1 then blurCode o.rd else if userCode o.xs ≠ 0 then userCode o.xs else userCode o.ys
def wX (o : Opr) : List Int := if o.kd = 0 then gauOut o.sg else if o.kd = 1 then blurOut o.rd else userOut o.xs
def wY (o : Opr) : List Int := if o.kd = 0 then gauOut o.sg else if o.kd = 1 then blurOut o.rd else userOut o.ys
/-- May it be, of such sizes? -/
def okO (o : Opr) (w h : Int) : Bool := decide (0 ≤ o.kd) && decide (o.kd ≤ 3) && decide (0 ≤ o.bd) && decide (o.bd ≤ 2) && sideB w && sideB h && (decide (o.kd ≠ 3) || (sideB o.wd && sideB o.ht && decide (0 ≤ o.fl) && decide (o.fl ≤ 2)))
theorem okO_iff (o : Opr) (w h : Int) : okO o w h = true ↔ (0 ≤ o.kd ∧ o.kd ≤ 3) ∧ (0 ≤ o.bd ∧ o.bd ≤ 2) ∧ (1 ≤ w ∧ w ≤ 65536) ∧ (1 ≤ h ∧ h ≤ 65536) ∧ (o.kd = 3 → (1 ≤ o.wd ∧ o.wd ≤ 65536) ∧ (1 ≤ o.ht ∧ o.ht ≤ 65536) ∧ 0 ≤ o.fl ∧ o.fl ≤ 2) := by
  unfold okO
  simp only [Bool.and_eq_true, Bool.or_eq_true, decide_eq_true_eq, sideB_iff]
  constructor
  · rintro ⟨⟨⟨⟨⟨⟨a, b⟩, c⟩, d⟩, e⟩, f⟩, g⟩
    refine ⟨⟨a, b⟩, ⟨c, d⟩, e, f, fun h3 => ?_⟩
    rcases g with g | ⟨⟨⟨g1, g2⟩, g3⟩, g4⟩
    · exact absurd h3 g
    · exact ⟨g1, g2, g3, g4⟩
  · rintro ⟨⟨a, b⟩, ⟨c, d⟩, e, f, g⟩
    refine ⟨⟨⟨⟨⟨⟨a, b⟩, c⟩, d⟩, e⟩, f⟩, ?_⟩
    by_cases h3 : o.kd = 3
    · obtain ⟨g1, g2, g3, g4⟩ := g h3
      exact .inr ⟨⟨⟨g1, g2⟩, g3⟩, g4⟩
    · exact .inl h3
def xCode (o : Opr) (w : Int) : Int := if o.kd = 3 then resCode o.fl w o.wd else filCode (wX o) w
def yCode (o : Opr) (h : Int) : Int := if o.kd = 3 then resCode o.fl h o.ht else filCode (wY o) h
def xLines (o : Opr) (w : Int) : List (Int × List Int) := if o.kd = 3 then linesTo o.fl w o.wd o.wd.toNat else filTo (wX o) w.toNat
def yLines (o : Opr) (h : Int) : List (Int × List Int) := if o.kd = 3 then linesTo o.fl h o.ht o.ht.toNat else filTo (wY o) h.toNat
/-- What is wrong first. -/
def opCode (o : Opr) (w h : Int) : Int := if okO o w h = false then 6 else if o.kd ≠ 3 ∧ wCode o ≠ 0 then wCode o else if xCode o w ≠ 0 then xCode o w else yCode o h
/-- The sizes that it leads to. -/
def toW (o : Opr) (w : Int) : Int := if o.kd = 3 then o.wd else w
def toH (o : Opr) (h : Int) : Int := if o.kd = 3 then o.ht else h
/-- What an operation does: lines both ways, what they are from, the border. -/
structure Stg where
  lx : List (Int × List Int)
  ly : List (Int × List Int)
  fx : Int
  fy : Int
  sb : Int
def stgOf (o : Opr) (w h : Int) : Stg := ⟨xLines o w, yLines o h, w, h, o.bd⟩
def op0 : Opr := ⟨0, 0, 0, 0, [], [], 0, 0, 0⟩
def opAt (L : List Opr) (j : Nat) : Opr := L.getD j op0
/-- The sizes ahead of the k-th operation. -/
def whAt (L : List Opr) (w h : Int) : Nat → Int × Int
  | 0 => (w, h)
  | k + 1 => (toW (opAt L k) (whAt L w h k).1, toH (opAt L k) (whAt L w h k).2)
def stepCode (L : List Opr) (w h c : Int) (k : Nat) : Int :=
  if opCode (opAt L k) (whAt L w h k).1 (whAt L w h k).2 ≠ 0 then opCode (opAt L k) (whAt L w h k).1 (whAt L w h k).2 else if fitsF (whAt L w h (k + 1)).1 (whAt L w h (k + 1)).2 c = true then 0 else 5
def firstA (L : List Opr) (w h c : Int) : Nat → Int
  | 0 => 0
  | k + 1 => if firstA L w h c k ≠ 0 then firstA L w h c k else stepCode L w h c k
def allCode (L : List Opr) (w h c : Int) : Int := if 16 < L.length then 6 else if fitsF w h c = false then 5 else firstA L w h c L.length
def stgAt (L : List Opr) (w h : Int) (k : Nat) : Stg := stgOf (opAt L k) (whAt L w h k).1 (whAt L w h k).2
theorem firstA_stays {L : List Opr} {w h c : Int} {a : Nat} (n : firstA L w h c a ≠ 0) {b : Nat} (hb : a ≤ b) : firstA L w h c b = firstA L w h c a := by
  induction b with
  | zero => rw [Nat.le_zero.1 hb]
  | succ b ih =>
    rcases Nat.lt_or_ge b a with h1 | h1
    · rw [show b + 1 = a by omega]
    · have := ih h1
      show (if firstA L w h c b ≠ 0 then firstA L w h c b else stepCode L w h c b) = _
      rw [if_pos (by rw [this]; exact n), this]
theorem firstA_step {L : List Opr} {w h c : Int} {k n : Nat} (hf : firstA L w h c k = 0) (hs : stepCode L w h c k ≠ 0) (hk : k < n) : firstA L w h c n = stepCode L w h c k := by
  have e : firstA L w h c (k + 1) = stepCode L w h c k := by
    show (if firstA L w h c k ≠ 0 then firstA L w h c k else stepCode L w h c k) = _
    rw [if_neg (by rw [hf]; decide)]
  rw [firstA_stays (a := k + 1) (by rw [e]; exact hs) (by omega), e]
theorem firstA_next {L : List Opr} {w h c : Int} {k : Nat} (hf : firstA L w h c k = 0) (hs : stepCode L w h c k = 0) : firstA L w h c (k + 1) = 0 := by
  show (if firstA L w h c k ≠ 0 then firstA L w h c k else stepCode L w h c k) = _
  rw [if_neg (by rw [hf]; decide), hs]
theorem firstA_back {L : List Opr} {w h c : Int} {n : Nat} (hf : firstA L w h c n = 0) {k : Nat} (hk : k < n) : firstA L w h c k = 0 ∧ stepCode L w h c k = 0 := by
  have a : firstA L w h c k = 0 := by
    by_cases e : firstA L w h c k = 0
    · exact e
    · have := firstA_stays e (Nat.le_of_lt hk)
      rw [hf] at this
      exact this.symm
  refine ⟨a, ?_⟩
  by_cases e : stepCode L w h c k = 0
  · exact e
  · have := firstA_step a e hk
    rw [hf] at this
    exact this.symm
theorem gauOut_len {s : Int} (h : gauCode s = 0) : (gauOut s).length % 2 = 1 ∧ (gauOut s).length ≤ 1048576 := by
  unfold gauCode at h
  unfold gauOut
  split at h
  · rename_i hs
    rw [if_pos hs]
    unfold gaussR
    rw [gaussTo_len]
    have : (radG s).toNat ≤ 192 := by unfold radG; omega
    omega
  · omega
theorem userR_len (l : List Int) : (userR l).length = l.length := by unfold userR; rw [List.length_map]
theorem userOut_lenO {l : List Int} (h : userCode l = 0) : (userOut l).length % 2 = 1 ∧ (userOut l).length ≤ 1048576 := by
  unfold userCode at h
  unfold userOut
  split at h
  · rename_i hs
    rw [if_pos hs, userR_len]
    have := (userB_iff l).1 hs
    exact ⟨this.1, by have := this.2.1; omega⟩
  · omega
theorem blurOut_len {r : Int} (h : blurCode r = 0) : (blurOut r).length % 2 = 1 ∧ (blurOut r).length ≤ 1048576 := by
  unfold blurCode at h
  unfold blurOut
  split at h
  · rename_i hs
    rw [if_pos hs, userR_len, List.length_replicate]
    omega
  · omega
/-- Weights that there are: as many as a table may have. -/
theorem wX_len {o : Opr} (h : wCode o = 0) : (wX o).length ≤ 1048576 ∧ (wY o).length ≤ 1048576 := by
  unfold wCode at h
  unfold wX wY
  by_cases h0 : o.kd = 0
  · rw [if_pos h0] at h ⊢
    rw [if_pos h0]
    exact ⟨(gauOut_len h).2, (gauOut_len h).2⟩
  rw [if_neg h0] at h ⊢
  rw [if_neg h0]
  by_cases h1 : o.kd = 1
  · rw [if_pos h1] at h ⊢
    rw [if_pos h1]
    exact ⟨(blurOut_len h).2, (blurOut_len h).2⟩
  rw [if_neg h1] at h ⊢
  rw [if_neg h1]
  by_cases h2 : userCode o.xs ≠ 0
  · rw [if_pos h2] at h; exact absurd h h2
  · rw [if_neg h2] at h
    exact ⟨(userOut_lenO (by omega)).2, (userOut_lenO h).2⟩
theorem mem_64 {l : List Int} (h : ∀ x ∈ l, -9223372036854775808 ≤ x ∧ x ≤ 9223372036854775807) : All64 l := fun j hj => by
  rw [List.getD_eq_getElem?_getD, List.getElem?_eq_getElem hj]
  exact h _ (List.getElem_mem hj)
theorem userR_64 (l : List Int) (hs : sizeH l ≠ 0) : All64 (userR l) := by
  refine mem_64 fun x hx => ?_
  obtain ⟨y, _, rfl⟩ := List.mem_map.1 hx
  rw [divF_of hs]
  exact ⟨holdI0 _, holdI1 _⟩
theorem gauOut_64 (s : Int) : All64 (gauOut s) := by
  refine mem_64 fun x hx => ?_
  unfold gauOut at hx
  split at hx
  · obtain ⟨k, _, rfl⟩ := List.mem_map.1 hx
    have := gaussF_unit ((k : Int) - radG s) s
    omega
  · cases hx
theorem userOut_64 (l : List Int) : All64 (userOut l) := by
  unfold userOut
  by_cases h : userB l = true
  · rw [if_pos h]
    have := (userB_iff l).1 h
    exact userR_64 l (by have := this.2.2.1; omega)
  · rw [if_neg h]
    exact fun j hj => absurd hj (Nat.not_lt_zero _)
theorem blurOut_64 (r : Int) : All64 (blurOut r) := by
  unfold blurOut
  by_cases h : 0 ≤ r ∧ r ≤ 511
  · rw [if_pos h]
    exact userR_64 _ (by rw [sizeH_ones _ (by omega)]; omega)
  · rw [if_neg h]
    exact fun j hj => absurd hj (Nat.not_lt_zero _)
theorem wX_64 (o : Opr) : All64 (wX o) ∧ All64 (wY o) := by
  unfold wX wY
  by_cases h0 : o.kd = 0
  · rw [if_pos h0, if_pos h0]
    exact ⟨gauOut_64 _, gauOut_64 _⟩
  rw [if_neg h0, if_neg h0]
  by_cases h1 : o.kd = 1
  · rw [if_pos h1, if_pos h1]
    exact ⟨blurOut_64 _, blurOut_64 _⟩
  rw [if_neg h1, if_neg h1]
  exact ⟨userOut_64 _, userOut_64 _⟩
theorem fits_side {a b c : Int} (h : fitsF a b c = true) : (1 ≤ a ∧ a ≤ 65536) ∧ (1 ≤ b ∧ b ≤ 65536) ∧ (c = 1 ∨ c = 3) := by
  obtain ⟨a0, a1, b0, b1, hc, _⟩ := fitsF_iff.1 h
  exact ⟨⟨a0, a1⟩, ⟨b0, b1⟩, hc⟩
end Go.Proofs.YtaafhjngnjjcmaaGreatDoor

/- What stands beyond the edge: plain arithmetic. No number of the program stands in it. -/
namespace Go.Proofs.YtaafhjngnjjcmaaGreatDoor


/-- What stands for j, of n, by a policy. -/
def EdgeP (p n : Int) : Prop := 0 ≤ p ∧ p ≤ 2 ∧ 1 ≤ n ∧ n ≤ 65536
def edgeB (p n : Int) : Bool := decide (0 ≤ p) && decide (p ≤ 2) && decide (1 ≤ n) && decide (n ≤ 65536)
theorem edgeB_iff (p n : Int) : edgeB p n = true ↔ EdgeP p n := by unfold edgeB EdgeP; simp; omega
def clampE (j n : Int) : Int := if j < 0 then 0 else if n ≤ j then n - 1 else j
def mirrorE (j n : Int) : Int := if j % (2 * n) < n then j % (2 * n) else 2 * n - 1 - j % (2 * n)
def atF (p j n : Int) : Int := if edgeB p n = true then (if p = 0 then clampE j n else if p = 1 then mirrorE j n else j % n) else 0
theorem atF_no {p j n : Int} (h : ¬ EdgeP p n) : atF p j n = 0 := if_neg fun g => h ((edgeB_iff p n).1 g)
theorem edge_mk {p n : Int} (h0 : 0 ≤ p) (h1 : p ≤ 2) (n0 : 1 ≤ n) (n1 : n ≤ 65536) : edgeB p n = true := (edgeB_iff p n).2 ⟨h0, h1, n0, n1⟩
theorem atF_clamp {j n : Int} (n0 : 1 ≤ n) (n1 : n ≤ 65536) : atF 0 j n = clampE j n := by unfold atF; rw [if_pos (edge_mk (by omega) (by omega) n0 n1), if_pos rfl]
theorem atF_mirror {j n : Int} (n0 : 1 ≤ n) (n1 : n ≤ 65536) : atF 1 j n = mirrorE j n := by unfold atF; rw [if_pos (edge_mk (by omega) (by omega) n0 n1), if_neg (by omega), if_pos rfl]
theorem atF_wrap {j n : Int} (n0 : 1 ≤ n) (n1 : n ≤ 65536) : atF 2 j n = j % n := by unfold atF; rw [if_pos (edge_mk (by omega) (by omega) n0 n1), if_neg (by omega), if_neg (by omega)]
theorem rest_of {m x y : Int} (q : Int) (h : x = m * q + y) (h0 : 0 ≤ y) (h1 : y < m) : x % m = y := mod_of h h0 h1
/-- By once the side, out of by twice. -/
theorem mod_twice {j n : Int} (n0 : 1 ≤ n) : j % n = if j % (2 * n) < n then j % (2 * n) else j % (2 * n) - n := by
  have e := Int.mul_ediv_add_emod j (2 * n)
  have r0 := Int.emod_nonneg j (show 2 * n ≠ 0 by omega)
  have r1 := Int.emod_lt_of_pos j (show 0 < 2 * n by omega)
  generalize j % (2 * n) = r at *
  have e2 : 2 * n * (j / (2 * n)) = n * (2 * (j / (2 * n))) := by rw [Int.mul_comm 2 n, Int.mul_assoc]
  rw [e2] at e
  split
  · exact mod_of (q := 2 * (j / (2 * n))) e.symm r0 (by omega)
  · exact mod_of (q := 2 * (j / (2 * n)) + 1) (by rw [Int.mul_add, Int.mul_one]; omega) (by omega) (by omega)
theorem clampE_in {j n : Int} (n0 : 1 ≤ n) : 0 ≤ clampE j n ∧ clampE j n < n := by unfold clampE; split <;> (try split) <;> omega
theorem mirrorE_in {j n : Int} (n0 : 1 ≤ n) : 0 ≤ mirrorE j n ∧ mirrorE j n < n := by
  have r0 := Int.emod_nonneg j (show 2 * n ≠ 0 by omega)
  have r1 := Int.emod_lt_of_pos j (show 0 < 2 * n by omega)
  unfold mirrorE; split <;> omega
theorem wrapE_in {j n : Int} (n0 : 1 ≤ n) : 0 ≤ j % n ∧ j % n < n := ⟨Int.emod_nonneg j (by omega), Int.emod_lt_of_pos j (by omega)⟩
theorem atF_in {p j n : Int} (h : EdgeP p n) : 0 ≤ atF p j n ∧ atF p j n < n := by
  obtain ⟨p0, p1, n0, n1⟩ := h
  unfold atF
  rw [if_pos (edge_mk p0 p1 n0 n1)]
  split
  · exact clampE_in n0
  · split
    · exact mirrorE_in n0
    · exact wrapE_in n0
theorem atF_i64 (p j n : Int) : 0 ≤ atF p j n ∧ atF p j n ≤ 65535 := by
  by_cases h : EdgeP p n
  · have := atF_in (j := j) h
    have := h.2.2.2
    omega
  · rw [atF_no h]; omega
theorem clampE_self {j n : Int} (h0 : 0 ≤ j) (h1 : j < n) : clampE j n = j := by unfold clampE; rw [if_neg (by omega), if_neg (by omega)]
theorem mirrorE_self {j n : Int} (h0 : 0 ≤ j) (h1 : j < n) : mirrorE j n = j := by unfold mirrorE; rw [Int.emod_eq_of_lt h0 (by omega), if_pos h1]
theorem atF_self {p j n : Int} (h : EdgeP p n) (h0 : 0 ≤ j) (h1 : j < n) : atF p j n = j := by
  obtain ⟨p0, p1, n0, n1⟩ := h
  unfold atF
  rw [if_pos (edge_mk p0 p1 n0 n1), clampE_self h0 h1, mirrorE_self h0 h1, Int.emod_eq_of_lt h0 h1]
  split
  · rfl
  · split <;> rfl
/-! ### Going round -/
theorem wrap_round {j n : Int} : (j + n) % n = j % n := Int.add_emod_right ..
theorem wrap_next {j n : Int} : (j + 1) % n = (j % n + 1) % n := (Int.emod_add_emod ..).symm
theorem wrap_step {j n : Int} (n0 : 1 ≤ n) : (j + 1) % n = if j % n = n - 1 then 0 else j % n + 1 := by
  have e := Int.mul_ediv_add_emod j n
  obtain ⟨r0, r1⟩ := wrapE_in (j := j) n0
  generalize j % n = r at *
  split
  · exact mod_of (q := j / n + 1) (by rw [Int.mul_add, Int.mul_one]; omega) (by omega) (by omega)
  · exact mod_of (q := j / n) (by omega) (by omega) (by omega)
theorem mirror_round {j n : Int} : mirrorE (j + 2 * n) n = mirrorE j n := by unfold mirrorE; rw [wrap_round]
theorem mirror_turn {j n : Int} (n0 : 1 ≤ n) : mirrorE (-1 - j) n = mirrorE j n := by
  have e := Int.mul_ediv_add_emod j (2 * n)
  have r0 := Int.emod_nonneg j (show 2 * n ≠ 0 by omega)
  have r1 := Int.emod_lt_of_pos j (show 0 < 2 * n by omega)
  have g : (-1 - j) % (2 * n) = 2 * n - 1 - j % (2 * n) := by
    refine mod_of (q := -(j / (2 * n)) - 1) ?_ (by omega) (by omega)
    rw [Int.mul_sub, Int.mul_neg, Int.mul_one]; omega
  unfold mirrorE
  rw [g]
  generalize j % (2 * n) = r at *
  split <;> split <;> omega
theorem mirror_step {j n : Int} (n0 : 1 ≤ n) : mirrorE (j + 1) n - mirrorE j n ≤ 1 ∧ mirrorE j n - mirrorE (j + 1) n ≤ 1 := by
  have r0 := Int.emod_nonneg j (show 2 * n ≠ 0 by omega)
  have r1 := Int.emod_lt_of_pos j (show 0 < 2 * n by omega)
  have s := wrap_step (j := j) (n := 2 * n) (by omega)
  unfold mirrorE
  rw [s]
  generalize j % (2 * n) = r at *
  split <;> split <;> (try split) <;> (try split) <;> omega
theorem clamp_step {j n : Int} (n0 : 1 ≤ n) : clampE (j + 1) n - clampE j n ≤ 1 ∧ clampE j n - clampE (j + 1) n ≤ 1 := by
  unfold clampE
  split <;> split <;> (try split) <;> (try split) <;> omega
theorem mirror_min {j n : Int} : min (j % (2 * n)) (2 * n - 1 - j % (2 * n)) = mirrorE j n := by
  unfold mirrorE; split <;> omega
theorem tmod_round {a m : Int} (hm : 0 < m) : a.tmod m % m = a % m ∧ -m < a.tmod m ∧ a.tmod m < m := by
  have e := Int.mul_tdiv_add_tmod a m
  have b0 := Int.tmod_lt_of_pos a hm
  have b1 : -m < a.tmod m := by
    by_cases h : 0 ≤ a
    · have := Int.tmod_nonneg m h; omega
    · have g : a.tmod m = -((-a).tmod m) := by rw [Int.neg_tmod, Int.neg_neg]
      have := Int.tmod_lt_of_pos (-a) hm
      omega
  refine ⟨?_, b1, b0⟩
  have g : a = a.tmod m + m * a.tdiv m := by omega
  conv => rhs; rw [g]
  rw [Int.add_mul_emod_self_left]
end Go.Proofs.YtaafhjngnjjcmaaGreatDoor

/- What comes out, sample by sample: sums over taps, rounded; images out of stages. Plain; no number of the program stands in it. -/
namespace Go.Proofs.YtaafhjngnjjcmaaGreatDoor
open Go.RowKit


/-! ### Going round at 2^64 -/
theorem w64_add (a b : Int) : IntKind.i64.wrap (IntKind.i64.wrap a + b) = IntKind.i64.wrap (a + b) := by rw [IntKind.wrap_i64, IntKind.wrap_i64, IntKind.wrap_i64]; omega
theorem w64_add2 (a b : Int) : IntKind.i64.wrap (a + IntKind.i64.wrap b) = IntKind.i64.wrap (a + b) := by rw [Int.add_comm, w64_add, Int.add_comm]
theorem w64_of (a : Int) : ∃ q, IntKind.i64.wrap a = a + 18446744073709551616 * q := by
  rw [IntKind.wrap_i64]
  refine ⟨-((a + 9223372036854775808) / 18446744073709551616), ?_⟩
  have := Int.mul_ediv_add_emod (a + 9223372036854775808) 18446744073709551616
  omega
theorem w64_eq {a b q : Int} (h : a = b + 18446744073709551616 * q) : IntKind.i64.wrap a = IntKind.i64.wrap b := by
  rw [IntKind.wrap_i64, IntKind.wrap_i64, h]
  omega
theorem w64_mul (a b : Int) : IntKind.i64.wrap (IntKind.i64.wrap a * b) = IntKind.i64.wrap (a * b) := by
  obtain ⟨q, hq⟩ := w64_of a
  rw [hq]
  exact w64_eq (q := q * b) (by rw [Int.add_mul, Int.mul_assoc])
theorem w64_mul2 (a b : Int) : IntKind.i64.wrap (a * IntKind.i64.wrap b) = IntKind.i64.wrap (a * b) := by rw [Int.mul_comm, w64_mul, Int.mul_comm]
theorem w64_in (a : Int) : -9223372036854775808 ≤ IntKind.i64.wrap a ∧ IntKind.i64.wrap a ≤ 9223372036854775807 := by rw [IntKind.wrap_i64]; omega
theorem w64_self {a : Int} (h0 : -9223372036854775808 ≤ a) (h1 : a ≤ 9223372036854775807) : IntKind.i64.wrap a = a := by rw [IntKind.wrap_i64]; omega
/-- A product more, going round everywhere. -/
theorem w64_step (s a v : Int) : IntKind.i64.wrap (IntKind.i64.wrap s + IntKind.i64.wrap (a * IntKind.i64.wrap v)) = IntKind.i64.wrap (s + a * v) := by rw [w64_add, w64_add2, ← w64_add2, w64_mul2, w64_add2]
/-! ### Sums over taps -/
def tapS (ts : List Int) (f : Nat → Int) : Nat → Int
  | 0 => 0
  | k + 1 => tapS ts f k + ts.getD k 0 * f k
theorem tapS_congr {ts : List Int} {f g : Nat → Int} {n : Nat} (h : ∀ i, i < n → f i = g i) : tapS ts f n = tapS ts g n := by
  induction n with
  | zero => rfl
  | succ n ih => show tapS ts f n + _ * f n = tapS ts g n + _ * g n; rw [ih (fun i hi => h i (by omega)), h n (by omega)]
theorem tapS_add (ts : List Int) (f g : Nat → Int) (n : Nat) : tapS ts (fun i => f i + g i) n = tapS ts f n + tapS ts g n := by
  induction n with
  | zero => rfl
  | succ n ih =>
    show tapS ts (fun i => f i + g i) n + ts.getD n 0 * (f n + g n) = tapS ts f n + ts.getD n 0 * f n + (tapS ts g n + ts.getD n 0 * g n)
    rw [ih, Int.mul_add]
    omega
theorem tapS_mul (ts : List Int) (u : Int) (f : Nat → Int) (n : Nat) : tapS ts (fun i => u * f i) n = u * tapS ts f n := by
  induction n with
  | zero => exact (Int.mul_zero u).symm
  | succ n ih =>
    show tapS ts (fun i => u * f i) n + ts.getD n 0 * (u * f n) = u * (tapS ts f n + ts.getD n 0 * f n)
    rw [ih, Int.mul_add, ← Int.mul_assoc, Int.mul_comm (ts.getD n 0) u, Int.mul_assoc]
theorem tapS_zero (ts : List Int) (n : Nat) : tapS ts (fun _ => 0) n = 0 := by
  induction n with
  | zero => rfl
  | succ n ih => show tapS ts (fun _ => 0) n + _ * 0 = 0; rw [ih, Int.mul_zero]; rfl
/-- Columns first, or rows first. -/
theorem tap_swap (us bs : List Int) (g : Nat → Nat → Int) (n m : Nat) : tapS us (fun i => tapS bs (fun k => g i k) m) n = tapS bs (fun k => tapS us (fun i => g i k) n) m := by
  induction n with
  | zero => exact (tapS_zero bs m).symm
  | succ n ih =>
    show tapS us (fun i => tapS bs (fun k => g i k) m) n + us.getD n 0 * tapS bs (fun k => g n k) m = tapS bs (fun k => tapS us (fun i => g i k) n + us.getD n 0 * g n k) m
    rw [tapS_add, ih, tapS_mul]
theorem tapS_const (ts : List Int) (v : Int) (n : Nat) (hn : n ≤ ts.length) : tapS ts (fun _ => v) n = (ts.take n).sum * v := by
  induction n with
  | zero => exact (Int.zero_mul v).symm
  | succ n ih =>
    show tapS ts (fun _ => v) n + ts.getD n 0 * v = _
    rw [ih (by omega), List.take_succ_eq_append_getElem (by omega), List.sum_append, List.sum_singleton, List.getD_eq_getElem?_getD, List.getElem?_eq_getElem (by omega), Int.add_mul]
    rfl
/-! ### The sum of an output sample -/
/-- The source sample that stands for the one that a tap is of. -/
def cellF (I : Im) (S : Stg) (x y : Nat) (c : Int) (i k : Nat) : Int := imAt I (atF S.sb ((lnAt S.lx x).1 + (i : Int)) I.iw) (atF S.sb ((lnAt S.ly y).1 + (k : Int)) I.ih) c
def sumF (I : Im) (S : Stg) (x y : Nat) (c : Int) : Int := tapS (lnAt S.lx x).2 (fun i => tapS (lnAt S.ly y).2 (fun k => cellF I S x y c i k) (lnAt S.ly y).2.length) (lnAt S.lx x).2.length
theorem sumF_rows (I : Im) (S : Stg) (x y : Nat) (c : Int) : sumF I S x y c = tapS (lnAt S.ly y).2 (fun k => tapS (lnAt S.lx x).2 (fun i => cellF I S x y c i k) (lnAt S.lx x).2.length) (lnAt S.ly y).2.length := tap_swap _ _ _ _ _
/-- What a number holds of it. -/
def sumW (I : Im) (S : Stg) (x y : Nat) (c : Int) : Int := IntKind.i64.wrap (sumF I S x y c)
def mostC (t : Int) : Int := if t < 0 then 0 else if 65535 < t then 65535 else t
def roundF (s t : Int) : Int := if shiftF s 28 < 0 then 0 else if mostC t < shiftF s 28 then mostC t else shiftF s 28
theorem mostC_in (t : Int) : 0 ≤ mostC t ∧ mostC t ≤ 65535 := by unfold mostC; split <;> (try split) <;> omega
theorem mostC_self {t : Int} (h0 : 0 ≤ t) (h1 : t ≤ 65535) : mostC t = t := by unfold mostC; rw [if_neg (by omega), if_neg (by omega)]
theorem roundF_in (s t : Int) : 0 ≤ roundF s t ∧ roundF s t ≤ mostC t := by
  have := mostC_in t
  unfold roundF
  split
  · omega
  · split <;> omega
theorem roundF_law (s t : Int) : roundF s t ≤ max 0 t := by
  have := (roundF_in s t).2
  have h : mostC t ≤ max 0 t := by unfold mostC; split <;> (try split) <;> omega
  omega
theorem shiftF_28 (v : Int) : shiftF (v * 268435456) 28 = v := by
  unfold shiftF
  rw [if_neg (by decide), if_neg (by decide)]
  have e : (v * 268435456) / 2 ^ ((28 : Int).toNat - 1) = v * 2 := by
    rw [show (2 : Int) ^ ((28 : Int).toNat - 1) = 134217728 by decide]
    omega
  rw [e]
  omega
/-- Of samples that are all one the sum comes to just so many. -/
theorem sumF_flat {I : Im} {S : Stg} {x y : Nat} {c v : Int} (hx : (lnAt S.lx x).2.sum = 16384) (hy : (lnAt S.ly y).2.sum = 16384) (h : ∀ i k, cellF I S x y c i k = v) : sumF I S x y c = v * 268435456 := by
  unfold sumF
  have e : tapS (lnAt S.ly y).2 (fun _ => v) (lnAt S.ly y).2.length = 16384 * v := by rw [tapS_const _ _ _ (Nat.le_refl _), List.take_of_length_le (Nat.le_refl _), hy]
  rw [tapS_congr (g := fun _ => 16384 * v) (fun i _ => by rw [← e]; exact tapS_congr (fun k _ => h i k)), tapS_const _ _ _ (Nat.le_refl _), List.take_of_length_le (Nat.le_refl _), hx]
  omega
theorem round_flat {v t : Int} (h0 : 0 ≤ v) (h1 : v ≤ t) (ht : t ≤ 65535) : roundF (IntKind.i64.wrap (v * 268435456)) t = v := by
  rw [w64_self (by omega) (by omega)]
  unfold roundF
  rw [shiftF_28, mostC_self (by omega) ht, if_neg (by omega), if_neg (by omega)]
/-! ### Images -/
/-- The k-th sample that comes out of so many columns and channels. -/
def outF (I : Im) (S : Stg) (k : Nat) : Int := roundF (sumW I S (k / I.ic.toNat % S.lx.length) (k / I.ic.toNat / S.lx.length) ((k % I.ic.toNat : Nat) : Int)) I.it
def applyF (I : Im) (S : Stg) : Im := ⟨(S.lx.length : Int), (S.ly.length : Int), I.ic, I.it, (List.range (S.ly.length * S.lx.length * I.ic.toNat)).map (outF I S)⟩
theorem out_place {C W x y c : Nat} (hc : c < C) (hx : x < W) : ((y * W + x) * C + c) % C = c ∧ ((y * W + x) * C + c) / C % W = x ∧ ((y * W + x) * C + c) / C / W = y := by
  have e : ((y * W + x) * C + c) / C = y * W + x := by
    rw [Nat.add_comm, Nat.add_mul_div_right _ _ (by omega), Nat.div_eq_of_lt hc, Nat.zero_add]
  rw [e]
  refine ⟨by rw [Nat.add_comm, Nat.add_mul_mod_self_right, Nat.mod_eq_of_lt hc], by rw [Nat.add_comm, Nat.add_mul_mod_self_right, Nat.mod_eq_of_lt hx], ?_⟩
  rw [Nat.add_comm, Nat.add_mul_div_right _ _ (by omega), Nat.div_eq_of_lt hx, Nat.zero_add]
theorem outF_at {I : Im} {S : Stg} {x y c : Nat} (hc : c < I.ic.toNat) (hx : x < S.lx.length) : outF I S ((y * S.lx.length + x) * I.ic.toNat + c) = roundF (sumW I S x y (c : Int)) I.it := by
  unfold outF
  obtain ⟨e1, e2, e3⟩ := out_place (y := y) hc hx
  rw [e1, e2, e3]
/-- Stage by stage. -/
def composeF (I : Im) : List Stg → Im
  | [] => I
  | S :: r => composeF (applyF I S) r
/-- Does a stage suit an image? -/
def suitsF (I : Im) (S : Stg) : Bool := decide (S.fx = I.iw) && decide (S.fy = I.ih) && decide (0 ≤ S.sb) && decide (S.sb ≤ 2)
theorem apply_ok {I : Im} {S : Stg} (h : ImOk I) (f : fitsF (S.lx.length : Int) (S.ly.length : Int) I.ic = true) : ImOk (applyF I S) := by
  obtain ⟨_, _, _, _, hc, t0, t1, _, _, _⟩ := h
  obtain ⟨a0, a1, b0, b1, _, m⟩ := fitsF_iff.1 f
  have C0 : (I.ic.toNat : Int) = I.ic := Int.toNat_of_nonneg (by omega)
  refine ⟨a0, a1, b0, b1, hc, t0, t1, m, ?_, fun x hx => ?_⟩
  · show (((List.range (S.ly.length * S.lx.length * I.ic.toNat)).map (outF I S)).length : Int) = (S.lx.length : Int) * (S.ly.length : Int) * I.ic
    rw [List.length_map, List.length_range, Int.natCast_mul, Int.natCast_mul, C0, Int.mul_comm (S.ly.length : Int)]
  · obtain ⟨k, _, rfl⟩ := List.mem_map.1 hx
    have := roundF_in (sumW I S (k / I.ic.toNat % S.lx.length) (k / I.ic.toNat / S.lx.length) ((k % I.ic.toNat : Nat) : Int)) I.it
    rw [mostC_self (by omega) t1] at this
    exact this
end Go.Proofs.YtaafhjngnjjcmaaGreatDoor

/- Tables: what the program's calls are to answer; and that a table is the document's. -/
namespace Go.Proofs.YtaafhjngnjjcmaaGreatDoor
open Go.RowKit

def ResizeC (K : World → Prop) (T : World → Value → Int → List (Int × List Int) → Prop) : Prop := ∀ (f n m : Int), -9223372036854775808 ≤ f → f ≤ 9223372036854775807 → -9223372036854775808 ≤ n → n ≤ 9223372036854775807 → -9223372036854775808 ≤ m → m ≤ 9223372036854775807 → ∀ w : World, K w →
  Calls Tryz.prog 98 #[.int .i64 f, .int .i64 n, .int .i64 m] w fun e w' => ∃ v, e = .returned (.tuple #[v, .int .i64 (resCode f n m)]) ∧ (resCode f n m = 0 → T w' v n (linesTo f n m m.toNat)) ∧ (resCode f n m ≠ 0 → v = .pointer none) ∧ Below w.heap.size w w'
def FilterC (K : World → Prop) (T : World → Value → Int → List (Int × List Int) → Prop) : Prop := ∀ (xs : List Int) (ad : Option Addr) (cap : Nat) (n : Int) (w : World), K w → RowAt .i64 w ad xs → All64 xs → xs.length ≤ 9223372036854775807 → -9223372036854775808 ≤ n → n ≤ 9223372036854775807 →
  Calls Tryz.prog 100 #[.slice ad xs.length cap, .int .i64 n] w fun e w' => ∃ v, e = .returned (.tuple #[v, .int .i64 (filCode xs n)]) ∧ (filCode xs n = 0 → T w' v n (filTo xs n.toNat)) ∧ (filCode xs n ≠ 0 → v = .pointer none) ∧ Below w.heap.size w w'
end Go.Proofs.YtaafhjngnjjcmaaGreatDoor

/- Tables: the example, and the laws on resizes and filters, out of what the program's calls answer. -/
namespace Go.Proofs.YtaafhjngnjjcmaaGreatDoor
open Go.RowKit


def LiveC (K : World → Prop) (f : FuncId) : Prop := ∀ w : World, K w → Calls Tryz.prog f #[] w fun e w' => e = .returned (.bool true) ∧ Below w.heap.size w w'
theorem res_ex : resCode 0 4 2 = 0 ∧ linesTo 0 4 2 2 = [(0, [8192, 8192]), (2, [8192, 8192])] ∧ reachF [(0, [8192, 8192]), (2, [8192, 8192])] 0 2 = (0, 4, true) := by decide +kernel
theorem lit2 (w : World) (a b : Int) (t : TypeId) : RowAt .i64 (w.alloc (.cells #[.int .i64 a, .int .i64 b] t)) (some ⟨w.heap.size, 0, none⟩) [a, b] := by
  refine Or.inr ⟨w.heap.size, 0, rfl, fun j hj => ?_⟩
  match j, hj with
  | 0, _ => simp
  | 1, _ => simp
theorem field_first (x : Int) (ad : Option Addr) (n c : Nat) : ∀ w : World, (Instr.field 127 (.agg #[.int .i64 x, .slice ad n c]) 0).run Tryz.prog w = .ok (.int .i64 x) w := fun _ => by kernel_rfl
end Go.Proofs.YtaafhjngnjjcmaaGreatDoor

/- Tables: windows move on. Out of what the program's calls answer, and that a resize has no code. -/
namespace Go.Proofs.YtaafhjngnjjcmaaGreatDoor
open Go.RowKit


theorem cen_next (n m i : Int) : cenR n m (i + 1) = cenR n m i + 2 * n := by
  unfold cenR
  rw [show 2 * (i + 1) + 1 = (2 * i + 1) + 2 by omega, Int.add_mul]
  omega
theorem low_mono {f n m i : Int} (n0 : 1 ≤ n) (m0 : 1 ≤ m) : lowW f n m i ≤ lowW f n m (i + 1) ∧ topW f n m i ≤ topW f n m (i + 1) := by
  unfold lowW topW
  rw [cen_next]
  exact ⟨Int.ediv_le_ediv (by omega) (by omega), Int.ediv_le_ediv (by omega) (by omega)⟩
/-- Windows move on. -/
def Moves (L : List (Int × List Int)) : Prop := ∀ j, j + 1 < L.length → (lnAt L j).1 ≤ (lnAt L (j + 1)).1 ∧ (lnAt L j).1 + ((lnAt L j).2.length : Int) ≤ (lnAt L (j + 1)).1 + ((lnAt L (j + 1)).2.length : Int)
theorem appR_length (xs : List Int) : (appR xs).length = xs.length := by
  unfold appR
  rw [(giveN_len _ _ _).1, quotsW_len]
theorem moves_lines {f n : Int} {m : Nat} (f0 : 0 ≤ f) (f1 : f ≤ 2) (n0 : 1 ≤ n) (n1 : n ≤ 65536) (m1 : m ≤ 65536) : Moves (linesTo f n m m) := by
  intro j hj
  rw [linesTo_len] at hj
  have e : ∀ i : Nat, i < m → lnAt (linesTo f n m m) i = lineR f n m i := fun i hi => lnAt_map _ hi
  rw [e j (by omega), e (j + 1) (by omega)]
  have en : ∀ i : Nat, i < m → (lineR f n m i).1 + ((lineR f n m i).2.length : Int) = topW f n m i + 1 := by
    intro i hi
    have hM : MayP f n m i := ⟨f0, f1, n0, n1, by omega, by omega, by omega, by omega⟩
    have := win_closed hM
    show startR f n m i + ((appR (rowI f n m i)).length : Int) = _
    rw [appR_length, rowI_len]
    unfold startR countR
    omega
  rw [en j (by omega), en (j + 1) (by omega)]
  obtain ⟨a, b⟩ := low_mono (f := f) (n := n) (m := (m : Int)) (i := (j : Int)) n0 (by omega)
  refine ⟨?_, ?_⟩
  · show lowW f n m j + 1 ≤ lowW f n m ((j + 1 : Nat) : Int) + 1
    rw [show ((j + 1 : Nat) : Int) = (j : Int) + 1 by omega]; omega
  · rw [show ((j + 1 : Nat) : Int) = (j : Int) + 1 by omega]; omega
theorem reach_below {L : List (Int × List Int)} {i k : Int} (o : Nat) (h : (o : Int) ≤ i) : reachTo L i k o = (0, 0, false) := by
  induction o with
  | zero => rfl
  | succ o ih =>
    unfold reachTo
    rw [if_pos (Or.inl (by omega))]
    exact ih (by omega)
theorem reach_above {L : List (Int × List Int)} {i k : Int} (a d : Nat) (h : k ≤ (a : Int)) : reachTo L i k (a + d) = reachTo L i k a := by
  induction d with
  | zero => rfl
  | succ d ih =>
    have s : reachTo L i k (a + (d + 1)) = if ((a + d : Nat) : Int) < i ∨ k ≤ ((a + d : Nat) : Int) then reachTo L i k (a + d) else reachStep (reachTo L i k (a + d)) (lnAt L (a + d)).1 (lnAt L (a + d)).2.length := rfl
    rw [s, if_pos (Or.inr (by omega)), ih]
end Go.Proofs.YtaafhjngnjjcmaaGreatDoor

/- Tables: all taps of an output come to just 2^14. Out of what the program's calls answer, that a resize has no code, and no great size. -/
namespace Go.Proofs.YtaafhjngnjjcmaaGreatDoor
open Go.RowKit


theorem code_line {f n : Int} {m : Nat} (h : resCode f n m = 0) (hB : resB f n m = true) {j : Nat} (hj : j < m) : Fits (rowI f n m j) := by
  unfold resCode at h
  rw [if_pos hB, Int.toNat_natCast] at h
  exact appCode_fits.1 (firstCode_code h hj).1
theorem line_sum {f n : Int} {m : Nat} (h : resCode f n m = 0) (hB : resB f n m = true) {j : Nat} (hj : j < m) :
    (lineR f n m j).2.sum = 16384 ∧ ∀ t, t < (lineR f n m j).2.length → -67108864 ≤ (lineR f n m j).2.getD t 0 ∧ (lineR f n m j).2.getD t 0 ≤ 67108865 := by
  have F := code_line h hB hj
  obtain ⟨e1, e2, e3, _⟩ := app_facts F
  refine ⟨e2, fun t ht => ?_⟩
  have ht' : t < (rowI f n m j).length := by rw [← e1]; exact ht
  have hs : smallW ((rowI f n m j).getD t 0) := by
    rw [List.getD_eq_getElem?_getD, List.getElem?_eq_getElem ht']
    exact F.small _ (List.getElem_mem ht')
  obtain ⟨q0, q1, _⟩ := quotW_small (s := sumH (rowI f n m j)) F.s0 hs
  show -67108864 ≤ (appR (rowI f n m j)).getD t 0 ∧ (appR (rowI f n m j)).getD t 0 ≤ 67108865
  rcases e3 t ht' with e | ⟨e, _⟩ <;> rw [e] <;> omega
end Go.Proofs.YtaafhjngnjjcmaaGreatDoor

/- Tables: a side that stays as it is. Plain arithmetic but for its imports. -/
namespace Go.Proofs.YtaafhjngnjjcmaaGreatDoor
open Go.RowKit

def sameTo (k : Nat) : List (Int × List Int) := (List.range k).map fun i : Nat => ((i : Int), [16384])
theorem sameTo_len (k : Nat) : (sameTo k).length = k := by unfold sameTo; rw [List.length_map, List.length_range]
theorem sameTo_at {k j : Nat} (h : j < k) : lnAt (sameTo k) j = ((j : Int), [16384]) := lnAt_map _ h
end Go.Proofs.YtaafhjngnjjcmaaGreatDoor

/- Weights that come to one: the law on sums and shares. -/
namespace Go.Proofs.YtaafhjngnjjcmaaGreatDoor
open Go.RowKit

theorem app_within {l : List Int} (h : Fits l) : ∀ x ∈ appR l, -67108865 ≤ x ∧ x ≤ 67108865 := by
  obtain ⟨len, _, each, _⟩ := app_facts h
  refine getD_mem fun j hj => ?_
  rw [len] at hj
  have q := quotW_small h.s0 (mem_getD h.small hj)
  rcases each j hj with e | ⟨e, _⟩ <;> omega
end Go.Proofs.YtaafhjngnjjcmaaGreatDoor
