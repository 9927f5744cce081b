/- Parts, joined. -/
import Derived.Test.YtjmjgokgjeankaaDoorJ10
import Derived.Test.YtjmjgokgjeankaaDoorJ14
/- Lines of a table: what a resize and a filter make, and what the document's calls answer. -/
namespace Go.Proofs.YtjmjgokgjeankaaDoor
open Go.RowKit


/-- An output sample's window, and its raw weights. -/
def startR (f n m i : Int) : Int := lowW f n m i + 1
def countR (f n m i : Int) : Nat := (topW f n m i - lowW f n m i).toNat
def rowI (f n m i : Int) : List Int := (List.range (countR f n m i)).map fun k : Nat => weightR f n m i (startR f n m i + (k : Int))
theorem rowI_len (f n m i : Int) : (rowI f n m i).length = countR f n m i := by unfold rowI; rw [List.length_map, List.length_range]
theorem rowI_row (f n m i : Int) : rowR f n m i (startR f n m i) (countR f n m i) = (rowI f n m i).map (Value.int .i64) := by
  unfold rowR rowI; rw [List.map_map]; rfl
theorem row_win {f n m i : Int} (h : MayP f n m i) : IsWin f n m i (startR f n m i) (countR f n m i) := (win_closed h).1
theorem row_ends {f n m i : Int} (h : MayP f n m i) : -262144 < startR f n m i ∧ startR f n m i < 262144 ∧ 1 ≤ countR f n m i ∧ countR f n m i ≤ 524288 := by
  obtain ⟨_, a, b, c⟩ := win_closed h
  unfold startR countR
  omega
theorem weightR_64 (f n m i j : Int) : -9223372036854775808 ≤ weightR f n m i j ∧ weightR f n m i j ≤ 9223372036854775807 := by
  unfold weightR
  split
  · exact divF_in _ _
  · split
    · unfold keysF
      split
      · split <;> exact divF_in _ _
      · omega
    · unfold lanczosF
      split
      · unfold shiftF
        rw [if_neg (by decide), if_neg (by decide)]
        exact shift_in 9 (mulShiftF_in _ _ _).1 (mulShiftF_in _ _ _).2
      · omega
theorem rowI_64 (f n m i : Int) : All64 (rowI f n m i) := by
  intro j hj
  rw [rowI_len] at hj
  unfold rowI
  rw [List.getD_eq_getElem?_getD, List.getElem?_map, List.getElem?_range hj]
  exact weightR_64 _ _ _ _ _
theorem rowI_own {w : World} {base : Nat} {v : Value} {f n m i : Int} (h : w.ownsRow base 2 1 v (countR f n m i) (rowR f n m i (startR f n m i) (countR f n m i))) : OwnI .i64 2 w base v (rowI f n m i) := by
  unfold OwnI
  rw [rowI_len, ← rowI_row]
  exact h
/-- A line of a resize. -/
def lineR (f n m : Int) (i : Nat) : Int × List Int := (startR f n m i, appR (rowI f n m i))
def codeR (f n m : Int) (i : Nat) : Int := appCode (rowI f n m i)
/-- The first code of so many lines. -/
def firstCode (f n m : Int) : Nat → Int
  | 0 => 0
  | i + 1 => if firstCode f n m i = 0 then codeR f n m i else firstCode f n m i
def resB (f n m : Int) : Bool := decide (0 ≤ f) && decide (f ≤ 2) && sideB n && sideB m
theorem resB_iff (f n m : Int) : resB f n m = true ↔ 0 ≤ f ∧ f ≤ 2 ∧ (1 ≤ n ∧ n ≤ 65536) ∧ (1 ≤ m ∧ m ≤ 65536) := by
  unfold resB
  rw [Bool.and_eq_true, Bool.and_eq_true, Bool.and_eq_true, sideB_iff, sideB_iff, decide_eq_true_eq, decide_eq_true_eq, and_assoc, and_assoc]
def resCode (f n m : Int) : Int := if resB f n m = true then firstCode f n m m.toNat else 6
def linesTo (f n m : Int) (k : Nat) : List (Int × List Int) := (List.range k).map (lineR f n m)
theorem linesTo_snoc (f n m : Int) (k : Nat) : linesTo f n m (k + 1) = linesTo f n m k ++ [lineR f n m k] := by unfold linesTo; rw [List.range_succ, List.map_append]; rfl
theorem linesTo_len (f n m : Int) (k : Nat) : (linesTo f n m k).length = k := by unfold linesTo; rw [List.length_map, List.length_range]
theorem firstCode_stays {f n m : Int} {a : Nat} (h : firstCode f n m a ≠ 0) {b : Nat} (hb : a ≤ b) : firstCode f n m b = firstCode f n m a := by
  obtain ⟨d, rfl⟩ : ∃ d, b = a + d := ⟨b - a, by omega⟩
  induction d with
  | zero => rfl
  | succ d ih =>
    have e := ih (by omega)
    have s : firstCode f n m (a + (d + 1)) = if firstCode f n m (a + d) = 0 then codeR f n m (a + d) else firstCode f n m (a + d) := rfl
    rw [s, if_neg (by rw [e]; exact h), e]
theorem firstCode_code {f n m : Int} {a : Nat} (h : firstCode f n m a = 0) {j : Nat} (hj : j < a) : codeR f n m j = 0 ∧ firstCode f n m j = 0 := by
  have h0 : ∀ b, b ≤ a → firstCode f n m b = 0 := by
    intro b hb
    by_cases g : firstCode f n m b = 0
    · exact g
    · rw [firstCode_stays g hb] at h; exact absurd h g
  have e := h0 (j + 1) (by omega)
  have e1 := h0 j (by omega)
  unfold firstCode at e
  rw [if_pos e1] at e
  exact ⟨e, e1⟩
/-- One line more, of whatever code. -/
theorem line_more (f n m : Int) (k : Nat) : ∃ (st : Int) (cn : Nat) (xs : List Int) (cd : Int), startR f n m k = st ∧ countR f n m k = cn ∧ rowI f n m k = xs ∧ appCode xs = cd := ⟨_, _, _, _, rfl, rfl, rfl, rfl⟩
theorem own_slice_one (v : Value) (x : Int) : ∀ u ∈ [Value.int .i64 x, v], v.oneCell' = true → u.oneCell' = true := by
  intro u hu hv
  simp at hu
  rcases hu with rfl | rfl
  · rfl
  · exact hv
theorem new_line (w : World) (x : Int) (v : Value) (t : TypeId) : ∀ j u, [Value.int .i64 x, v][j]? = some u → (w.alloc (.cells #[.int .i64 x, v] t)).cell? ((⟨w.heap.size, 0, none⟩ : Addr).add j) = some u := by
  intro j u h
  match j, h with
  | 0, h => simp at h; subst h; simp [Addr.add]
  | 1, h => simp at h; subst h; simp [Addr.add]
theorem OwnI.oneCell {k : IntKind} {T : TypeId} {w : World} {base : Nat} {v : Value} {xs : List Int} (h : OwnI k T w base v xs) : v.oneCell' = true := by
  obtain ⟨ad, cap, rfl, _⟩ := h.form
  rfl
/-! ### A filter -/
def filCode (xs : List Int) (n : Int) : Int := if sideB n = true then (if xs.length % 2 = 0 then 7 else appCode xs) else 6
def filLine (xs : List Int) (i : Nat) : Int × List Int := ((i : Int) - ((xs.length / 2 : Nat) : Int), appR xs)
def filTo (xs : List Int) (k : Nat) : List (Int × List Int) := (List.range k).map (filLine xs)
theorem filTo_snoc (xs : List Int) (k : Nat) : filTo xs (k + 1) = filTo xs k ++ [filLine xs k] := by unfold filTo; rw [List.range_succ, List.map_append]; rfl
theorem filTo_len (xs : List Int) (k : Nat) : (filTo xs k).length = k := by unfold filTo; rw [List.length_map, List.length_range]
end Go.Proofs.YtjmjgokgjeankaaDoor

/- Tables: a side that stays as it is. Plain arithmetic but for its imports. -/
namespace Go.Proofs.YtjmjgokgjeankaaDoor
open Go.RowKit


theorem cen_same (n i : Int) : cenR n n i = 2 * (i * n) := by
  unfold cenR; rw [Int.add_mul, Int.mul_assoc, Int.one_mul]; omega
theorem same_quot (n i : Int) : 2 * n * i = 2 * (i * n) := by rw [Int.mul_assoc, Int.mul_comm n i]
theorem same_low (n i : Int) (n0 : 1 ≤ n) : lowW 0 n n i = i - 1 ∧ topW 0 n n i = i ∧ lowW 1 n n i = i - 2 ∧ topW 1 n n i = i + 1 := by
  have e := same_quot n i
  have s0 : sprR 0 n n = 2 * n := by unfold sprR; rw [if_pos rfl]; omega
  have s1 : sprR 1 n n = 4 * n := by unfold sprR; rw [if_neg (by omega), if_neg (by omega)]; omega
  unfold lowW topW
  rw [cen_same, s0, s1]
  refine ⟨div_of (r := 0) ?_ (by omega) (by omega), div_of (r := 2 * n - 1) ?_ (by omega) (by omega), div_of (r := 0) ?_ (by omega) (by omega), div_of (r := 2 * n - 1) ?_ (by omega) (by omega)⟩
  · rw [Int.mul_sub, e]; omega
  · rw [e]; omega
  · rw [Int.mul_sub, e]; omega
  · rw [Int.mul_add, e]; omega
theorem box_one {n i : Int} (n0 : 1 ≤ n) : weightR 0 n n i i = 1073741824 := by
  unfold weightR
  rw [if_pos rfl]
  have e : min ((i + 1) * n) ((i + 1) * n) - max (i * n) (i * n) = n := by rw [Int.add_mul, Int.one_mul]; omega
  rw [e, Int.mul_comm]
  exact divF_exact (by omega) (by omega) (by omega)
theorem frac_same (n i j : Int) : fracP n n i j = 2 * ((j - i) * n) := by
  rw [frac_at, Int.sub_mul]; omega
theorem fracQ_same (n : Int) : fracQ n n = 2 * n := by unfold fracQ; rw [if_neg (by omega)]
theorem cubic_mid {n i : Int} (n0 : 1 ≤ n) (n1 : n ≤ 65536) : weightR 1 n n i i = 1073741824 := by
  unfold weightR
  rw [if_neg (by omega), if_pos rfl, frac_same, fracQ_same]
  have e : 2 * ((i - i) * n) = 0 := by rw [Int.sub_self, Int.zero_mul]; rfl
  rw [e]
  unfold keysF
  rw [if_pos (by omega), show absI 0 = 0 from rfl, if_pos (by omega)]
  have e2 : lowK 0 (2 * n) * 1073741824 = 1073741824 * (2 * (2 * n * (2 * n) * (2 * n))) := by
    unfold lowK
    simp only [Int.mul_zero, Int.zero_mul, Int.zero_add, Int.sub_self]
    rw [Int.mul_comm]
  rw [e2]
  have h : 0 < 2 * n * (2 * n) * (2 * n) := Int.mul_pos (Int.mul_pos (by omega) (by omega)) (by omega)
  exact divF_exact (by omega) (by omega) (by omega)
theorem keys_one {q : Int} (q0 : 1 ≤ q) (q1 : q ≤ 262144) : keysF q q = 0 := by
  unfold keysF
  rw [if_pos (by omega), absI_pos (by omega), if_neg (by omega)]
  have e : highK q q = 0 := by
    unfold highK
    rw [show 5 * (q * q) * q = 5 * (q * q * q) by rw [Int.mul_assoc], show 8 * q * (q * q) = 8 * (q * q * q) by rw [Int.mul_assoc, Int.mul_assoc]]
    omega
  rw [e, Int.zero_mul]
  have h : 0 < q * q * q := Int.mul_pos (Int.mul_pos (by omega) (by omega)) (by omega)
  have := divF_exact (a := 0) (d := 2 * (q * q * q)) (by omega) (by omega) (by omega)
  rw [Int.zero_mul] at this
  exact this
theorem cubic_side {n i : Int} (n0 : 1 ≤ n) (n1 : n ≤ 65536) : weightR 1 n n i (i + 1) = 0 ∧ weightR 1 n n i (i - 1) = 0 := by
  have wk : ∀ j, weightR 1 n n i j = keysF (fracP n n i j) (fracQ n n) := fun j => by unfold weightR; rw [if_neg (by omega), if_pos rfl]
  rw [wk, wk, frac_same, frac_same, fracQ_same]
  have e1 : 2 * ((i + 1 - i) * n) = 2 * n := by rw [show i + 1 - i = 1 by omega, Int.one_mul]
  have e2 : 2 * ((i - 1 - i) * n) = -(2 * n) := by rw [show i - 1 - i = -1 by omega, Int.neg_mul, Int.one_mul]; omega
  rw [e1, e2, keysF_neg]
  exact ⟨keys_one (by omega) (by omega), keys_one (by omega) (by omega)⟩
theorem row_box {n i : Int} (n0 : 1 ≤ n) : startR 0 n n i = i ∧ rowI 0 n n i = [1073741824] := by
  obtain ⟨a, b, _⟩ := same_low n i n0
  have hs : startR 0 n n i = i := by unfold startR; rw [a]; omega
  have hc : countR 0 n n i = 1 := by unfold countR; rw [a, b]; omega
  refine ⟨hs, ?_⟩
  unfold rowI
  rw [hc, hs]
  show [weightR 0 n n i (i + ((0 : Nat) : Int))] = _
  rw [show i + ((0 : Nat) : Int) = i by omega, box_one n0]
theorem row_cubic {n i : Int} (n0 : 1 ≤ n) (n1 : n ≤ 65536) : startR 1 n n i = i - 1 ∧ rowI 1 n n i = [0, 1073741824, 0] := by
  obtain ⟨_, _, a, b⟩ := same_low n i n0
  have hs : startR 1 n n i = i - 1 := by unfold startR; rw [a]; omega
  have hc : countR 1 n n i = 3 := by unfold countR; rw [a, b]; omega
  refine ⟨hs, ?_⟩
  unfold rowI
  rw [hc, hs]
  show [weightR 1 n n i (i - 1 + ((0 : Nat) : Int)), weightR 1 n n i (i - 1 + ((1 : Nat) : Int)), weightR 1 n n i (i - 1 + ((2 : Nat) : Int))] = _
  obtain ⟨x, y⟩ := cubic_side (i := i) n0 n1
  rw [show i - 1 + ((0 : Nat) : Int) = i - 1 by omega, show i - 1 + ((1 : Nat) : Int) = i by omega, show i - 1 + ((2 : Nat) : Int) = i + 1 by omega, x, y, cubic_mid n0 n1]
theorem app_box : appCode [1073741824] = 0 ∧ appR [1073741824] = [16384] := by decide +kernel
theorem app_cubic : appCode [0, 1073741824, 0] = 0 ∧ appR [0, 1073741824, 0] = [0, 16384, 0] := by decide +kernel
theorem first_all {f n m : Int} (k : Nat) (h : ∀ i : Nat, codeR f n m i = 0) : firstCode f n m k = 0 := by
  induction k with
  | zero => rfl
  | succ k ih =>
    have s : firstCode f n m (k + 1) = if firstCode f n m k = 0 then codeR f n m k else firstCode f n m k := rfl
    rw [s, if_pos ih, h]
/-- A side that stays: its codes, and its lines. -/
theorem res_box {n : Int} (n0 : 1 ≤ n) (n1 : n ≤ 65536) : resCode 0 n n = 0 ∧ ∀ j : Nat, lineR 0 n n j = ((j : Int), [16384]) := by
  refine ⟨?_, fun j => ?_⟩
  · unfold resCode
    rw [if_pos ((resB_iff 0 n n).2 ⟨by omega, by omega, ⟨n0, n1⟩, n0, n1⟩)]
    refine first_all _ fun i => ?_
    unfold codeR
    rw [(row_box n0).2, app_box.1]
  · unfold lineR
    rw [(row_box n0).1, (row_box n0).2, app_box.2]
theorem res_cubic {n : Int} (n0 : 1 ≤ n) (n1 : n ≤ 65536) : resCode 1 n n = 0 ∧ ∀ j : Nat, lineR 1 n n j = ((j : Int) - 1, [0, 16384, 0]) := by
  refine ⟨?_, fun j => ?_⟩
  · unfold resCode
    rw [if_pos ((resB_iff 1 n n).2 ⟨by omega, by omega, ⟨n0, n1⟩, n0, n1⟩)]
    refine first_all _ fun i => ?_
    unfold codeR
    rw [(row_cubic n0 n1).2, app_cubic.1]
  · unfold lineR
    rw [(row_cubic n0 n1).1, (row_cubic n0 n1).2, app_cubic.2]
def sameTo (k : Nat) : List (Int × List Int) := (List.range k).map fun i : Nat => ((i : Int), [16384])
theorem sameTo_len (k : Nat) : (sameTo k).length = k := by unfold sameTo; rw [List.length_map, List.length_range]
theorem sameTo_at {k j : Nat} (h : j < k) : lnAt (sameTo k) j = ((j : Int), [16384]) := lnAt_map _ h
theorem linesTo_at {f n m : Int} {k j : Nat} (h : j < k) : lnAt (linesTo f n m k) j = lineR f n m j := lnAt_map _ h
/-- All of a line is where i is. -/
def OneLn (i : Int) (x : Int × List Int) : Prop := 1 ≤ x.2.length ∧ ∀ t : Nat, t < x.2.length → (x.1 + (t : Int) = i → x.2.getD t 0 = 16384) ∧ (x.1 + (t : Int) ≠ i → x.2.getD t 0 = 0)
theorem one_box (i : Int) : OneLn i (i, [16384]) := by
  refine ⟨(by show 1 ≤ 1; omega), fun t ht => ?_⟩
  match t, ht with
  | 0, _ => exact ⟨fun _ => rfl, fun h => absurd (by simp) h⟩
theorem one_cubic (i : Int) : OneLn i (i - 1, [0, 16384, 0]) := by
  refine ⟨(by show 1 ≤ 3; omega), fun t ht => ?_⟩
  match t, ht with
  | 0, _ => exact ⟨fun h => (by simp at h; omega), fun _ => rfl⟩
  | 1, _ => exact ⟨fun _ => rfl, fun h => absurd (by simp) h⟩
  | 2, _ => exact ⟨fun h => by simp at h; omega, fun _ => rfl⟩
theorem most_same (k : Nat) (h : 1 ≤ k) : mostF (sameTo k) = 1 := by
  have e : ∀ o, o ≤ k → mostTo (sameTo k) o = if o = 0 then 0 else 1 := by
    intro o ho
    induction o with
    | zero => rfl
    | succ o ih =>
      have s : mostTo (sameTo k) (o + 1) = max (mostTo (sameTo k) o) ((lnAt (sameTo k) o).2.length : Int) := rfl
      rw [s, ih (by omega), sameTo_at (by omega)]
      show max _ (((1 : Nat)) : Int) = _
      split <;> omega
  unfold mostF
  rw [sameTo_len, e k (Nat.le_refl _), if_neg (by omega)]
end Go.Proofs.YtjmjgokgjeankaaDoor

/- Lines of a table: what the document's filter answers. -/
namespace Go.Proofs.YtjmjgokgjeankaaDoor
open Go.RowKit


theorem more_kept {T : TypeId} (hT : 2 ≠ T) {wc w2 : World} {base base' n : Nat} {v y : Value} {us : List Value} {xs : List Int} {o : Obj} (hown : wc.ownsRow base' T 2 v n us) (hy : OwnI .i64 2 wc base y xs) (hgrow : (wc.alloc o).grownBy w2 v.ownBlock) : OwnI .i64 2 w2 base y xs :=
  OwnI.kept (hy.alloc o) hgrow (own_apart hT (hy.alloc o) (World.ownsRow.alloc hown o))
end Go.Proofs.YtjmjgokgjeankaaDoor

/- Tables: what the program's calls are to answer; and that a table is the document's. -/
namespace Go.Proofs.YtjmjgokgjeankaaDoor
open Go.RowKit


/-- What the program's own calls are to answer. 'T w v n L': in memory v is a table from n with lines L. 'K': what memory holds beside. -/
structure TabC (K : World → Prop) (T : World → Value → Int → List (Int × List Int) → Prop) : Prop where
  kbelow : ∀ {w w' : World}, K w → Below w.heap.size w w' → K w'
  below : ∀ {w w' : World} {v : Value} {n : Int} {L : List (Int × List Int)}, T w v n L → Below w.heap.size w w' → T w' v n L
  ptr : ∀ {w : World} {v : Value} {n : Int} {L : List (Int × List Int)}, T w v n L → ∃ a, v = .pointer (some a)
  ok : ∀ {w : World} {v : Value} {n : Int} {L : List (Int × List Int)}, T w v n L → LinesOk L ∧ 1 ≤ L.length ∧ L.length ≤ 65536 ∧ 1 ≤ n ∧ n ≤ 65536
  cfrom : ∀ {w : World} {v : Value} {n : Int} {L : List (Int × List Int)}, T w v n L → Calls Tryd.prog 10 #[v] w fun e w' => e = .returned (.int .i64 n) ∧ Below w.heap.size w w'
  cto : ∀ {w : World} {v : Value} {n : Int} {L : List (Int × List Int)}, T w v n L → Calls Tryd.prog 11 #[v] w fun e w' => e = .returned (.int .i64 (L.length : Int)) ∧ Below w.heap.size w w'
  line : ∀ {w : World} {v : Value} {n : Int} {L : List (Int × List Int)}, T w v n L → ∀ j : Nat, j < L.length → Calls Tryd.prog 8 #[v, .int .i64 (j : Int)] w fun e w' => ∃ u, e = .returned (.agg #[.int .i64 (lnAt L j).1, u]) ∧ OwnI .i64 2 w' w.heap.size u (lnAt L j).2 ∧ Below w.heap.size w w'
  noline : ∀ {w : World} {v : Value} {n : Int} {L : List (Int × List Int)}, T w v n L → ∀ i : Int, -9223372036854775808 ≤ i → i ≤ 9223372036854775807 → i < 0 ∨ (L.length : Int) ≤ i → Calls Tryd.prog 8 #[v, .int .i64 i] w fun e w' => ∃ ad cap, e = .returned (.agg #[.int .i64 0, .slice ad 0 cap]) ∧ Below w.heap.size w w'
  most : ∀ {w : World} {v : Value} {n : Int} {L : List (Int × List Int)}, T w v n L → Calls Tryd.prog 12 #[v] w fun e w' => e = .returned (.int .i64 (mostF L)) ∧ Below w.heap.size w w'
  size : ∀ {w : World} {v : Value} {n : Int} {L : List (Int × List Int)}, T w v n L → Calls Tryd.prog 13 #[v] w fun e w' => e = .returned (.int .i64 (sizeF L)) ∧ Below w.heap.size w w'
  reach : ∀ {w : World} {v : Value} {n : Int} {L : List (Int × List Int)}, T w v n L → ∀ i k : Int, -9223372036854775808 ≤ i → i ≤ 9223372036854775807 → -9223372036854775808 ≤ k → k ≤ 9223372036854775807 → Calls Tryd.prog 9 #[v, .int .i64 i, .int .i64 k] w fun e w' => e = .returned (.tuple #[.int .i64 (reachF L i k).1, .int .i64 ((reachF L i k).2.1 - (reachF L i k).1)]) ∧ Below w.heap.size w w'
def ResizeC (K : World → Prop) (T : World → Value → Int → List (Int × List Int) → Prop) : Prop := ∀ (f n m : Int), -9223372036854775808 ≤ f → f ≤ 9223372036854775807 → -9223372036854775808 ≤ n → n ≤ 9223372036854775807 → -9223372036854775808 ≤ m → m ≤ 9223372036854775807 → ∀ w : World, K w →
  Calls Tryd.prog 7 #[.int .i64 f, .int .i64 n, .int .i64 m] w fun e w' => ∃ v, e = .returned (.tuple #[v, .int .i64 (resCode f n m)]) ∧ (resCode f n m = 0 → T w' v n (linesTo f n m m.toNat)) ∧ (resCode f n m ≠ 0 → v = .pointer none) ∧ Below w.heap.size w w'
end Go.Proofs.YtjmjgokgjeankaaDoor

/- Tables: the example, and the laws on resizes and filters, out of what the program's calls answer. -/
namespace Go.Proofs.YtjmjgokgjeankaaDoor
open Go.RowKit


def LiveC (K : World → Prop) (f : FuncId) : Prop := ∀ w : World, K w → Calls Tryd.prog f #[] w fun e w' => e = .returned (.bool true) ∧ Below w.heap.size w w'
theorem res_ex : resCode 0 4 2 = 0 ∧ linesTo 0 4 2 2 = [(0, [8192, 8192]), (2, [8192, 8192])] ∧ reachF [(0, [8192, 8192]), (2, [8192, 8192])] 0 2 = (0, 4, true) := by decide +kernel
theorem lit2 (w : World) (a b : Int) (t : TypeId) : RowAt .i64 (w.alloc (.cells #[.int .i64 a, .int .i64 b] t)) (some ⟨w.heap.size, 0, none⟩) [a, b] := by
  refine Or.inr ⟨w.heap.size, 0, rfl, fun j hj => ?_⟩
  match j, hj with
  | 0, _ => simp
  | 1, _ => simp
theorem field_first (x : Int) (ad : Option Addr) (n c : Nat) : ∀ w : World, (Instr.field 31 (.agg #[.int .i64 x, .slice ad n c]) 0).run Tryd.prog w = .ok (.int .i64 x) w := fun _ => by kernel_rfl
set_option maxRecDepth 100000 in
theorem table_lives {K : World → Prop} {T : World → Value → Int → List (Int × List Int) → Prop} (TC : TabC K T) (CR : ResizeC K T) (C5 : LiveC K 15) (C6 : LiveC K 16) : LiveC K 6 := by
  intro w hk
  have C5 := fun w hk => C5 w hk
  have C6 := fun w hk => C6 w hk
  obtain ⟨e1, e2, e3⟩ := res_ex
  have CR1 := fun w hk => CR 0 4 2 (by omega) (by omega) (by omega) (by omega) (by omega) (by omega) w hk
  rw [e1, show (2 : Int).toNat = 2 from rfl, e2] at CR1
  have CK : ∀ w' : World, Below w.heap.size w w' → K w' := fun w' b => TC.kbelow hk b
  have L1 : ∀ {w : World} {v : Value} {n : Int}, T w v n [(0, [8192, 8192]), (2, [8192, 8192])] → Calls Tryd.prog 8 #[v, .int .i64 1] w fun e w' => ∃ u, e = .returned (.agg #[.int .i64 2, u]) ∧ OwnI .i64 2 w' w.heap.size u [8192, 8192] ∧ Below w.heap.size w w' := fun h => TC.line h 1 (by decide)
  have L0 : ∀ {w : World} {v : Value} {n : Int}, T w v n [(0, [8192, 8192]), (2, [8192, 8192])] → Calls Tryd.prog 8 #[v, .int .i64 0] w fun e w' => ∃ u, e = .returned (.agg #[.int .i64 0, u]) ∧ OwnI .i64 2 w' w.heap.size u [8192, 8192] ∧ Below w.heap.size w w' := fun h => TC.line h 0 (by decide)
  have LR : ∀ {w : World} {v : Value} {n : Int}, T w v n [(0, [8192, 8192]), (2, [8192, 8192])] → Calls Tryd.prog 9 #[v, .int .i64 0, .int .i64 2] w fun e w' => e = .returned (.tuple #[.int .i64 0, .int .i64 4]) ∧ Below w.heap.size w w' := by
    intro w v n h
    have := TC.reach h 0 2 (by omega) (by omega) (by omega) (by omega)
    rw [e3] at this
    exact this
  clear e1 e2 e3 CR hk
  go_enter Tryd.func6, Tryd.ntmps6
  go_wp2_with (first
    | (go_at_call 15; (with_reducible refine (C5 _ (CK _ (by repeat (first | exact Below.refl _ _ | exact HB.out | (with_reducible refine bt ?_ (by assumption)) | with_reducible refine bd ?_ | with_reducible refine ba ?_ _)))).mono ?_); rintro e w1 ⟨rfl, b1⟩)
    | (go_at_call 16; (with_reducible refine (C6 _ (CK _ (by repeat (first | exact Below.refl _ _ | exact HB.out | (with_reducible refine bt ?_ (by assumption)) | with_reducible refine bd ?_ | with_reducible refine ba ?_ _)))).mono ?_); rintro e w2 ⟨rfl, b2⟩)
    | (go_at_call 7; (with_reducible refine (CR1 _ (CK _ (by repeat (first | exact Below.refl _ _ | exact HB.out | (with_reducible refine bt ?_ (by assumption)) | with_reducible refine bd ?_ | with_reducible refine ba ?_ _)))).mono ?_); rintro e w3 ⟨v, rfl, hT, _, b3⟩; have HT := hide (hT (by trivial)); clear hT; obtain ⟨a, rfl⟩ := TC.ptr HT.out)
    | (go_at_call 8; (with_reducible refine (L1 HT.out).mono ?_); rintro e w4 ⟨u, rfl, ou, b4⟩; obtain ⟨ad, cap, rfl, ra, _⟩ := ou.formn (show [(8192 : Int), 8192].length = 2 from rfl))
    | (go_at_call 9; (with_reducible refine (LR (TC.below HT.out (by repeat (first | exact Below.refl _ _ | exact HB.out | (with_reducible refine bt ?_ (by assumption)) | with_reducible refine bd ?_ | with_reducible refine ba ?_ _)))).mono ?_); rintro e w5 ⟨rfl, b5⟩; have q0 := cb b5 (b := w4.heap.size) (o := 0) (v := .int .i64 2) (by simp) (by simp); have q1 := cb b5 (b := w4.heap.size) (o := 1) (v := .slice ad 2 cap) (by simp) (by simp); have z5 : w4.heap.size < w5.heap.size := (by have := b5.size; simp at this; omega))
    | (go_at_call 8; (with_reducible refine (L0 (TC.below HT.out (by repeat (first | exact Below.refl _ _ | exact HB.out | (with_reducible refine bt ?_ (by assumption)) | with_reducible refine bd ?_ | with_reducible refine ba ?_ _)))).mono ?_); rintro e w6 ⟨u6, rfl, ou6, b6⟩; obtain ⟨ad6, cap6, rfl, _, _⟩ := ou6.formn (show [(8192 : Int), 8192].length = 2 from rfl); have F0 := field_first 0 ad6 2 cap6; have y0 := cb b6 z5 q0; have y1 := cb b6 z5 q1)
    | (go_at_call 17; (with_reducible refine (same_n 2 [8192, 8192] rfl _ _ _ _ _ (ra.below (by repeat (first | exact Below.refl _ _ | exact HB.out | (with_reducible refine bt ?_ (by assumption)) | with_reducible refine bd ?_ | with_reducible refine ba ?_ _))) (lit2 _ _ _ _) (by omega)).mono ?_); rintro e w7 ⟨rfl, b7⟩))
  go_ret
  refine ⟨rfl, ?_⟩
  exact (by repeat (first | exact Below.refl _ _ | exact HB.out | (with_reducible refine bt ?_ (by assumption)) | with_reducible refine bd ?_ | with_reducible refine ba ?_ _))
theorem resize_len {f n m : Int} (h : resCode f n m = 0) : 1 ≤ n ∧ n ≤ 65536 ∧ 1 ≤ m ∧ m ≤ 65536 ∧ linesTo f n m m.toNat ≠ [] := by
  unfold resCode at h
  by_cases g : resB f n m = true
  · obtain ⟨_, _, ⟨n0, n1⟩, m0, m1⟩ := (resB_iff f n m).1 g
    refine ⟨n0, n1, m0, m1, fun e => ?_⟩
    have := linesTo_len f n m m.toNat
    rw [e] at this
    simp at this
    omega
  · rw [if_neg g] at h; omega
end Go.Proofs.YtjmjgokgjeankaaDoor
