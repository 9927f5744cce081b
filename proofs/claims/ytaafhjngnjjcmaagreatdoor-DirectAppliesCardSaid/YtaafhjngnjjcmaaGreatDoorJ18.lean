/- Parts, joined. -/
import Derived.Test.YtaafhjngnjjcmaaGreatDoorJ17
import Derived.Test.YtaafhjngnjjcmaaGreatDoorJ01
import Derived.Test.YtaafhjngnjjcmaaGreatDoorJ16
import Derived.Test.YtaafhjngnjjcmaaGreatDoorJ13
import Derived.Test.YtaafhjngnjjcmaaGreatDoorJ11
import Derived.Test.YtaafhjngnjjcmaaGreatDoorJ03
/- Tables of the program: what its lines are like. Plain lists. -/
namespace Go.Proofs.YtaafhjngnjjcmaaGreatDoor
open Go.RowKit


theorem appR_64 {l : List Int} (h : Fits l) : All64 (appR l) := by
  intro j hj
  have hm : (appR l).getD j 0 ∈ appR l := by
    rw [List.getD_eq_getElem?_getD, List.getElem?_eq_getElem hj]
    exact List.getElem_mem hj
  have := app_within h _ hm
  omega
theorem lines_ok {f n : Int} {m : Nat} (h : resCode f n m = 0) (hB : resB f n m = true) : LinesOk (linesTo f n m m) := by
  intro j hj
  rw [linesTo_len] at hj
  rw [show lnAt (linesTo f n m m) j = lineR f n m j from lnAt_map _ hj]
  have hF := code_line h hB hj
  obtain ⟨f0, f1, ⟨n0, n1⟩, m0, m1⟩ := (resB_iff f n m).1 hB
  have hM : MayP f n m j := ⟨f0, f1, n0, n1, by omega, by omega, by omega, by omega⟩
  obtain ⟨a, b, c, d⟩ := row_ends hM
  refine ⟨?_, ?_, ?_, ?_, appR_64 hF⟩
  · show _ ≤ startR f n m j; omega
  · show startR f n m j ≤ _; omega
  · show 1 ≤ (appR (rowI f n m j)).length; rw [appR_length, rowI_len]; exact c
  · show (appR (rowI f n m j)).length ≤ _; rw [appR_length, rowI_len]; omega
theorem fil_at {xs : List Int} {k j : Nat} (h : j < k) : lnAt (filTo xs k) j = filLine xs j := lnAt_map _ h
theorem fil_ok {xs : List Int} (h : Fits xs) {k : Nat} (hk : k ≤ 65536) : LinesOk (filTo xs k) := by
  intro j hj
  rw [filTo_len] at hj
  rw [fil_at hj]
  have h2 := appR_64 h
  obtain ⟨h0, h1, _⟩ := h
  refine ⟨?_, ?_, ?_, ?_, h2⟩
  · show _ ≤ (j : Int) - ((xs.length / 2 : Nat) : Int); omega
  · show (j : Int) - ((xs.length / 2 : Nat) : Int) ≤ _; omega
  · show 1 ≤ (appR xs).length; rw [appR_length]; exact h0
  · show (appR xs).length ≤ _; rw [appR_length]; exact h1
theorem same_ok {k : Nat} (hk : k ≤ 65536) : LinesOk (sameTo k) := by
  intro j hj
  rw [sameTo_len] at hj
  rw [sameTo_at hj]
  refine ⟨by show _ ≤ (j : Int); omega, by show (j : Int) ≤ _; omega, by show 1 ≤ 1; omega, by show 1 ≤ _; omega, ?_⟩
  intro t ht
  match t, ht with
  | 0, _ => exact ⟨by show _ ≤ (16384 : Int); omega, by show (16384 : Int) ≤ _; omega⟩
theorem fil_moves (xs : List Int) (k : Nat) : Moves (filTo xs k) := by
  intro j hj
  rw [filTo_len] at hj
  rw [fil_at (show j < k by omega), fil_at hj]
  refine ⟨?_, ?_⟩
  · show (j : Int) - ((xs.length / 2 : Nat) : Int) ≤ ((j + 1 : Nat) : Int) - ((xs.length / 2 : Nat) : Int); omega
  · show (j : Int) - ((xs.length / 2 : Nat) : Int) + ((appR xs).length : Int) ≤ ((j + 1 : Nat) : Int) - ((xs.length / 2 : Nat) : Int) + ((appR xs).length : Int); omega
theorem same_moves (k : Nat) : Moves (sameTo k) := by
  intro j hj
  rw [sameTo_len] at hj
  rw [sameTo_at (show j < k by omega), sameTo_at hj]
  refine ⟨?_, ?_⟩
  · show (j : Int) ≤ ((j + 1 : Nat) : Int); omega
  · show (j : Int) + ((1 : Nat) : Int) ≤ ((j + 1 : Nat) : Int) + ((1 : Nat) : Int); omega
/-- Lines whose taps are all the same. -/
theorem most_all {L : List (Int × List Int)} {ts : List Int} (h : ∀ j, j < L.length → (lnAt L j).2 = ts) (h0 : 1 ≤ L.length) : mostF L = (ts.length : Int) ∧ sizeF L = sizeH ts := by
  have e : ∀ o, o ≤ L.length → mostTo L o = (if o = 0 then 0 else (ts.length : Int)) ∧ sizeTo L o = (if o = 0 then 0 else sizeH ts) := by
    intro o ho
    induction o with
    | zero => exact ⟨rfl, rfl⟩
    | succ o ih =>
      obtain ⟨a, b⟩ := ih (by omega)
      have s : mostTo L (o + 1) = max (mostTo L o) ((lnAt L o).2.length : Int) := rfl
      have t : sizeTo L (o + 1) = max (sizeTo L o) (sizeH (lnAt L o).2) := rfl
      have z := (sizeH_in ts).1
      rw [s, t, a, b, h o (by omega), if_neg (show o + 1 ≠ 0 by omega), if_neg (show o + 1 ≠ 0 by omega)]
      constructor
      · split <;> omega
      · split <;> omega
  obtain ⟨a, b⟩ := e L.length (Nat.le_refl _)
  rw [if_neg (show L.length ≠ 0 by omega)] at a b
  exact ⟨a, b⟩
/-! ### What some outputs take, of lines that move on -/
theorem reach_none {L : List (Int × List Int)} {i k : Int} (h : min k (L.length : Int) ≤ max i 0) : reachF L i k = (0, 0, false) := by
  have e : ∀ o, o ≤ L.length → reachTo L i k o = (0, 0, false) := by
    intro o ho
    induction o with
    | zero => rfl
    | succ o ih =>
      unfold reachTo
      rw [if_pos (by omega)]
      exact ih (by omega)
  exact e _ (Nat.le_refl _)
theorem reach_part {L : List (Int × List Int)} (hM : Moves L) {i k : Int} {p q : Nat} (hp : (p : Int) = max i 0) (hq : (q : Int) + 1 = min k (L.length : Int)) (h : p ≤ q) :
    reachF L i k = ((lnAt L p).1, (lnAt L q).1 + ((lnAt L q).2.length : Int), true) := by
  have e0 : reachTo L i k p = (0, 0, false) := by
    by_cases g : i ≤ 0
    · obtain rfl : p = 0 := by omega
      rfl
    · exact reach_below p (by omega)
  have e : ∀ d, p + d ≤ q → reachTo L i k (p + d + 1) = ((lnAt L p).1, (lnAt L (p + d)).1 + ((lnAt L (p + d)).2.length : Int), true) ∧ (lnAt L p).1 ≤ (lnAt L (p + d)).1 := by
    intro d hd
    induction d with
    | zero =>
      refine ⟨?_, Int.le_refl _⟩
      show (if (p : Int) < i ∨ k ≤ (p : Int) then _ else _) = _
      rw [if_neg (by omega), show p + 0 = p from rfl, e0]
      rfl
    | succ d ih =>
      obtain ⟨a, b⟩ := ih (by omega)
      obtain ⟨m0, m1⟩ := hM (p + d) (by omega)
      have s : reachTo L i k (p + (d + 1) + 1) = if ((p + d + 1 : Nat) : Int) < i ∨ k ≤ ((p + d + 1 : Nat) : Int) then reachTo L i k (p + d + 1) else reachStep (reachTo L i k (p + d + 1)) (lnAt L (p + d + 1)).1 (lnAt L (p + d + 1)).2.length := rfl
      rw [s, if_neg (by omega), a]
      refine ⟨?_, by show _ ≤ (lnAt L (p + d + 1)).1; omega⟩
      show (min (lnAt L p).1 (lnAt L (p + d + 1)).1, max ((lnAt L (p + d)).1 + ((lnAt L (p + d)).2.length : Int)) ((lnAt L (p + d + 1)).1 + ((lnAt L (p + d + 1)).2.length : Int)), true) = _
      rw [Int.min_eq_left (by omega), Int.max_eq_right m1]
      rfl
  obtain ⟨a, _⟩ := e (q - p) (by omega)
  rw [show p + (q - p) = q by omega] at a
  unfold reachF
  obtain ⟨d, hd⟩ : ∃ d, L.length = q + 1 + d := ⟨L.length - (q + 1), by omega⟩
  rw [hd]
  by_cases g : k ≤ ((q + 1 : Nat) : Int)
  · rw [reach_above (q + 1) d g]; exact a
  · obtain rfl : d = 0 := by omega
    exact a
end Go.Proofs.YtaafhjngnjjcmaaGreatDoor

/- Stages of operations: each line's taps come to one; so an image of one colour stays so. Plain; no number of the program stands in it. -/
namespace Go.Proofs.YtaafhjngnjjcmaaGreatDoor
open Go.RowKit


theorem lines_one {f n m : Int} (h : resCode f n m = 0) {j : Nat} (hj : j < m.toNat) : (lnAt (linesTo f n m m.toNat) j).2.sum = 16384 := by
  have hB : resB f n m = true := by
    cases hb : resB f n m
    · unfold resCode at h
      rw [if_neg (by rw [hb]; decide)] at h
      omega
    · rfl
  have e : m = (m.toNat : Int) := by
    have := ((resB_iff f n m).1 hB).2.2.2
    omega
  rw [show lnAt (linesTo f n m m.toNat) j = lineR f n m j from lnAt_map _ hj]
  rw [e] at h hB ⊢
  exact (line_sum h hB hj).1
theorem fil_one {xs : List Int} {n : Int} (h : filCode xs n = 0) {k j : Nat} (hj : j < k) : (lnAt (filTo xs k) j).2.sum = 16384 := by
  rw [fil_at hj]
  unfold filCode at h
  split at h
  · split at h
    · omega
    · exact (app_facts (appCode_fits.1 h)).2.1
  · omega
theorem stg_code {o : Opr} {w h : Int} (hz : opCode o w h = 0) : okO o w h = true ∧ xCode o w = 0 ∧ yCode o h = 0 := by
  unfold opCode at hz
  split at hz
  · omega
  · split at hz
    · omega
    · split at hz
      · omega
      · exact ⟨by simpa using (by assumption : ¬ okO o w h = false), by omega, hz⟩
/-- Each line of an operation's stage comes to one. -/
theorem stg_one {o : Opr} {w h : Int} (hz : opCode o w h = 0) : (∀ j, j < (stgOf o w h).lx.length → (lnAt (stgOf o w h).lx j).2.sum = 16384) ∧ ∀ j, j < (stgOf o w h).ly.length → (lnAt (stgOf o w h).ly j).2.sum = 16384 := by
  obtain ⟨_, hx, hy⟩ := stg_code hz
  show (∀ j, j < (xLines o w).length → (lnAt (xLines o w) j).2.sum = 16384) ∧ ∀ j, j < (yLines o h).length → (lnAt (yLines o h) j).2.sum = 16384
  unfold xCode at hx
  unfold yCode at hy
  unfold xLines yLines
  by_cases hk : o.kd = 3
  · rw [if_pos hk] at hx hy ⊢
    rw [if_pos hk]
    refine ⟨fun j hj => ?_, fun j hj => ?_⟩
    · rw [linesTo_len] at hj
      exact lines_one hx hj
    · rw [linesTo_len] at hj
      exact lines_one hy hj
  · rw [if_neg hk] at hx hy ⊢
    rw [if_neg hk]
    refine ⟨fun j hj => ?_, fun j hj => ?_⟩
    · rw [filTo_len] at hj
      exact fil_one hx hj
    · rw [filTo_len] at hj
      exact fil_one hy hj
/-- An image whose samples are all one. -/
def FlatI (I : Im) (v : Int) : Prop := ∀ x ∈ I.il, x = v
theorem flat_at {I : Im} {v : Int} (h : FlatI I v) {x y z : Int} (hx : hasF I x y z = true) (hl : (imPlace I x y z).toNat < I.il.length) : imAt I x y z = v := by
  unfold imAt
  rw [if_pos hx, List.getD_eq_getElem?_getD, List.getElem?_eq_getElem hl]
  exact h _ (List.getElem_mem hl)
/-- Each place that a tap asks for is one of the image's. -/
theorem cell_has {I : Im} {S : Stg} (hI : ImOk I) (hs : suitsF I S = true) (x y : Nat) {c : Int} (c0 : 0 ≤ c) (c1 : c < I.ic) (i k : Nat) :
    hasF I (atF S.sb ((lnAt S.lx x).1 + (i : Int)) I.iw) (atF S.sb ((lnAt S.ly y).1 + (k : Int)) I.ih) c = true ∧ (imPlace I (atF S.sb ((lnAt S.lx x).1 + (i : Int)) I.iw) (atF S.sb ((lnAt S.ly y).1 + (k : Int)) I.ih) c).toNat < I.il.length := by
  obtain ⟨a0, a1, b0, b1, hc, t0, t1, m, hl, _⟩ := hI
  unfold suitsF at hs
  simp only [Bool.and_eq_true, decide_eq_true_eq] at hs
  obtain ⟨⟨_, s0⟩, s1⟩ := hs
  have ex := atF_in (p := S.sb) (n := I.iw) (j := (lnAt S.lx x).1 + (i : Int)) ⟨s0, s1, a0, a1⟩
  have ey := atF_in (p := S.sb) (n := I.ih) (j := (lnAt S.ly y).1 + (k : Int)) ⟨s0, s1, b0, b1⟩
  have p := place_in (a := I.iw) (b := I.ih) (c := I.ic) ex.1 ex.2 ey.1 ey.2 c0 c1
  refine ⟨hasF_iff.2 ⟨ex.1, ex.2, ey.1, ey.2, c0, c1⟩, ?_⟩
  unfold imPlace
  omega
theorem flat_out {I : Im} {S : Stg} {v : Int} (hI : ImOk I) (hs : suitsF I S = true) (hf : FlatI I v) (v0 : 0 ≤ v) (v1 : v ≤ I.it) (hx : ∀ j, j < S.lx.length → (lnAt S.lx j).2.sum = 16384) (hy : ∀ j, j < S.ly.length → (lnAt S.ly j).2.sum = 16384) : FlatI (applyF I S) v := by
  intro u hu
  obtain ⟨k, hk, rfl⟩ := List.mem_map.1 hu
  have hk2 := List.mem_range.1 hk
  obtain ⟨_, _, _, _, hc, _, t1, _, _, _⟩ := id hI
  have C0 : 0 < I.ic.toNat := by omega
  have q1 : k / I.ic.toNat < S.ly.length * S.lx.length := Nat.div_lt_of_lt_mul (by rw [Nat.mul_comm]; exact hk2)
  have W0 : 0 < S.lx.length := by
    rcases Nat.eq_zero_or_pos S.lx.length with e | e
    · rw [e, Nat.mul_zero] at q1
      exact absurd q1 (Nat.not_lt_zero _)
    · exact e
  unfold outF sumW
  rw [sumF_flat (v := v) (hx _ (Nat.mod_lt _ W0)) (hy _ (Nat.div_lt_of_lt_mul (by rw [Nat.mul_comm]; exact q1))) (fun i k' => ?_)]
  · exact round_flat v0 v1 t1
  · have cm := Nat.mod_lt k C0
    have h := cell_has hI hs (k / I.ic.toNat % S.lx.length) (k / I.ic.toNat / S.lx.length) (c := ((k % I.ic.toNat : Nat) : Int)) (by omega) (by omega) i k'
    exact flat_at hf h.1 h.2
end Go.Proofs.YtaafhjngnjjcmaaGreatDoor

/- The cubic kernel is near a tent. Plain arithmetic. -/
namespace Go.Proofs.YtaafhjngnjjcmaaGreatDoor
open Go.RowKit

theorem div_near {X D B : Int} (hD : 0 < D) (hB : B ≤ 1099511627776) (h0 : -(B * D) ≤ X) (h1 : X ≤ B * D) : 2 * X - D ≤ 2 * (D * divF X D) ∧ 2 * (D * divF X D) ≤ 2 * X + D ∧ -(B + 1) ≤ divF X D ∧ divF X D ≤ B + 1 := by
  obtain ⟨n0, n1⟩ := near_err (X := X) hD
  have a : nearQ X D ≤ B + 1 := by
    by_cases g : nearQ X D ≤ B + 1
    · exact g
    · have := Int.mul_le_mul_of_nonneg_left (show B + 2 ≤ nearQ X D by omega) (show 0 ≤ D by omega)
      rw [Int.mul_add, Int.mul_comm D B] at this
      omega
  have b : -(B + 1) ≤ nearQ X D := by
    by_cases g : -(B + 1) ≤ nearQ X D
    · exact g
    · have := Int.mul_le_mul_of_nonneg_left (show nearQ X D ≤ -(B + 2) by omega) (show 0 ≤ D by omega)
      rw [Int.mul_neg, Int.mul_add, Int.mul_comm D B] at this
      omega
  rw [divF_of (by omega), holdI_in (by omega) (by omega)]
  omega
end Go.Proofs.YtaafhjngnjjcmaaGreatDoor

/- How great sums may be: little operations' taps, without sign, come to at most 2^23 a line. Plain; no number of the program stands in it. -/
namespace Go.Proofs.YtaafhjngnjjcmaaGreatDoor
open Go.RowKit

/-! ### Sums without sign -/
def absS (ts : List Int) : Nat → Int
  | 0 => 0
  | k + 1 => absS ts k + absI (ts.getD k 0)
theorem absS0 (ts : List Int) (n : Nat) : 0 ≤ absS ts n := by
  induction n with
  | zero => exact Int.le_refl _
  | succ n ih => have := absI0 (ts.getD n 0); show 0 ≤ absS ts n + _; omega
theorem absS_mono (ts : List Int) {m n : Nat} (h : m ≤ n) : absS ts m ≤ absS ts n := by
  induction n with
  | zero => rw [show m = 0 by omega]; exact Int.le_refl _
  | succ n ih =>
    by_cases e : m = n + 1
    · rw [e]; exact Int.le_refl _
    · have := ih (by omega)
      have := absI0 (ts.getD n 0)
      show _ ≤ absS ts n + _
      omega
theorem absS_le (ts : List Int) (B : Int) (n : Nat) (h : ∀ j, j < n → -B ≤ ts.getD j 0 ∧ ts.getD j 0 ≤ B) : absS ts n ≤ (n : Int) * B := by
  induction n with
  | zero => exact Int.le_of_eq (Int.zero_mul B).symm
  | succ n ih =>
    have a := ih (fun j hj => h j (by omega))
    have b := h n (by omega)
    have c : absI (ts.getD n 0) ≤ B := by unfold absI; split <;> omega
    have e : ((n + 1 : Nat) : Int) * B = (n : Int) * B + B := by rw [show ((n + 1 : Nat) : Int) = (n : Int) + 1 by omega, Int.add_mul, Int.one_mul]
    show absS ts n + _ ≤ _
    omega
theorem absS_pos (ts : List Int) (n : Nat) (hn : n ≤ ts.length) (h : ∀ j, j < n → 0 ≤ ts.getD j 0) : absS ts n = (ts.take n).sum := by
  induction n with
  | zero => rfl
  | succ n ih =>
    have a := ih (by omega) (fun j hj => h j (by omega))
    have b := h n (by omega)
    have c : absI (ts.getD n 0) = ts.getD n 0 := absI_pos b
    show absS ts n + _ = _
    rw [a, c, List.take_succ_eq_append_getElem (by omega), List.sum_append, List.sum_singleton, List.getD_eq_getElem?_getD, List.getElem?_eq_getElem (by omega)]
    rfl
theorem tap_mul15 {t f M : Int} (h0 : -M ≤ f) (h1 : f ≤ M) : -(absI t * M) ≤ t * f ∧ t * f ≤ absI t * M := by
  by_cases g : t < 0
  · rw [absI_neg g]
    have a := Int.mul_le_mul_of_nonneg_left h1 (show 0 ≤ -t by omega)
    have b := Int.mul_le_mul_of_nonneg_left h0 (show 0 ≤ -t by omega)
    rw [Int.neg_mul] at a b
    rw [Int.mul_neg] at b
    rw [Int.neg_mul] at a b ⊢
    omega
  · rw [absI_pos (by omega)]
    have a := Int.mul_le_mul_of_nonneg_left h1 (show 0 ≤ t by omega)
    have b := Int.mul_le_mul_of_nonneg_left h0 (show 0 ≤ t by omega)
    rw [Int.mul_neg] at b
    omega
theorem tapS_in {ts : List Int} {f : Nat → Int} {M : Int} (n : Nat) (h : ∀ i, i < n → -M ≤ f i ∧ f i ≤ M) : -(absS ts n * M) ≤ tapS ts f n ∧ tapS ts f n ≤ absS ts n * M := by
  induction n with
  | zero => simp [tapS, absS]
  | succ n ih =>
    obtain ⟨a, b⟩ := ih (fun i hi => h i (by omega))
    obtain ⟨c, d⟩ := h n (by omega)
    have := tap_mul15 (t := ts.getD n 0) c d
    show -((absS ts n + absI (ts.getD n 0)) * M) ≤ tapS ts f n + _ * f n ∧ tapS ts f n + _ * f n ≤ (absS ts n + absI (ts.getD n 0)) * M
    rw [Int.add_mul]
    omega
/-! ### Lines that aren't great -/
def SmallT (ts : List Int) : Prop := absS ts ts.length ≤ 8388608
def SmallL (L : List (Int × List Int)) : Prop := ∀ j, j < L.length → SmallT (lnAt L j).2
/-- Windows that aren't far away. -/
def NearL (L : List (Int × List Int)) : Prop := ∀ j, j < L.length → -1048576 ≤ (lnAt L j).1 ∧ (lnAt L j).1 + ((lnAt L j).2.length : Int) ≤ 2097152
def SmallS (S : Stg) : Prop := SmallL S.lx ∧ SmallL S.ly ∧ NearL S.lx
theorem small_nil : SmallT [] := by unfold SmallT absS; decide
theorem small_at {L : List (Int × List Int)} (h : SmallL L) (j : Nat) : SmallT (lnAt L j).2 := by
  by_cases g : j < L.length
  · exact h j g
  · rw [lnAt_out (by omega)]; exact small_nil
/-- What one row of an output sample's taps comes to. -/
theorem small_row {ts : List Int} (h : SmallT ts) {f : Nat → Int} {n : Nat} (hn : n ≤ ts.length) (hf : ∀ i, i < n → 0 ≤ f i ∧ f i ≤ 65535) : -549747425280 ≤ tapS ts f n ∧ tapS ts f n ≤ 549747425280 := by
  have a := tapS_in (ts := ts) (f := f) (M := 65535) n (fun i hi => ⟨by have := hf i hi; omega, (hf i hi).2⟩)
  have b := absS_mono ts hn
  have c := absS0 ts n
  unfold SmallT at h
  have d := Int.mul_le_mul_of_nonneg_right (show absS ts n ≤ 8388608 by omega) (show (0 : Int) ≤ 65535 by decide)
  omega
theorem small_all {ts : List Int} (h : SmallT ts) {f : Nat → Int} {n : Nat} (hn : n ≤ ts.length) (hf : ∀ i, i < n → -549747425280 ≤ f i ∧ f i ≤ 549747425280) : -4611615649683210240 ≤ tapS ts f n ∧ tapS ts f n ≤ 4611615649683210240 := by
  have a := tapS_in (ts := ts) (f := f) (M := 549747425280) n hf
  have b := absS_mono ts hn
  have c := absS0 ts n
  unfold SmallT at h
  have d := Int.mul_le_mul_of_nonneg_right (show absS ts n ≤ 8388608 by omega) (show (0 : Int) ≤ 549747425280 by decide)
  omega
/-! ### Taps of raw weights -/
theorem app_small {l : List Int} (hF : Fits l) (h : ∀ j, j < l.length → -1075000000 ≤ l.getD j 0 ∧ l.getD j 0 ≤ 1075000000) (hl : l.length ≤ 127) : SmallT (appR l) := by
  obtain ⟨e1, _, e3, _⟩ := app_facts hF
  have s0 := hF.s0
  have each : ∀ j, j < (appR l).length → -65614 ≤ (appR l).getD j 0 ∧ (appR l).getD j 0 ≤ 65614 := by
    intro j hj
    have hj' : j < l.length := by rw [← e1]; exact hj
    obtain ⟨x0, x1⟩ := h j hj'
    have sm : smallW (l.getD j 0) := ⟨by omega, by omega⟩
    obtain ⟨_, _, r0, r1⟩ := quotW_small s0 sm
    have q0 : -65613 ≤ quotW (sumH l) (l.getD j 0) := by
      by_cases g : -65613 ≤ quotW (sumH l) (l.getD j 0)
      · exact g
      · exfalso
        have := Int.mul_le_mul_of_nonneg_right (show quotW (sumH l) (l.getD j 0) ≤ -65614 by omega) (show 0 ≤ sumH l by omega)
        omega
    have q1 : quotW (sumH l) (l.getD j 0) ≤ 65613 := by
      by_cases g : quotW (sumH l) (l.getD j 0) ≤ 65613
      · exact g
      · exfalso
        have := Int.mul_le_mul_of_nonneg_right (show 65614 ≤ quotW (sumH l) (l.getD j 0) by omega) (show 0 ≤ sumH l by omega)
        omega
    rcases e3 j hj' with e | ⟨e, _⟩ <;> rw [e] <;> omega
  have a := absS_le (appR l) 65614 (appR l).length each
  unfold SmallT
  rw [e1] at a ⊢
  omega
theorem app_small_pos {l : List Int} (hF : Fits l) (h : ∀ j, j < l.length → 0 ≤ l.getD j 0) : SmallT (appR l) := by
  obtain ⟨e1, e2, e3, _⟩ := app_facts hF
  have s0 := hF.s0
  have each : ∀ j, j < (appR l).length → 0 ≤ (appR l).getD j 0 := by
    intro j hj
    have hj' : j < l.length := by rw [← e1]; exact hj
    have x0 := h j hj'
    have sm : smallW (l.getD j 0) := mem_getD hF.small hj'
    obtain ⟨_, _, r0, r1⟩ := quotW_small s0 sm
    have q0 : 0 ≤ quotW (sumH l) (l.getD j 0) := by
      by_cases g : 0 ≤ quotW (sumH l) (l.getD j 0)
      · exact g
      · exfalso
        have := Int.mul_le_mul_of_nonneg_right (show quotW (sumH l) (l.getD j 0) ≤ -1 by omega) (show 0 ≤ sumH l by omega)
        omega
    rcases e3 j hj' with e | ⟨e, _⟩ <;> rw [e] <;> omega
  unfold SmallT
  rw [absS_pos _ _ (Nat.le_refl _) each, List.take_of_length_le (Nat.le_refl _), e2]
  decide
end Go.Proofs.YtaafhjngnjjcmaaGreatDoor

/- Sums and bounds, held: the program's; and the law on them. -/
namespace Go.Proofs.YtaafhjngnjjcmaaGreatDoor
open Go.RowKit

theorem fixadd_any (a b : Int) (h0 : -9223372036854775808 ≤ a) (h1 : a ≤ 9223372036854775807) (k0 : -9223372036854775808 ≤ b) (k1 : b ≤ 9223372036854775807) (w : World) :
    Calls Tryz.prog 112 #[.int .i64 a, .int .i64 b] w fun e w' => e = .returned (.int .i64 (holdI (a + b))) ∧ w = w' := by
  by_cases hp : 0 < b
  · by_cases hc : 9223372036854775807 - b < a
    · rw [holdI_hi (by omega)]
      go_enter Tryz.func112, Tryz.ntmps112
      go_wp2
      go_ret
      exact ⟨rfl, rfl⟩
    · rw [holdI_in (by omega) (by omega)]
      go_enter Tryz.func112, Tryz.ntmps112
      go_wp2
      go_ret
      exact ⟨rfl, rfl⟩
  by_cases hn : b < 0
  · by_cases hc : a < -9223372036854775808 - b
    · rw [holdI_lo (by omega)]
      go_enter Tryz.func112, Tryz.ntmps112
      go_wp2
      go_ret
      exact ⟨rfl, rfl⟩
    · rw [holdI_in (by omega) (by omega)]
      go_enter Tryz.func112, Tryz.ntmps112
      go_wp2
      go_ret
      exact ⟨rfl, rfl⟩
  · obtain rfl : b = 0 := by omega
    rw [holdI_in (by omega) (by omega)]
    go_enter Tryz.func112, Tryz.ntmps112
    go_wp2
    go_ret
    exact ⟨by first | rfl | simp, rfl⟩

/-- Within two numbers. -/
def clampF (x low high : Int) : Int := if x < low ∨ high < low then low else if high < x then high else x
theorem fixclamp_any (x l h : Int) (w : World) :
    Calls Tryz.prog 59 #[.int .i64 x, .int .i64 l, .int .i64 h] w fun e w' => e = .returned (.int .i64 (clampF x l h)) ∧ w = w' := by
  unfold clampF
  by_cases c1 : x < l
  · rw [if_pos (Or.inl c1)]
    go_enter Tryz.func59, Tryz.ntmps59
    go_wp2
    go_ret
    exact ⟨rfl, rfl⟩
  by_cases c2 : h < l
  · rw [if_pos (Or.inr c2)]
    go_enter Tryz.func59, Tryz.ntmps59
    go_wp2
    go_ret
    exact ⟨rfl, rfl⟩
  rw [if_neg (by omega)]
  by_cases c3 : h < x
  · rw [if_pos c3]
    go_enter Tryz.func59, Tryz.ntmps59
    go_wp2
    go_ret
    exact ⟨rfl, rfl⟩
  · rw [if_neg c3]
    go_enter Tryz.func59, Tryz.ntmps59
    go_wp2
    go_ret
    exact ⟨rfl, rfl⟩

end Go.Proofs.YtaafhjngnjjcmaaGreatDoor

/- What stands beyond the edge: the program's answer, and the document's. -/
namespace Go.Proofs.YtaafhjngnjjcmaaGreatDoor
open Go.RowKit


theorem modF_pos {a b : Int} (hb : 0 < b) : modF a b = a % b := by
  rw [modF_of (by omega)]; unfold floorR; rw [if_neg (by omega)]
theorem knownE_yes (p : Int) (p0 : 0 ≤ p) (p1 : p ≤ 2) (w : World) :
    Calls Tryz.prog 84 #[.int .i64 p] w fun e w' => e = .returned (.bool true) ∧ w = w' := by
  go_enter Tryz.func84, Tryz.ntmps84
  go_wp2
  go_ret
  first | exact ⟨rfl, rfl⟩ | exact ⟨ret_bool (decide_eq_true (by omega)), rfl⟩
theorem knownE_no (p : Int) (h : p < 0 ∨ 2 < p) (w : World) :
    Calls Tryz.prog 84 #[.int .i64 p] w fun e w' => e = .returned (.bool false) ∧ w = w' := by
  rcases h with h | h
  all_goals
    go_enter Tryz.func84, Tryz.ntmps84
    go_wp2
    go_ret
    first | exact ⟨rfl, rfl⟩ | exact ⟨ret_bool (decide_eq_false (by omega)), rfl⟩
theorem sideE_yes (n : Int) (n0 : 1 ≤ n) (n1 : n ≤ 65536) (w : World) :
    Calls Tryz.prog 128 #[.int .i64 n] w fun e w' => e = .returned (.bool true) ∧ w = w' := by
  go_enter Tryz.func128, Tryz.ntmps128
  go_wp2
  go_ret
  first | exact ⟨rfl, rfl⟩ | exact ⟨ret_bool (decide_eq_true (by omega)), rfl⟩
theorem sideE_no (n : Int) (h : n < 1 ∨ 65536 < n) (w : World) :
    Calls Tryz.prog 128 #[.int .i64 n] w fun e w' => e = .returned (.bool false) ∧ w = w' := by
  rcases h with h | h
  all_goals
    go_enter Tryz.func128, Tryz.ntmps128
    go_wp2
    go_ret
    first | exact ⟨rfl, rfl⟩ | exact ⟨ret_bool (decide_eq_false (by omega)), rfl⟩
theorem clamp_edge (j n : Int) (n0 : 1 ≤ n) : clampF j 0 (n - 1) = clampE j n := by
  unfold clampF clampE
  by_cases h0 : j < 0
  · rw [if_pos (Or.inl h0), if_pos h0]
  · rw [if_neg (by omega), if_neg h0]
    by_cases h1 : n ≤ j
    · rw [if_pos (by omega), if_pos h1]
    · rw [if_neg (by omega), if_neg h1]
theorem at_any (p j n : Int) (h0 : -9223372036854775808 ≤ j) (h1 : j ≤ 9223372036854775807) (w : World) :
    Calls Tryz.prog 111 #[.int .i64 p, .int .i64 j, .int .i64 n] w fun e w' => e = .returned (.int .i64 (atF p j n)) ∧ w = w' := by
  by_cases hp : 0 ≤ p ∧ p ≤ 2
  · obtain ⟨p0, p1⟩ := hp
    have K := fun w => knownE_yes p p0 p1 w
    by_cases hn : 1 ≤ n ∧ n ≤ 65536
    · obtain ⟨n0, n1⟩ := hn
      have S := fun w => sideE_yes n n0 n1 w
      by_cases e1 : p = 1
      · subst e1
        rw [atF_mirror n0 n1]
        unfold mirrorE
        have CM := fun w => fixmod_any j (2 * n) h0 h1 (by omega) (by omega) w
        rw [modF_pos (by omega)] at CM
        have t0 := Int.emod_nonneg j (show 2 * n ≠ 0 by omega)
        have t1 := Int.emod_lt_of_pos j (show 0 < 2 * n by omega)
        generalize j % (2 * n) = t at *
        by_cases ht : t < n
        · rw [if_pos ht]
          go_enter Tryz.func111, Tryz.ntmps111
          go_wp2_with (first
            | (go_at_call 84; (with_reducible refine (K _).mono ?_); rintro e w1 ⟨rfl, rfl⟩)
            | (go_at_call 128; (with_reducible refine (S _).mono ?_); rintro e w1 ⟨rfl, rfl⟩)
            | (go_at_call 129; (with_reducible refine (CM _).mono ?_); rintro e w1 ⟨rfl, rfl⟩))
          go_ret
          first | exact ⟨rfl, rfl⟩ | exact ⟨ret_i64 (by omega), rfl⟩
        rw [if_neg ht]
        go_enter Tryz.func111, Tryz.ntmps111
        go_wp2_with (first
          | (go_at_call 84; (with_reducible refine (K _).mono ?_); rintro e w1 ⟨rfl, rfl⟩)
          | (go_at_call 128; (with_reducible refine (S _).mono ?_); rintro e w1 ⟨rfl, rfl⟩)
          | (go_at_call 129; (with_reducible refine (CM _).mono ?_); rintro e w1 ⟨rfl, rfl⟩))
        go_ret
        first | exact ⟨rfl, rfl⟩ | exact ⟨ret_i64 (by omega), rfl⟩
      by_cases e2 : p = 2
      · subst e2
        rw [atF_wrap n0 n1]
        have CM := fun w => fixmod_any j n h0 h1 (by omega) (by omega) w
        rw [modF_pos (by omega)] at CM
        generalize j % n = t at *
        clear e1
        go_enter Tryz.func111, Tryz.ntmps111
        go_wp2_with (first
          | (go_at_call 84; (with_reducible refine (K _).mono ?_); rintro e w1 ⟨rfl, rfl⟩)
          | (go_at_call 128; (with_reducible refine (S _).mono ?_); rintro e w1 ⟨rfl, rfl⟩)
          | (go_at_call 129; (with_reducible refine (CM _).mono ?_); rintro e w1 ⟨rfl, rfl⟩))
        go_ret
        first | exact ⟨rfl, rfl⟩ | exact ⟨ret_i64 (by omega), rfl⟩
      · obtain rfl : p = 0 := by omega
        rw [atF_clamp n0 n1, ← clamp_edge j n n0]
        have CC := fun w => fixclamp_any j 0 (n - 1) w
        generalize clampF j 0 (n - 1) = t at *
        clear e1 e2
        go_enter Tryz.func111, Tryz.ntmps111
        go_wp2_with (first
          | (go_at_call 84; (with_reducible refine (K _).mono ?_); rintro e w1 ⟨rfl, rfl⟩)
          | (go_at_call 128; (with_reducible refine (S _).mono ?_); rintro e w1 ⟨rfl, rfl⟩)
          | (go_at_call 59; (with_reducible refine (CC _).mono ?_); rintro e w1 ⟨rfl, rfl⟩))
        go_ret
        first | exact ⟨rfl, rfl⟩ | exact ⟨ret_i64 (by omega), rfl⟩
    · rw [atF_no (fun g => hn ⟨g.2.2.1, g.2.2.2⟩)]
      have S := fun w => sideE_no n (by omega) w
      clear hn
      go_enter Tryz.func111, Tryz.ntmps111
      go_wp2_with (first
        | (go_at_call 84; (with_reducible refine (K _).mono ?_); rintro e w1 ⟨rfl, rfl⟩)
        | (go_at_call 128; (with_reducible refine (S _).mono ?_); rintro e w1 ⟨rfl, rfl⟩))
      go_ret
      first | exact ⟨rfl, rfl⟩ | exact ⟨ret_i64 (by omega), rfl⟩
  · rw [atF_no (fun g => hp ⟨g.1, g.2.1⟩)]
    have K := fun w => knownE_no p (by omega) w
    clear hp
    go_enter Tryz.func111, Tryz.ntmps111
    go_wp2_with (go_at_call 84; (with_reducible refine (K _).mono ?_); rintro e w1 ⟨rfl, rfl⟩)
    go_ret
    first | exact ⟨rfl, rfl⟩ | exact ⟨ret_i64 (by omega), rfl⟩
/-! ### The document's -/
theorem refat_no (p j n : Int) (h : ¬ EdgeP p n) (w : World) :
    Calls Tryz.prog 54 #[.int .i64 p, .int .i64 j, .int .i64 n] w fun e w' => e = .returned (.int .i64 0) ∧ w = w' := by
  by_cases a1 : n < 1
  · clear h
    go_enter Tryz.func54, Tryz.ntmps54
    go_wp2
    go_ret
    first | exact ⟨rfl, rfl⟩ | exact ⟨ret_i64 (by omega), rfl⟩
  by_cases a2 : 65536 < n
  · clear h
    go_enter Tryz.func54, Tryz.ntmps54
    go_wp2
    go_ret
    first | exact ⟨rfl, rfl⟩ | exact ⟨ret_i64 (by omega), rfl⟩
  by_cases a3 : p < 0
  · clear h
    go_enter Tryz.func54, Tryz.ntmps54
    go_wp2
    go_ret
    first | exact ⟨rfl, rfl⟩ | exact ⟨ret_i64 (by omega), rfl⟩
  have a4 : 2 < p := by
    by_cases g : 2 < p
    · exact g
    · exact absurd ⟨by omega, by omega, by omega, by omega⟩ h
  clear h
  go_enter Tryz.func54, Tryz.ntmps54
  go_wp2
  go_ret
  first | exact ⟨rfl, rfl⟩ | exact ⟨ret_i64 (by omega), rfl⟩
theorem refat_in (p j n : Int) (h : EdgeP p n) (h0 : 0 ≤ j) (h1 : j < n) (w : World) :
    Calls Tryz.prog 54 #[.int .i64 p, .int .i64 j, .int .i64 n] w fun e w' => e = .returned (.int .i64 j) ∧ w = w' := by
  obtain ⟨p0, p1, n0, n1⟩ := h
  go_enter Tryz.func54, Tryz.ntmps54
  go_wp2
  go_ret
  first | exact ⟨rfl, rfl⟩ | exact ⟨ret_i64 (by omega), rfl⟩
theorem refat_clamp (j n : Int) (n0 : 1 ≤ n) (n1 : n ≤ 65536) (h : j < 0 ∨ n ≤ j) (w : World) :
    Calls Tryz.prog 54 #[.int .i64 0, .int .i64 j, .int .i64 n] w fun e w' => e = .returned (.int .i64 (clampE j n)) ∧ w = w' := by
  rcases h with h | h
  · rw [show clampE j n = 0 from if_pos h]
    go_enter Tryz.func54, Tryz.ntmps54
    go_wp2
    go_ret
    first | exact ⟨rfl, rfl⟩ | exact ⟨ret_i64 (by omega), rfl⟩
  · rw [show clampE j n = n - 1 from (if_neg (by omega)).trans (if_pos h)]
    go_enter Tryz.func54, Tryz.ntmps54
    go_wp2
    go_ret
    first | exact ⟨rfl, rfl⟩ | exact ⟨ret_i64 (by omega), rfl⟩
theorem round_one {u m : Int} (h0 : -m < u) (h1 : u < m) : u % m = if u < 0 then u + m else u := by
  split
  · exact mod_of (q := -1) (by omega) (by omega) (by omega)
  · exact mod_of (q := 0) (by omega) (by omega) (by omega)
theorem refat_far (p j n v : Int) (hv : v = if p = 1 then mirrorE j n else j % n) (p0 : 1 ≤ p) (p1 : p ≤ 2) (n0 : 1 ≤ n) (n1 : n ≤ 65536) (h : j < 0 ∨ n ≤ j) (h0 : -9223372036854775808 ≤ j) (h1 : j ≤ 9223372036854775807) (w : World) :
    Calls Tryz.prog 54 #[.int .i64 p, .int .i64 j, .int .i64 n] w fun e w' => e = .returned (.int .i64 v) ∧ w = w' := by
  obtain ⟨s1, s2, s3⟩ := tmod_round (a := j) (m := 2 * n) (by omega)
  have HV := hide hv
  have t0 := Int.emod_nonneg j (show 2 * n ≠ 0 by omega)
  have t1 := Int.emod_lt_of_pos j (show 0 < 2 * n by omega)
  obtain ⟨t, ht⟩ : ∃ t, j % (2 * n) = t := ⟨_, rfl⟩
  rw [ht] at t0 t1 s1
  have HT := hide ht
  have HS := hide s1
  clear hv ht s1
  obtain ⟨u, hu⟩ : ∃ u, j.tmod (2 * n) = u := ⟨_, rfl⟩
  have e := HS.out
  rw [hu] at s2 s3 e
  have HE := hide e
  clear e HS
  have hz : (2 * n == 0) = false := beq_eq_false_iff_ne.2 (by omega)
  have hg : (decide (0 ≤ j) && decide (j < n)) = false := by
    rcases h with h | h
    · rw [decide_eq_false (by omega)]; rfl
    · rw [decide_eq_false (show ¬ j < n by omega), Bool.and_false]
  have main : ∀ w, Calls Tryz.prog 54 #[.int .i64 p, .int .i64 j, .int .i64 n] w fun e w' => e = .returned (.int .i64 v) ∧ w = w' := by
    intro w
    rcases h with h | h
    all_goals
      clear hg
      go_enter Tryz.func54, Tryz.ntmps54
      go_wp2
      go_loop [7] (fun r => ∃ y : Int, r = .int .i64 y ∧ -(2 * n) < y ∧ y < 2 * n ∧ Hid (y % (2 * n) = t)) (fun r => if intOf r < 0 then 1 else 0)
      case atStart => exact ⟨_, rfl, by omega, by omega, HE⟩
      case round =>
        obtain ⟨y, rfl, y0, y1, hy⟩ := hrel
        have ey := round_one y0 y1
        rw [hy.out] at ey
        by_cases hl : y < 0
        · rw [if_pos hl] at ey
          have EY := hide ey
          clear ey
          go_wp2
          go_round
          case rel => exact ⟨_, rfl, by omega, by omega, by rw [Int.add_emod_right]; exact hy.out⟩
          case measure =>
            have e9 := EY.out
            have g9 : ¬ y + 2 * n < 0 := by omega
            simp [intOf, hl, g9]
        · rw [if_neg hl] at ey
          subst ey
          by_cases hn : t < n
          · have ev : v = t := by
              rw [HV.out]; split
              · unfold mirrorE; rw [HT.out, if_pos hn]
              · rw [mod_twice n0, HT.out, if_pos hn]
            subst ev
            go_wp2
            go_ret
            first | exact ⟨rfl, rfl⟩ | exact ⟨ret_i64 (by omega), rfl⟩
          · by_cases e2 : p = 2
            · subst e2
              have ev : v = t - n := by
                rw [HV.out, if_neg (by omega), mod_twice n0, HT.out, if_neg hn]
              subst ev
              go_wp2
              go_ret
              first | exact ⟨rfl, rfl⟩ | exact ⟨ret_i64 (by omega), rfl⟩
            · have ev : v = 2 * n - 1 - t := by
                rw [HV.out, if_pos (by omega)]; unfold mirrorE; rw [HT.out, if_neg hn]
              subst ev
              obtain rfl : p = 1 := by omega
              go_wp2
              go_ret
              first | exact ⟨rfl, rfl⟩ | exact ⟨ret_i64 (by omega), rfl⟩
  exact main w
theorem refat_any (p j n : Int) (h0 : -9223372036854775808 ≤ j) (h1 : j ≤ 9223372036854775807) (w : World) :
    Calls Tryz.prog 54 #[.int .i64 p, .int .i64 j, .int .i64 n] w fun e w' => e = .returned (.int .i64 (atF p j n)) ∧ w = w' := by
  by_cases h : EdgeP p n
  · by_cases hi : 0 ≤ j ∧ j < n
    · rw [atF_self h hi.1 hi.2]
      exact refat_in p j n h hi.1 hi.2 w
    · obtain ⟨p0, p1, n0, n1⟩ := h
      by_cases e0 : p = 0
      · subst e0
        rw [atF_clamp n0 n1]
        exact refat_clamp j n n0 n1 (by omega) w
      · refine refat_far p j n _ ?_ (by omega) p1 n0 n1 (by omega) h0 h1 w
        by_cases e1 : p = 1
        · subst e1
          rw [atF_mirror n0 n1, if_pos rfl]
        · obtain rfl : p = 2 := by omega
          rw [atF_wrap n0 n1, if_neg (by omega)]
  · rw [atF_no h]
    exact refat_no p j n h w
end Go.Proofs.YtaafhjngnjjcmaaGreatDoor
