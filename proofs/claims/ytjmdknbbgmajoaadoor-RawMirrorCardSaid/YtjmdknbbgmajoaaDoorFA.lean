/- Floating point: what the operations on words come to, as rational numbers. -/
import Derived.Laws.FloatArith
import Derived.RowKit
namespace Go.Proofs.YtjmdknbbgmajoaaDoor
open Ieee


/-- Powers of two, of whatever whole exponent. -/
@[irreducible]
def pw2 (e : Int) : Rat := (2 : Rat) ^ e
theorem pw2_pos (e : Int) : 0 < pw2 e := by unfold pw2; exact Rat.zpow_pos (by decide)
theorem pw2_add (a b : Int) : pw2 (a + b) = pw2 a * pw2 b := by unfold pw2; exact Rat.zpow_add (by decide) a b
theorem pw2_nat (n : Nat) : pw2 (n : Int) = ((2 ^ n : Nat) : Rat) := by
  unfold pw2
  rw [Rat.zpow_natCast, Rat.natCast_pow]; rfl
theorem pw2_zero : pw2 0 = 1 := by unfold pw2; exact Rat.zpow_zero 2
theorem pw2_one : pw2 1 = 2 := by unfold pw2; exact Rat.zpow_one 2
theorem pw2_succ (a : Int) : pw2 (a + 1) = 2 * pw2 a := by
  rw [pw2_add, Rat.mul_comm, pw2_one]
theorem pw2_one_le (n : Nat) : 1 ≤ pw2 (n : Int) := by
  rw [pw2_nat]
  exact_mod_cast Nat.one_le_two_pow
theorem pw2_le {a b : Int} (h : a ≤ b) : pw2 a ≤ pw2 b := by
  obtain ⟨n, rfl⟩ : ∃ n : Nat, b = a + n := ⟨(b - a).toNat, by omega⟩
  rw [pw2_add]
  have h1 := pw2_one_le n
  have h0 := Rat.le_of_lt (pw2_pos a)
  have := Rat.mul_le_mul_of_nonneg_left h1 h0
  rw [Rat.mul_one] at this
  exact this
theorem pw2_lt_inv {a b : Int} (h : pw2 a < pw2 b) : a < b := by
  by_cases g : a < b
  · exact g
  · exact absurd (pw2_le (by omega : b ≤ a)) (by grind)
theorem pw2_neg (e : Int) : pw2 e * pw2 (-e) = 1 := by
  rw [← pw2_add, Int.add_right_neg, pw2_zero]
/-- With its sign. -/
def sgnR (s : Bool) (x : Rat) : Rat := if s then -x else x
/-- Nearest whole number, halves to even: offR by half a unit at most. -/
theorem cut_near (neg : Bool) (n drop : Nat) : 2 * (Toward.even.cut neg n drop * 2 ^ drop) ≤ 2 * n + 2 ^ drop ∧ 2 * n ≤ 2 * (Toward.even.cut neg n drop * 2 ^ drop) + 2 ^ drop := by
  unfold Toward.cut
  dsimp only
  by_cases hd : drop ≤ n.log2 + 2
  · rw [Nat.min_eq_left hd, Nat.one_shiftLeft]
    have hg : 0 < 2 ^ drop := Nat.two_pow_pos _
    generalize 2 ^ drop = g at *
    have e := Nat.div_add_mod n g
    have hr := Nat.mod_lt n hg
    generalize n % g = r at *
    generalize n / g = l at *
    rw [Nat.add_mul, Nat.mul_comm l g]
    generalize g * l = m at *
    subst e
    by_cases c1 : g < 2 * r
    · simp only [c1, decide_true, Bool.true_or, Bool.toNat_true]; omega
    · by_cases c2 : (g == 2 * r) = true
      · have := eq_of_beq c2
        by_cases c3 : (l % 2 == 1) = true <;> simp [c1, c2, c3] <;> omega
      · have c2' : (g == 2 * r) = false := by simpa using c2
        simp [c1, c2'] ; omega
  · rw [Nat.min_eq_right (by omega), Nat.one_shiftLeft]
    have h1 : n < 2 ^ (n.log2 + 1) := Nat.lt_log2_self
    have h2 : 2 ^ (n.log2 + 2) = 2 * 2 ^ (n.log2 + 1) := by rw [Nat.pow_succ, Nat.mul_comm]
    have h3 : 2 ^ (n.log2 + 2) ≤ 2 ^ drop := Nat.pow_le_pow_right (by omega) (by omega)
    rw [Nat.div_eq_of_lt (by omega), Nat.mod_eq_of_lt (by omega)]
    have c1 : ¬ 2 ^ (n.log2 + 2) < 2 * n := by omega
    have c2 : (2 ^ (n.log2 + 2) == 2 * n) = false := by
      apply beq_eq_false_iff_ne.2; omega
    rw [show ((2 ^ (n.log2 + 2) == 2 * n) && 0 % 2 == 1) = false by rw [c2]; rfl]
    simp only [c1, decide_false, Bool.or_false, Bool.toNat_false]
    omega
theorem read_small (neg : Bool) {r : Nat} (h : r < 4503599627370496) : double.read (double.word neg r) = .number neg r (-1074) := by
  unfold Format.read Format.word
  have e1 : double.signWeight = 9223372036854775808 := by decide
  have e2 : double.binade = 4503599627370496 := by decide
  have e3 : double.leastPlace = -1074 := by decide
  rw [e1, e2, e3]
  cases neg
  · have a : ((r / 9223372036854775808 % 2 == 1)) = false := beq_eq_false_iff_ne.2 (by omega)
    simp only [Bool.false_eq_true, if_false]
    rw [Nat.mod_eq_of_lt (by omega : r < 9223372036854775808), if_pos h, a]
  · have a : (((9223372036854775808 + r) / 9223372036854775808 % 2 == 1)) = true := beq_iff_eq.2 (by omega)
    have b : (9223372036854775808 + r) % 9223372036854775808 = r := by omega
    simp only [if_true]
    rw [b, if_pos h, a]
theorem read_normal (neg : Bool) {r : Nat} (h : 4503599627370496 ≤ r) (h1 : r < 9218868437227405312) : double.read (double.word neg r) = .number neg (4503599627370496 + r % 4503599627370496) (-1074 + (r / 4503599627370496 - 1 : Nat)) := by
  unfold Format.read Format.word
  have e1 : double.signWeight = 9223372036854775808 := by decide
  have e2 : double.binade = 4503599627370496 := by decide
  have e3 : double.leastPlace = -1074 := by decide
  have e4 : double.infRung = 9218868437227405312 := by decide
  rw [e1, e2, e3, e4]
  cases neg
  · have a : ((r / 9223372036854775808 % 2 == 1)) = false := beq_eq_false_iff_ne.2 (by omega)
    simp only [Bool.false_eq_true, if_false]
    rw [Nat.mod_eq_of_lt (by omega : r < 9223372036854775808), if_neg (by omega), if_pos h1, a]
  · have a : (((9223372036854775808 + r) / 9223372036854775808 % 2 == 1)) = true := beq_iff_eq.2 (by omega)
    have b : (9223372036854775808 + r) % 9223372036854775808 = r := by omega
    simp only [if_true]
    rw [b, if_neg (by omega), if_pos h1, a]
theorem read_rung (neg : Bool) {k kept : Nat} (hk : k ≤ 2040) (h : kept ≤ 9007199254740992) (h0 : k = 0 ∨ 4503599627370496 ≤ kept) :
    ∃ m e, double.read (double.word neg (k * 4503599627370496 + kept)) = .number neg m e ∧ (m : Rat) * pw2 e = (kept : Rat) * pw2 ((k : Int) - 1074) := by
  by_cases hs : k * 4503599627370496 + kept < 4503599627370496
  · refine ⟨_, _, read_small neg hs, ?_⟩
    obtain rfl : k = 0 := by omega
    rw [Nat.zero_mul, Nat.zero_add]; rfl
  · refine ⟨_, _, read_normal neg (by omega) (by omega), ?_⟩
    by_cases hc : kept = 9007199254740992
    · subst hc
      have a : (k * 4503599627370496 + 9007199254740992) % 4503599627370496 = 0 := by omega
      have b : (k * 4503599627370496 + 9007199254740992) / 4503599627370496 - 1 = k + 1 := by omega
      rw [a, b]
      have e : (-1074 + ((k + 1 : Nat) : Int)) = ((k : Int) - 1074) + 1 := by omega
      rw [e, pw2_succ]
      generalize pw2 ((k : Int) - 1074) = P
      have : ((4503599627370496 + 0 : Nat) : Rat) = 4503599627370496 := rfl
      have q : ((9007199254740992 : Nat) : Rat) = 9007199254740992 := rfl
      rw [this, q]
      grind
    · have a : 4503599627370496 + (k * 4503599627370496 + kept) % 4503599627370496 = kept := by omega
      have b : (k * 4503599627370496 + kept) / 4503599627370496 - 1 = k := by omega
      rw [a, b]
      have e : (-1074 + (k : Int)) = (k : Int) - 1074 := by omega
      rw [e]
theorem half_unit {kept n dr : Nat} {Q R X : Rat} (hR : 0 < R) (hQ : Q = ((2 ^ dr : Nat) : Rat) * R) (hX : X = (n : Rat) * R) (c0 : 2 * (kept * 2 ^ dr) ≤ 2 * n + 2 ^ dr) (c1 : 2 * n ≤ 2 * (kept * 2 ^ dr) + 2 ^ dr) :
    2 * ((kept : Rat) * Q) ≤ 2 * X + Q ∧ 2 * X ≤ 2 * ((kept : Rat) * Q) + Q := by
  subst hQ hX
  generalize 2 ^ dr = D at *
  have a : ((2 * (kept * D) : Nat) : Rat) ≤ ((2 * n + D : Nat) : Rat) := Rat.natCast_le_natCast.2 c0
  have b : ((2 * n : Nat) : Rat) ≤ ((2 * (kept * D) + D : Nat) : Rat) := Rat.natCast_le_natCast.2 c1
  rw [Rat.natCast_mul, Rat.natCast_mul, Rat.natCast_add, Rat.natCast_mul] at a
  rw [Rat.natCast_mul, Rat.natCast_add, Rat.natCast_mul, Rat.natCast_mul] at b
  have e2 : ((2 : Nat) : Rat) = 2 := rfl
  rw [e2] at a b
  have a' := Rat.mul_le_mul_of_nonneg_right a (Rat.le_of_lt hR)
  have b' := Rat.mul_le_mul_of_nonneg_right b (Rat.le_of_lt hR)
  constructor <;> grind
theorem nearest_num (neg : Bool) (mag : Nat) (place : Int) (h : (mag : Rat) * pw2 place < pw2 960) :
    ∃ m e, double.read (double.nearest neg mag place) = .number neg m e ∧ (m : Rat) * pw2 e ≤ (mag : Rat) * pw2 place + ((mag : Rat) * pw2 place * pw2 (-53) + pw2 (-1075)) ∧ (mag : Rat) * pw2 place ≤ (m : Rat) * pw2 e + ((mag : Rat) * pw2 place * pw2 (-53) + pw2 (-1075)) := by
  have t0 := pw2_pos (-1075)
  by_cases hm : mag = 0
  · subst hm
    refine ⟨0, -1074, ?_, ?_, ?_⟩
    · unfold Format.nearest
      rw [if_pos rfl]
      exact read_small neg (by omega)
    · rw [show ((0 : Nat) : Rat) = 0 from rfl, Rat.zero_mul, Rat.zero_mul, Rat.zero_mul]; grind
    · rw [show ((0 : Nat) : Rat) = 0 from rfl, Rat.zero_mul, Rat.zero_mul, Rat.zero_mul]; grind
  have hL0 : 2 ^ mag.log2 ≤ mag := Nat.log2_self_le hm
  have hL1 : mag < 2 ^ (mag.log2 + 1) := Nat.lt_log2_self
  unfold Format.nearest
  rw [if_neg hm]
  dsimp only
  have e1 : ((double.fractionBits : Nat) : Int) = 52 := by decide
  have e2 : double.binade = 4503599627370496 := by decide
  have e3 : double.leastPlace = -1074 := by decide
  have e4 : double.infRung = 9218868437227405312 := by decide
  rw [e1, e2, e3, e4]
  generalize mag.log2 = L at *
  have hx : pw2 (place + L) ≤ (mag : Rat) * pw2 place := by
    rw [Int.add_comm, pw2_add, pw2_nat]
    exact Rat.mul_le_mul_of_nonneg_right (Rat.natCast_le_natCast.2 hL0) (Rat.le_of_lt (pw2_pos _))
  have hpl : place + L < 960 := pw2_lt_inv (by grind)
  obtain ⟨last, hlast⟩ : ∃ last, last = max (place + (L : Int) - 52) (-1074) := ⟨_, rfl⟩
  rw [← hlast]
  have hl0 : -1074 ≤ last := by omega
  have hl1 : last ≤ 907 := by omega
  obtain ⟨up, hup⟩ : ∃ up, up = (place - last).toNat := ⟨_, rfl⟩
  obtain ⟨dr, hdr⟩ : ∃ dr, dr = (last - place).toNat := ⟨_, rfl⟩
  rw [← hup, ← hdr, Nat.shiftLeft_eq]
  have hpd : place - up = last - dr := by omega
  -- the scaled magnitude
  have hn1 : mag * 2 ^ up < 2 ^ (53 + dr) := by
    have a : mag * 2 ^ up < 2 ^ (L + 1) * 2 ^ up := Nat.mul_lt_mul_of_pos_right hL1 (Nat.two_pow_pos _)
    rw [← Nat.pow_add] at a
    exact Nat.lt_of_lt_of_le a (Nat.pow_le_pow_right (by omega) (by omega))
  have hn0 : last = -1074 ∨ 2 ^ (52 + dr) ≤ mag * 2 ^ up := by
    by_cases q : last = -1074
    · exact Or.inl q
    · refine Or.inr ?_
      have a : 2 ^ L * 2 ^ up ≤ mag * 2 ^ up := Nat.mul_le_mul_right _ hL0
      rw [← Nat.pow_add] at a
      exact Nat.le_trans (Nat.pow_le_pow_right (by omega) (by omega)) a
  have hex : (mag : Rat) * pw2 place = ((mag * 2 ^ up : Nat) : Rat) * pw2 (last - dr) := by
    rw [← hpd, Rat.natCast_mul, Rat.mul_assoc, ← pw2_nat, ← pw2_add]
    congr 2
    omega
  have hc := cut_near neg (mag * 2 ^ up) dr
  generalize hN : mag * 2 ^ up = n at *
  generalize Toward.even.cut neg n dr = kept at *
  obtain ⟨c0, c1⟩ := hc
  have hkept1 : kept ≤ 9007199254740992 := by
    have a : 2 ^ (53 + dr) = 9007199254740992 * 2 ^ dr := by rw [Nat.pow_add]
    rw [a] at hn1
    have hp : 0 < 2 ^ dr := Nat.two_pow_pos _
    generalize 2 ^ dr = d at *
    have : kept * d < 9007199254740993 * d := by omega
    have := Nat.lt_of_mul_lt_mul_right this
    omega
  have hkept0 : last = -1074 ∨ 4503599627370496 ≤ kept := by
    rcases hn0 with q | q
    · exact Or.inl q
    · refine Or.inr ?_
      have a : 2 ^ (52 + dr) = 4503599627370496 * 2 ^ dr := by rw [Nat.pow_add]
      rw [a] at q
      have hp : 0 < 2 ^ dr := Nat.two_pow_pos _
      generalize 2 ^ dr = d at *
      have : 4503599627370495 * d < kept * d := by omega
      have := Nat.lt_of_mul_lt_mul_right this
      omega
  obtain ⟨k, hk⟩ : ∃ k, k = (last - -1074).toNat := ⟨_, rfl⟩
  rw [← hk]
  have hk1 : k ≤ 2040 := by omega
  have hk0 : k = 0 ∨ 4503599627370496 ≤ kept := hkept0.elim (fun q => Or.inl (by rw [hk, q]; rfl)) Or.inr
  have hkl : (k : Int) - 1074 = last := by omega
  have hmin : min (k * 4503599627370496 + kept) 9218868437227405312 = k * 4503599627370496 + kept := Nat.min_eq_left (by omega)
  rw [hmin]
  clear hmin
  obtain ⟨m, e, hr, hv⟩ := read_rung neg hk1 hkept1 hk0
  rw [hkl] at hv
  rw [hr]
  refine ⟨m, e, rfl, ?_⟩
  rw [hv, hex]
  -- half a unit of the last place
  have hlp : pw2 last = ((2 ^ dr : Nat) : Rat) * pw2 (last - dr) := by
    rw [← pw2_nat, ← pw2_add]; congr 1; omega
  have hunit : pw2 last ≤ (n : Rat) * pw2 (last - dr) * pw2 (-52) + pw2 (-1074) := by
    rw [← hex]
    have s1 := pw2_pos (-1074)
    by_cases q : last = -1074
    · rw [q]
      have : 0 ≤ (mag : Rat) * pw2 place * pw2 (-52) := Rat.mul_nonneg (Rat.mul_nonneg (Rat.natCast_nonneg) (Rat.le_of_lt (pw2_pos _))) (Rat.le_of_lt (pw2_pos _))
      grind
    · have : last = (place + L) + (-52) := by omega
      rw [this, pw2_add]
      have := Rat.mul_le_mul_of_nonneg_right hx (Rat.le_of_lt (pw2_pos (-52)))
      grind
  obtain ⟨b0, b1⟩ := half_unit (pw2_pos (last - dr)) hlp rfl c0 c1
  have h52 : pw2 (-52) = 2 * pw2 (-53) := by rw [show (-52 : Int) = -53 + 1 from rfl, pw2_succ]
  have h74 : pw2 (-1074) = 2 * pw2 (-1075) := by rw [show (-1074 : Int) = -1075 + 1 from rfl, pw2_succ]
  rw [h52, h74] at hunit
  generalize (n : Rat) * pw2 (last - dr) = X at *
  generalize (kept : Rat) * pw2 last = K at *
  generalize pw2 last = Q at *
  constructor <;> grind
/-- A finite word, and what it stands for. -/
def Fin64 (x : Nat) (v : Rat) : Prop := ∃ s m e, double.read x = .number s m e ∧ v = sgnR s ((m : Rat) * pw2 e)
/-- How far offR the nearest word is. -/
def offR (v : Rat) : Rat := v.abs * pw2 (-53) + pw2 (-1075)
/-- Two numbers at most so far from each other. -/
def NearR (x y e : Rat) : Prop := x ≤ y + e ∧ y ≤ x + e
theorem sgnR_abs (s : Bool) {x : Rat} (h : 0 ≤ x) : (sgnR s x).abs = x := by
  unfold sgnR; cases s <;> simp [Rat.abs_neg, Rat.abs_of_nonneg h]
theorem nearest_val (neg : Bool) (mag : Nat) (place : Int) (h : (mag : Rat) * pw2 place < pw2 960) :
    ∃ v, Fin64 (double.nearest neg mag place) v ∧ NearR v (sgnR neg ((mag : Rat) * pw2 place)) (offR (sgnR neg ((mag : Rat) * pw2 place))) := by
  obtain ⟨m, e, hr, a, b⟩ := nearest_num neg mag place h
  refine ⟨_, ⟨neg, m, e, hr, rfl⟩, ?_⟩
  have h0 : 0 ≤ (mag : Rat) * pw2 place := Rat.mul_nonneg (Rat.natCast_nonneg) (Rat.le_of_lt (pw2_pos _))
  unfold offR NearR
  rw [sgnR_abs neg h0]
  generalize (mag : Rat) * pw2 place * pw2 (-53) = X at *
  generalize (mag : Rat) * pw2 place = Y at *
  generalize (m : Rat) * pw2 e = Z at *
  cases neg
  · exact ⟨a, b⟩
  · simp only [sgnR]
    constructor <;> grind
/-- A whole number times a power of two. -/
theorem write_val (neg : Bool) (t : Int) (place : Int) (hn : t ≠ 0 → neg = decide (t < 0)) (h : ((t : Rat) * pw2 place).abs < pw2 960) :
    ∃ v, Fin64 (double.nearest neg t.natAbs place) v ∧ NearR v ((t : Rat) * pw2 place) (offR ((t : Rat) * pw2 place)) := by
  have e : sgnR neg ((t.natAbs : Rat) * pw2 place) = (t : Rat) * pw2 place := by
    by_cases hz : t = 0
    · subst hz
      show sgnR neg (((0 : Nat) : Rat) * _) = ((0 : Int) : Rat) * _
      rw [show ((0 : Nat) : Rat) = 0 from rfl, show ((0 : Int) : Rat) = 0 from rfl, Rat.zero_mul]
      unfold sgnR; cases neg <;> rfl
    · rw [hn hz]
      by_cases hs : t < 0
      · obtain ⟨n, rfl⟩ : ∃ n : Nat, t = -(n : Int) := ⟨t.natAbs, by omega⟩
        rw [decide_eq_true hs, Int.natAbs_neg, Int.natAbs_natCast, Rat.intCast_neg, Rat.intCast_natCast]
        unfold sgnR
        simp only [if_true]
        grind
      · obtain ⟨n, rfl⟩ : ∃ n : Nat, t = (n : Int) := ⟨t.natAbs, by omega⟩
        rw [decide_eq_false hs, Int.natAbs_natCast, Rat.intCast_natCast]
        unfold sgnR
        simp only [Bool.false_eq_true, if_false]
  have h0 : 0 ≤ (t.natAbs : Rat) * pw2 place := Rat.mul_nonneg (Rat.natCast_nonneg) (Rat.le_of_lt (pw2_pos _))
  rw [← e] at h ⊢
  rw [sgnR_abs neg h0] at h
  exact nearest_val neg t.natAbs place h
theorem signed_val (s : Bool) (m up : Nat) (base : Int) : ((signed s m up : Int) : Rat) * pw2 base = sgnR s ((m : Rat) * pw2 (base + up)) := by
  have e : ((m <<< up : Nat) : Rat) * pw2 base = (m : Rat) * pw2 (base + up) := by
    rw [Nat.shiftLeft_eq, Rat.natCast_mul, ← pw2_nat, Int.add_comm, pw2_add]; grind
  unfold signed sgnR
  cases s
  · simp only [Bool.false_eq_true, if_false]
    rw [Rat.intCast_natCast, e]
  · simp only [if_true]
    rw [Rat.intCast_neg, Rat.intCast_natCast, ← e]; grind
/-- SUMS. -/
theorem add_val {x y : Nat} {u v : Rat} (hx : Fin64 x u) (hy : Fin64 y v) (h : (u + v).abs < pw2 960) :
    ∃ r z, double.add x y = some r ∧ Fin64 r z ∧ NearR z (u + v) (offR (u + v)) := by
  obtain ⟨s, m, i, rx, rfl⟩ := hx
  obtain ⟨t, n, j, ry, rfl⟩ := hy
  unfold Format.add
  rw [rx, ry]
  show ∃ r z, (some (double.nearest _ _ _)) = some r ∧ _
  obtain ⟨b, hb⟩ : ∃ b, b = min i j := ⟨_, rfl⟩
  rw [← hb]
  have e : ((signed s m (i - b).toNat + signed t n (j - b).toNat : Int) : Rat) * pw2 b = sgnR s ((m : Rat) * pw2 i) + sgnR t ((n : Rat) * pw2 j) := by
    rw [Rat.intCast_add, Rat.add_mul, signed_val, signed_val]
    congr 4 <;> omega
  rw [← e] at h ⊢
  obtain ⟨z, a1, a2⟩ := write_val (if signed s m (i - b).toNat + signed t n (j - b).toNat = 0 then s && t else decide (signed s m (i - b).toNat + signed t n (j - b).toNat < 0)) (signed s m (i - b).toNat + signed t n (j - b).toNat) b (fun hz => if_neg hz) h
  exact ⟨_, z, rfl, a1, a2⟩
theorem opposite_read {y : Nat} {t : Bool} {n : Nat} {j : Int} (ry : double.read y = .number t n j) : (double.read y).opposite = .number (!t) n j := by rw [ry]; rfl
theorem sgnR_not (s : Bool) (x : Rat) : sgnR (!s) x = -sgnR s x := by unfold sgnR; cases s <;> simp <;> grind
theorem sub_val {x y : Nat} {u v : Rat} (hx : Fin64 x u) (hy : Fin64 y v) (h : (u - v).abs < pw2 960) :
    ∃ r z, double.sub x y = some r ∧ Fin64 r z ∧ NearR z (u - v) (offR (u - v)) := by
  obtain ⟨s, m, i, rx, rfl⟩ := hx
  obtain ⟨t, n, j, ry, rfl⟩ := hy
  unfold Format.sub
  rw [rx, opposite_read ry]
  show ∃ r z, (some (double.nearest _ _ _)) = some r ∧ _
  obtain ⟨b, hb⟩ : ∃ b, b = min i j := ⟨_, rfl⟩
  rw [← hb]
  have e : ((signed s m (i - b).toNat + signed (!t) n (j - b).toNat : Int) : Rat) * pw2 b = sgnR s ((m : Rat) * pw2 i) - sgnR t ((n : Rat) * pw2 j) := by
    rw [Rat.intCast_add, Rat.add_mul, signed_val, signed_val, sgnR_not, Rat.sub_eq_add_neg]
    congr 5 <;> omega
  rw [← e] at h ⊢
  obtain ⟨z, a1, a2⟩ := write_val (if signed s m (i - b).toNat + signed (!t) n (j - b).toNat = 0 then s && !t else decide (signed s m (i - b).toNat + signed (!t) n (j - b).toNat < 0)) (signed s m (i - b).toNat + signed (!t) n (j - b).toNat) b (fun hz => if_neg hz) h
  exact ⟨_, z, rfl, a1, a2⟩
theorem sgnR_mul (s t : Bool) (x y : Rat) : sgnR (s ^^ t) (x * y) = sgnR s x * sgnR t y := by unfold sgnR; cases s <;> cases t <;> simp <;> grind
/-- PRODUCTS. -/
theorem mul_val {x y : Nat} {u v : Rat} (hx : Fin64 x u) (hy : Fin64 y v) (h : (u * v).abs < pw2 960) :
    ∃ r z, double.mul x y = some r ∧ Fin64 r z ∧ NearR z (u * v) (offR (u * v)) := by
  obtain ⟨s, m, i, rx, rfl⟩ := hx
  obtain ⟨t, n, j, ry, rfl⟩ := hy
  unfold Format.mul
  rw [rx, ry]
  show ∃ r z, (some (double.nearest (s ^^ t) (m * n) (i + j))) = some r ∧ _
  have e : sgnR (s ^^ t) (((m * n : Nat) : Rat) * pw2 (i + j)) = sgnR s ((m : Rat) * pw2 i) * sgnR t ((n : Rat) * pw2 j) := by
    rw [← sgnR_mul]; congr 1
    rw [pw2_add, Rat.natCast_mul]; grind
  rw [← e] at h ⊢
  have h0 : 0 ≤ ((m * n : Nat) : Rat) * pw2 (i + j) := Rat.mul_nonneg (Rat.natCast_nonneg) (Rat.le_of_lt (pw2_pos _))
  rw [sgnR_abs _ h0] at h
  obtain ⟨z, a1, a2⟩ := nearest_val (s ^^ t) (m * n) (i + j) h
  exact ⟨_, z, rfl, a1, a2⟩
/-- A whole number. -/
theorem ofInt_val (n : Int) (h : ((n : Rat)).abs < pw2 960) : ∃ z, Fin64 (double.nearest (decide (n < 0)) n.natAbs 0) z ∧ NearR z n (offR n) := by
  have e : (n : Rat) * pw2 0 = n := by rw [pw2_zero, Rat.mul_one]
  obtain ⟨z, a, b⟩ := write_val (decide (n < 0)) n 0 (fun _ => rfl) (by rw [e]; exact h)
  rw [e] at b
  exact ⟨z, a, b⟩
/-- HOW TWO STAND TO EACH OTHER. -/
theorem order_val {x y : Nat} {u v : Rat} (hx : Fin64 x u) (hy : Fin64 y v) : double.order x y = some (if u < v then .lt else if u = v then .eq else .gt) := by
  obtain ⟨s, m, i, rx, rfl⟩ := hx
  obtain ⟨t, n, j, ry, rfl⟩ := hy
  unfold Format.order
  rw [rx, ry]
  obtain ⟨b, hb⟩ : ∃ b, b = min i j := ⟨_, rfl⟩
  show some (compare (signed s m (i - min i j).toNat) (signed t n (j - min i j).toNat)) = _
  rw [← hb]
  have e1 : ((signed s m (i - b).toNat : Int) : Rat) * pw2 b = sgnR s ((m : Rat) * pw2 i) := by
    rw [signed_val]; congr 3; omega
  have e2 : ((signed t n (j - b).toNat : Int) : Rat) * pw2 b = sgnR t ((n : Rat) * pw2 j) := by
    rw [signed_val]; congr 3; omega
  rw [← e1, ← e2]
  generalize signed s m (i - b).toNat = X
  generalize signed t n (j - b).toNat = Y
  have hp := pw2_pos b
  generalize pw2 b = P at *
  congr 1
  by_cases h : X < Y
  · have : (X : Rat) * P < (Y : Rat) * P := Rat.mul_lt_mul_of_pos_right (Rat.intCast_lt_intCast.2 h) hp
    rw [if_pos this]
    exact Int.compare_eq_lt.2 h
  · by_cases g : X = Y
    · subst g
      rw [if_neg (by grind), if_pos rfl]
      exact Int.compare_eq_eq.2 rfl
    · have : (Y : Rat) * P < (X : Rat) * P := Rat.mul_lt_mul_of_pos_right (Rat.intCast_lt_intCast.2 (by omega)) hp
      rw [if_neg (by grind), if_neg (by grind)]
      exact Int.compare_eq_gt.2 (by omega)
theorem quot_near {D n : Nat} {E R : Rat} (hn : n ≠ 0) (hR : 0 < R) (hE : E * (n : Rat) = (D : Rat) * (2 * R)) :
    NearR (((2 * (D / n) + (D % n != 0).toNat : Nat) : Rat) * R) E R ∧ ((D / n : Nat) : Rat) * (2 * R) ≤ E := by
  have e := Nat.div_add_mod D n
  have hr := Nat.mod_lt D (Nat.pos_of_ne_zero hn)
  generalize hq : D / n = q at *
  generalize hrr : D % n = r at *
  have hnr : (0 : Rat) < (n : Rat) := Rat.natCast_pos.2 (Nat.pos_of_ne_zero hn)
  have e' : (D : Rat) = (n : Rat) * (q : Rat) + (r : Rat) := by rw [← e, Rat.natCast_add, Rat.natCast_mul]
  have r0 : (0 : Rat) ≤ (r : Rat) := Rat.natCast_nonneg
  have r1 : (r : Rat) + 1 ≤ (n : Rat) := by
    have : ((r + 1 : Nat) : Rat) ≤ (n : Rat) := Rat.natCast_le_natCast.2 hr
    rw [Rat.natCast_add] at this; exact this
  -- E - q 2R = r 2R / n
  have hd : (E - (q : Rat) * (2 * R)) * (n : Rat) = (r : Rat) * (2 * R) := by rw [e'] at hE; grind
  generalize hX : E - (q : Rat) * (2 * R) = X at *
  have x0 : 0 ≤ X := by
    by_cases hx : 0 ≤ X
    · exact hx
    · have := Rat.mul_pos (show 0 < -X by grind) hnr
      have := Rat.mul_nonneg r0 (show 0 ≤ 2 * R by grind)
      grind
  have x1 : X ≤ 2 * R := by
    by_cases hx : X ≤ 2 * R
    · exact hx
    · have a := Rat.mul_pos (show 0 < X - 2 * R by grind) hnr
      have b := Rat.mul_nonneg (show 0 ≤ (n : Rat) - r by grind) (show 0 ≤ 2 * R by grind)
      grind
  have hw : ((2 * q + (r != 0).toNat : Nat) : Rat) * R = (q : Rat) * (2 * R) + (((r != 0).toNat : Nat) : Rat) * R := by
    rw [Rat.natCast_add, Rat.natCast_mul, show ((2 : Nat) : Rat) = 2 from rfl]; grind
  refine ⟨?_, by grind⟩
  rw [hw]
  by_cases hz : r = 0
  · subst hz
    have : X = 0 := by
      rw [show ((0 : Nat) : Rat) = 0 from rfl, Rat.zero_mul] at hd
      rcases Rat.mul_eq_zero.1 hd with h | h
      · exact h
      · grind
    rw [show (((0 : Nat) != 0).toNat : Nat) = 0 from rfl, show ((0 : Nat) : Rat) = 0 from rfl]
    unfold NearR
    constructor <;> grind
  · rw [show ((r != 0).toNat : Nat) = 1 by simp [hz], show ((1 : Nat) : Rat) = 1 from rfl]
    unfold NearR
    constructor <;> grind
theorem near_trans {x y z a b : Rat} (h1 : NearR x y a) (h2 : NearR y z b) : NearR x z (a + b) := by unfold NearR at *; constructor <;> grind
theorem near_mono {x y a b : Rat} (h1 : NearR x y a) (h : a ≤ b) : NearR x y b := by unfold NearR at *; constructor <;> grind
theorem near_sg {x y e : Rat} (s : Bool) (h : NearR x y e) : NearR (sgnR s x) (sgnR s y) e := by
  unfold sgnR NearR at *; cases s
  · exact h
  · simp only [if_true]; constructor <;> grind
theorem pw2_m54 : 18014398509481984 * pw2 (-54) = 1 := by
  have := pw2_neg 54
  rw [show pw2 54 = 18014398509481984 by rw [show (54 : Int) = ((54 : Nat) : Int) from rfl, pw2_nat]; rfl] at this
  exact this
theorem pw2_m53 : pw2 (-53) = 2 * pw2 (-54) := by rw [show (-53 : Int) = -54 + 1 from rfl, pw2_succ]
theorem pw2_m52 : pw2 (-52) = 4 * pw2 (-54) := by rw [show (-52 : Int) = -54 + 1 + 1 from rfl, pw2_succ, pw2_succ]; grind
theorem small_unit {q R E F : Rat} (hq : 9007199254740992 ≤ q) (h : q * (2 * R) ≤ E) (hF : 18014398509481984 * F = 1) (F0 : 0 ≤ F) (R0 : 0 ≤ R) : R ≤ E * F := by
  have a := Rat.mul_le_mul_of_nonneg_right hq (show 0 ≤ 2 * R by grind)
  have b := Rat.mul_le_mul_of_nonneg_right (Rat.le_trans a h) F0
  have c : 9007199254740992 * (2 * R) * F = R * (18014398509481984 * F) := by grind
  rw [c, hF, Rat.mul_one] at b
  exact b
theorem quot_end {W E R F : Rat} (h : NearR W E R) (hR : R ≤ E * F) (E0 : 0 ≤ E) (F0 : 0 ≤ F) (F1 : F ≤ 1 / 2) (T : Rat) : W * (2 * F) + T + R ≤ E * (4 * F) + T := by
  have a : W ≤ E + E * F := by unfold NearR at h; grind
  have b := Rat.mul_le_mul_of_nonneg_right a (show 0 ≤ 2 * F by grind)
  have c := Rat.mul_le_mul_of_nonneg_left F1 (Rat.mul_nonneg E0 F0)
  grind
theorem pw2_m54_half : pw2 (-54) ≤ 1 / 2 := by
  have a := pw2_m54
  have b := pw2_pos (-54)
  grind
theorem twice_in {W E R F B C : Rat} (h : NearR W E R) (hR : R ≤ E * F) (E0 : 0 ≤ E) (F1 : F ≤ 1 / 2) (hB : E < B) (hC : 2 * B ≤ C) : W < C := by
  have c := Rat.mul_le_mul_of_nonneg_left F1 E0
  unfold NearR at h
  grind
/-- QUOTIENTS: offR by a little more. -/
def offQ (v : Rat) : Rat := v.abs * pw2 (-52) + pw2 (-1075)
theorem div_val {x y : Nat} {u v Q : Rat} (hx : Fin64 x u) (hy : Fin64 y v) (hv : v ≠ 0) (hQ : Q * v = u) (h : Q.abs < pw2 950) :
    ∃ r z, double.div x y = some r ∧ Fin64 r z ∧ NearR z Q (offQ Q) := by
  obtain ⟨s, m, i, rx, rfl⟩ := hx
  obtain ⟨t, n, j, ry, rfl⟩ := hy
  have hn : n ≠ 0 := by
    rintro rfl
    apply hv
    rw [show ((0 : Nat) : Rat) = 0 from rfl, Rat.zero_mul]
    unfold sgnR; cases t <;> rfl
  unfold Format.div
  rw [rx, ry]
  unfold Datum.quotient
  dsimp only
  rw [if_neg hn]
  have ef : double.fractionBits + 2 = 54 := by decide
  rw [ef]
  obtain ⟨more, hm⟩ : ∃ k, k = 54 + n.log2 - m.log2 := ⟨_, rfl⟩
  rw [← hm, Nat.shiftLeft_eq]
  show ∃ r z, some (double.nearest (s ^^ t) (2 * (m * 2 ^ more / n) + (m * 2 ^ more % n != 0).toNat) (i - j - more - 1)) = some r ∧ _
  -- the quotient without signs
  have hnp : (0 : Rat) < (n : Rat) * pw2 j := Rat.mul_pos (Rat.natCast_pos.2 (Nat.pos_of_ne_zero hn)) (pw2_pos j)
  have hmp : (0 : Rat) ≤ (m : Rat) * pw2 i := Rat.mul_nonneg (Rat.natCast_nonneg) (Rat.le_of_lt (pw2_pos i))
  obtain ⟨E, hE⟩ : ∃ E, E = (m : Rat) * pw2 i / ((n : Rat) * pw2 j) := ⟨_, rfl⟩
  have hEb : E * ((n : Rat) * pw2 j) = (m : Rat) * pw2 i := by rw [hE]; exact Rat.div_mul_cancel (by grind)
  have hQE : Q = sgnR (s ^^ t) E := by
    rw [← hEb] at hQ
    generalize (n : Rat) * pw2 j = B at *
    unfold sgnR at hQ ⊢
    have : ∀ a b : Rat, a * B = b * B → a = b := fun a b hab => by
      have : (a - b) * B = 0 := by grind
      rcases Rat.mul_eq_zero.1 this with h | h
      · grind
      · grind
    cases s <;> cases t <;> simp at hQ ⊢ <;> apply this <;> grind
  have hE0 : 0 ≤ E := by
    by_cases g : 0 ≤ E
    · exact g
    · have := Rat.mul_pos (show 0 < -E by grind) hnp
      grind
  have hQa : Q.abs = E := by rw [hQE, sgnR_abs _ hE0]
  rw [hQa] at h
  unfold offQ
  rw [hQa, hQE]
  have hR := pw2_pos (i - j - more - 1)
  have hEn : E * (n : Rat) = ((m * 2 ^ more : Nat) : Rat) * (2 * pw2 (i - j - more - 1)) := by
    rw [← pw2_succ, Rat.natCast_mul, ← pw2_nat, Rat.mul_assoc, ← pw2_add]
    have : E * (n : Rat) = (E * ((n : Rat) * pw2 j)) * pw2 (-j) := by
      have := pw2_neg j
      grind
    rw [this, hEb, Rat.mul_assoc, ← pw2_add]
    congr 2
    omega
  obtain ⟨a, b⟩ := quot_near hn hR hEn
  by_cases hm0 : m = 0
  · subst hm0
    have hEz : E = 0 := by
      rw [show ((0 : Nat) : Rat) = 0 from rfl, Rat.zero_mul] at hEb
      rcases Rat.mul_eq_zero.1 hEb with h | h
      · exact h
      · grind
    rw [Nat.zero_mul, Nat.zero_div, Nat.zero_mod]
    show ∃ r z, some (double.nearest (s ^^ t) 0 (i - j - more - 1)) = some r ∧ _
    obtain ⟨z, z1, z2⟩ := nearest_val (s ^^ t) 0 (i - j - more - 1) (by rw [show ((0 : Nat) : Rat) = 0 from rfl, Rat.zero_mul]; exact pw2_pos _)
    refine ⟨_, z, rfl, z1, ?_⟩
    rw [show ((0 : Nat) : Rat) = 0 from rfl, Rat.zero_mul] at z2
    have e0 : sgnR (s ^^ t) 0 = 0 := by unfold sgnR; cases (s ^^ t) <;> rfl
    rw [hEz, e0]
    rw [e0] at z2
    unfold offR at z2
    rw [Rat.abs_zero, Rat.zero_mul] at z2
    rw [Rat.zero_mul]; exact z2
  -- enough digits
  have hq : 9007199254740992 ≤ m * 2 ^ more / n := by
    rw [Nat.le_div_iff_mul_le (Nat.pos_of_ne_zero hn)]
    have a1 : 2 ^ m.log2 ≤ m := Nat.log2_self_le hm0
    have a2 : n < 2 ^ (n.log2 + 1) := Nat.lt_log2_self
    have a3 : 2 ^ m.log2 * 2 ^ more ≤ m * 2 ^ more := Nat.mul_le_mul_right _ a1
    rw [← Nat.pow_add] at a3
    have a4 : 2 ^ (53 + (n.log2 + 1)) ≤ 2 ^ (m.log2 + more) := Nat.pow_le_pow_right (by omega) (by omega)
    rw [Nat.pow_add] at a4
    have a5 : 9007199254740992 * n ≤ 9007199254740992 * 2 ^ (n.log2 + 1) := Nat.mul_le_mul_left _ (Nat.le_of_lt a2)
    exact Nat.le_trans a5 (Nat.le_trans a4 a3)
  have hRE : pw2 (i - j - more - 1) ≤ E * pw2 (-54) := by
    have c1 : (9007199254740992 : Rat) ≤ ((m * 2 ^ more / n : Nat) : Rat) := by exact_mod_cast hq
    exact small_unit c1 b pw2_m54 (Rat.le_of_lt (pw2_pos _)) (Rat.le_of_lt hR)
  have hw1 : ((2 * (m * 2 ^ more / n) + (m * 2 ^ more % n != 0).toNat : Nat) : Rat) * pw2 (i - j - more - 1) < pw2 960 := by
    refine twice_in a hRE hE0 pw2_m54_half h ?_
    rw [← pw2_succ]; exact pw2_le (by omega)
  obtain ⟨z, z1, z2⟩ := nearest_val (s ^^ t) _ (i - j - more - 1) hw1
  refine ⟨_, z, rfl, z1, ?_⟩
  have n1 := near_trans z2 (near_sg (s ^^ t) a)
  refine near_mono n1 ?_
  unfold offR
  rw [sgnR_abs _ (Rat.mul_nonneg (Rat.natCast_nonneg) (Rat.le_of_lt hR)), pw2_m53, pw2_m52]
  exact quot_end a hRE hE0 (Rat.le_of_lt (pw2_pos _)) pw2_m54_half _
/-- A word's sign, and the rest. -/
theorem read_like {x y : Nat} {s : Bool} {m : Nat} {i : Int} (h : double.read x = .number s m i) (hy : y % 9223372036854775808 = x % 9223372036854775808) :
    s = (x / 9223372036854775808 % 2 == 1) ∧ double.read y = .number (y / 9223372036854775808 % 2 == 1) m i := by
  unfold Format.read at h ⊢
  have e1 : double.signWeight = 9223372036854775808 := by decide
  rw [e1] at h ⊢
  dsimp only at h ⊢
  rw [hy]
  generalize x % 9223372036854775808 = r at *
  split at h
  · rename_i c
    injection h with h1 h2 h3
    subst h1 h2 h3
    rw [if_pos c]
    exact ⟨rfl, rfl⟩
  · rename_i c
    split at h
    · rename_i c2
      injection h with h1 h2 h3
      subst h1 h2 h3
      rw [if_neg c, if_pos c2]
      exact ⟨rfl, rfl⟩
    · split at h <;> cases h
theorem neg_word {x : Nat} (hx : x < 18446744073709551616) {v : Rat} (h : Fin64 x v) : Fin64 (Op.negFloat .f64 x) (-v) ∧ Op.negFloat .f64 x < 18446744073709551616 := by
  obtain ⟨s, m, i, rx, rfl⟩ := h
  have e : Op.negFloat .f64 x = x ^^^ 2 ^ 63 := rfl
  have a : (x ^^^ 2 ^ 63) % 9223372036854775808 = x % 9223372036854775808 := by
    rw [show 9223372036854775808 = 2 ^ 63 from rfl, Nat.xor_mod_two_pow, Nat.mod_self, Nat.xor_zero]
  have b : (x ^^^ 2 ^ 63) / 9223372036854775808 = x / 9223372036854775808 ^^^ 1 := by
    rw [show 9223372036854775808 = 2 ^ 63 from rfl, Nat.xor_div_two_pow]
  rw [e]
  obtain ⟨c, d⟩ := read_like rx a
  refine ⟨⟨_, m, i, d, ?_⟩, Nat.xor_lt_two_pow (n := 64) hx (by decide)⟩
  rw [b, ← sgnR_not, c]
  congr 1
  have : x / 9223372036854775808 = 0 ∨ x / 9223372036854775808 = 1 := by omega
  rcases this with g | g <;> rw [g] <;> rfl
theorem abs_word {x : Nat} {v : Rat} (h : Fin64 x v) : Fin64 (x % 9223372036854775808) v.abs := by
  obtain ⟨s, m, i, rx, rfl⟩ := h
  obtain ⟨_, d⟩ := read_like rx (y := x % 9223372036854775808) (Nat.mod_mod _ _)
  refine ⟨_, m, i, d, ?_⟩
  rw [sgnR_abs _ (Rat.mul_nonneg (Rat.natCast_nonneg) (Rat.le_of_lt (pw2_pos _)))]
  have : x % 9223372036854775808 / 9223372036854775808 = 0 := by omega
  rw [this]; rfl
/-- THE WHOLE PART. -/
theorem toInt_val {x : Nat} {v : Rat} (h : Fin64 x v) (v0 : 0 ≤ v) (v1 : v < 1152921504606846976) : ∃ n : Nat, floatToIntVal .f64 x .u64 = some (n : Int) ∧ (n : Rat) ≤ v ∧ v < (n : Rat) + 1 := by
  obtain ⟨s, m, i, rx, rfl⟩ := h
  have hd : FloatKind.decode .f64 x = .number s m i := rx
  unfold floatToIntVal
  rw [hd]
  obtain ⟨c, hc⟩ : ∃ c, c = Toward.zero.cut s (m <<< i.toNat) (-i).toNat := ⟨_, rfl⟩
  have ht : (Datum.number s m i).toInt .zero = some (signed s c 0) := by rw [hc]; rfl
  rw [ht]
  -- the cut
  have hcut : c = m * 2 ^ i.toNat / 2 ^ (-i).toNat := by
    rw [hc, Nat.shiftLeft_eq]
    generalize m * 2 ^ i.toNat = n
    generalize (-i).toNat = d
    unfold Toward.cut
    simp only [Bool.toNat_false, Nat.add_zero]
    by_cases g : d ≤ n.log2 + 2
    · rw [Nat.min_eq_left g, Nat.one_shiftLeft]
    · have h1 : n < 2 ^ (n.log2 + 1) := Nat.lt_log2_self
      have h2 : 2 ^ (n.log2 + 2) = 2 * 2 ^ (n.log2 + 1) := by rw [Nat.pow_succ, Nat.mul_comm]
      have h3 : 2 ^ (n.log2 + 2) ≤ 2 ^ d := Nat.pow_le_pow_right (by omega) (by omega)
      rw [Nat.min_eq_right (by omega), Nat.one_shiftLeft, Nat.div_eq_of_lt (by omega), Nat.div_eq_of_lt (by omega)]
  have hmp : (0 : Rat) ≤ (m : Rat) * pw2 i := Rat.mul_nonneg (Rat.natCast_nonneg) (Rat.le_of_lt (pw2_pos i))
  have hbase : ((m * 2 ^ i.toNat : Nat) : Rat) = (m : Rat) * pw2 i * ((2 ^ (-i).toNat : Nat) : Rat) := by
    rw [Rat.natCast_mul, ← pw2_nat, ← pw2_nat, Rat.mul_assoc, ← pw2_add]
    congr 2; omega
  have hpp : 0 < 2 ^ (-i).toNat := Nat.two_pow_pos _
  generalize m * 2 ^ i.toNat = N at *
  generalize 2 ^ (-i).toNat = D at *
  clear hc hd ht
  have hD : (0 : Rat) < (D : Rat) := Rat.natCast_pos.2 hpp
  have e := Nat.div_add_mod N D
  have hr := Nat.mod_lt N hpp
  rw [← hcut] at e
  generalize N % D = r at *
  have hX : (c : Rat) ≤ (m : Rat) * pw2 i ∧ (m : Rat) * pw2 i < (c : Rat) + 1 := by
    generalize (m : Rat) * pw2 i = X at *
    have e' : (N : Rat) = (D : Rat) * (c : Rat) + (r : Rat) := by rw [← e, Rat.natCast_add, Rat.natCast_mul]
    have r0 : (0 : Rat) ≤ (r : Rat) := Rat.natCast_nonneg
    have r1 : (r : Rat) < (D : Rat) := Rat.natCast_lt_natCast.2 hr
    have hd : (X - (c : Rat)) * (D : Rat) = (r : Rat) := by rw [e'] at hbase; grind
    constructor
    · by_cases g : (c : Rat) ≤ X
      · exact g
      · have := Rat.mul_pos (show 0 < (c : Rat) - X by grind) hD
        grind
    · by_cases g : X < (c : Rat) + 1
      · exact g
      · have := Rat.mul_nonneg (show 0 ≤ X - (c : Rat) - 1 by grind) (Rat.le_of_lt hD)
        grind
  obtain ⟨x0, x1⟩ := hX
  have hsg : sgnR s ((m : Rat) * pw2 i) = (m : Rat) * pw2 i := by
    unfold sgnR at v0 ⊢
    cases s
    · rfl
    · simp only [if_true] at v0 ⊢; grind
  rw [hsg] at v1 ⊢
  have hc60 : c < 1152921504606846976 := by
    have : (c : Rat) < ((1152921504606846976 : Nat) : Rat) := by
      have q : ((1152921504606846976 : Nat) : Rat) = 1152921504606846976 := rfl
      rw [q]; grind
    exact Rat.natCast_lt_natCast.1 this
  have hsc : signed s c 0 = (c : Int) := by
    cases s
    · rfl
    · have : c = 0 := by
        have h0 : (m : Rat) * pw2 i = 0 := by unfold sgnR at hsg; simp only [if_true] at hsg; grind
        rw [h0] at x0
        have : (c : Rat) ≤ ((0 : Nat) : Rat) := x0
        have := Rat.natCast_le_natCast.1 this
        omega
      subst this; rfl
  refine ⟨c, ?_, x0, x1⟩
  simp only [hsc]
  rw [if_pos]
  have : IntKind.u64.min = 0 := rfl
  have : IntKind.u64.max = 18446744073709551615 := rfl
  omega
end Go.Proofs.YtjmdknbbgmajoaaDoor
