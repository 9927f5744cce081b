/- Parts, joined. -/
import Derived.Test.YtjmjgokgjeankaaDoorJ27
import Derived.Test.YtjmjgokgjeankaaDoorJ28
import Derived.Test.YtjmjgokgjeankaaDoorJ11
import Derived.Test.YtjmjgokgjeankaaDoorJ16
import Derived.Test.YtjmjgokgjeankaaDoorJ23
import Derived.Test.YtjmjgokgjeankaaDoorJ25
import Derived.Test.YtjmjgokgjeankaaDoorJ15
import Derived.Test.YtjmjgokgjeankaaDoorJ09
import Derived.Test.YtjmjgokgjeankaaDoorJ24
import Derived.Test.YtjmjgokgjeankaaDoorJ21
import Derived.Test.YtjmjgokgjeankaaDoorJ10
import Derived.Test.YtjmjgokgjeankaaDoorJ12
import Derived.Test.YtjmjgokgjeankaaDoorRows
import Derived.Deep.RegionHeld3
import Derived.ProofKit
import Derived.LaidMore
import Derived.OpenShut
/- The Lanczos kernel is near a tent; and all rows can be apportioned. Plain arithmetic. -/
namespace Go.Proofs.YtjmjgokgjeankaaDoor
open Go.RowKit


theorem rat_le {a b : Int} (h : a ≤ b) : (a : Rat) ≤ (b : Rat) := Rat.intCast_le_intCast.2 h
/-- One factor, on a stretch. -/
theorem side_in {p q : Int} {x c r : Rat} {lo hi : Int} (q0 : 0 < q) (p0 : 0 ≤ p) (p1 : p ≤ 4 * q) (hx : x * (q : Rat) = (p : Rat)) (x0 : 0 ≤ x) (x1 : x ≤ 4) (hok : okT c r lo hi = true) (hc : InR (kap * (x * x) - c) (r - 1 / 2 ^ 38)) (l0 : -6442450944 ≤ lo) (h0 : hi ≤ 6442450944) :
    ∃ T : Rat, (lo : Rat) / 1073741824 ≤ T ∧ T ≤ (hi : Rat) / 1073741824 ∧ InR T 6 ∧ InR ((seriesF p q : Rat) / 1099511627776 - T) (1 / 2 ^ 26) := by
  obtain ⟨_, _, u0, u1⟩ := uF_in q0 p0 p1
  have hu := uF_real q0 p0 p1 hx x0 x1
  have sp := sumS_poly u0 u1
  have e : seriesF p q = sumS (uF p q) 30 := by unfold seriesF; rw [absI_pos p0]
  rw [e]
  have hU : InR ((uF p q : Rat) / 1099511627776 - c) r := by
    generalize (uF p q : Rat) = u at *
    unfold kap at hc
    unfold InR at *
    constructor <;> grind
  obtain ⟨a, b⟩ := okT_in hok hU
  refine ⟨_, a, b, ?_, inR_mono sp (by decide +kernel)⟩
  have a1 := rat_le l0
  have b1 := rat_le h0
  rw [show ((-6442450944 : Int) : Rat) = -6442450944 from rfl] at a1
  rw [show ((6442450944 : Int) : Rat) = 6442450944 from rfl] at b1
  unfold InR
  constructor <;> grind
theorem stretch {p q : Int} (q0 : 0 < q) (p0 : 0 ≤ p) (p1 : p < 3 * q) : ∃ i : Nat, i < 120 ∧ (i : Int) * q ≤ 40 * p ∧ 40 * p < ((i : Int) + 1) * q := by
  have e := Int.mul_ediv_add_emod (40 * p) q
  have r0 := Int.emod_nonneg (40 * p) (show q ≠ 0 by omega)
  have r1 := Int.emod_lt_of_pos (40 * p) q0
  have d0 := Int.ediv_nonneg (show 0 ≤ 40 * p by omega) (show 0 ≤ q by omega)
  have d1 : 40 * p / q < 120 := Int.ediv_lt_of_lt_mul q0 (by omega)
  refine ⟨(40 * p / q).toNat, by omega, ?_, ?_⟩
  · rw [show ((40 * p / q).toNat : Int) = 40 * p / q by omega, Int.mul_comm]; omega
  · rw [show ((40 * p / q).toNat : Int) = 40 * p / q by omega, Int.add_mul, Int.mul_comm (40 * p / q)]; omega
theorem frac_rat {p q : Int} (q0 : 0 < q) : ∃ x : Rat, x * (q : Rat) = (p : Rat) := by
  have hq : (0 : Rat) < (q : Rat) := Rat.intCast_pos.2 q0
  exact ⟨(p : Rat) / (q : Rat), by rw [Rat.div_def, Rat.mul_assoc, Rat.inv_mul_cancel _ (by grind)]; grind⟩
theorem le_of_scaled {a b q : Rat} (hq : 0 < q) (h : a * q ≤ b * q) : a ≤ b := by
  by_cases g : a ≤ b
  · exact g
  · have := Rat.mul_pos (show 0 < a - b by grind) hq
    grind
theorem stretch_mid {p q : Int} {i : Nat} {x : Rat} (q0 : 0 < q) (hx : x * (q : Rat) = (p : Rat)) (a : (i : Int) * q ≤ 40 * p) (b : 40 * p < ((i : Int) + 1) * q) : (i : Rat) ≤ 40 * x ∧ 40 * x ≤ (i : Rat) + 1 := by
  have hq : (0 : Rat) < (q : Rat) := Rat.intCast_pos.2 q0
  have a' := rat_le a
  have b' := rat_le (show 40 * p ≤ ((i : Int) + 1) * q by omega)
  rw [Rat.intCast_mul, Rat.intCast_mul, Rat.intCast_natCast, show ((40 : Int) : Rat) = 40 from rfl, ← hx] at a'
  rw [Rat.intCast_mul, Rat.intCast_mul, Rat.intCast_add, Rat.intCast_natCast, show ((40 : Int) : Rat) = 40 from rfl, show ((1 : Int) : Rat) = 1 from rfl, ← hx] at b'
  exact ⟨le_of_scaled hq (by grind), le_of_scaled hq (by grind)⟩
theorem sq_stretch {i : Nat} {x : Rat} (h0 : (i : Rat) ≤ 40 * x) (h1 : 40 * x ≤ (i : Rat) + 1) : InR (x * x - ((2 * i * i + 2 * i + 1 : Nat) : Rat) / 3200) (((2 * i + 1 : Nat) : Rat) / 3200) := by
  have i0 : (0 : Rat) ≤ (i : Rat) := Rat.natCast_nonneg
  have e1 : ((2 * i * i + 2 * i + 1 : Nat) : Rat) = 2 * (i : Rat) * (i : Rat) + 2 * (i : Rat) + 1 := by
    simp only [Rat.natCast_add, Rat.natCast_mul]; rfl
  have e2 : ((2 * i + 1 : Nat) : Rat) = 2 * (i : Rat) + 1 := by simp only [Rat.natCast_add, Rat.natCast_mul]; rfl
  rw [e1, e2]
  generalize (i : Rat) = y at *
  have p1 := Rat.mul_nonneg (show 0 ≤ 40 * x - y by grind) (show 0 ≤ 40 * x + y by grind)
  have p2 := Rat.mul_nonneg (show 0 ≤ y + 1 - 40 * x by grind) (show 0 ≤ 40 * x + y + 1 by grind)
  unfold InR
  constructor <;> grind
theorem kap_pos : 0 ≤ kap := by decide +kernel
theorem scale_in {x y r k : Rat} (hk : 0 ≤ k) (h : InR (x - y) r) : InR (k * x - k * y) (k * r) := by
  have a := Rat.mul_nonneg hk (show 0 ≤ r - (x - y) by unfold InR at h; grind)
  have b := Rat.mul_nonneg hk (show 0 ≤ r + (x - y) by unfold InR at h; grind)
  unfold InR
  constructor <;> grind
/-- A Lanczos weight on a stretch. -/
theorem lanczos_at {p q : Int} (q0 : 2 ≤ q) (q1 : q ≤ 131072) (p0 : 0 ≤ p) (p1 : p < 3 * q) : ∃ i : Nat, i < 120 ∧ (i : Int) * q ≤ 40 * p ∧ 40 * p < ((i : Int) + 1) * q ∧ limQ i - 20480 ≤ 40 * lanczosF p q ∧ (i = 40 → -(40 * 36500000) ≤ 40 * lanczosF p q) ∧ -1099511627776 ≤ lanczosF p q ∧ lanczosF p q ≤ 1099511627776 := by
  obtain ⟨i, hi, s0, s1⟩ := stretch (by omega) p0 p1
  refine ⟨i, hi, s0, s1, ?_⟩
  obtain ⟨x, hx⟩ := frac_rat (p := p) (q := q) (by omega)
  obtain ⟨m0, m1⟩ := stretch_mid (by omega) hx s0 s1
  have sq := sq_stretch m0 m1
  have i0 : (0 : Rat) ≤ (i : Rat) := Rat.natCast_nonneg
  have i1 : (i : Rat) ≤ 120 := by
    have := Rat.natCast_le_natCast.2 (show i ≤ 120 by omega)
    exact this
  obtain ⟨P1, P2, P3, P4, b1, b2, b3, b4⟩ := prodQ_low i hi
  have k1 := scale_in kap_pos sq
  have P5 : i = 40 → (-(40 * 36500000) + 40960) * 1073741824 ≤ 40 * ((tabOne.getD i (0, 0)).1 * (tabTwo.getD i (0, 0)).1) ∧ (-(40 * 36500000) + 40960) * 1073741824 ≤ 40 * ((tabOne.getD i (0, 0)).1 * (tabTwo.getD i (0, 0)).2) ∧ (-(40 * 36500000) + 40960) * 1073741824 ≤ 40 * ((tabOne.getD i (0, 0)).2 * (tabTwo.getD i (0, 0)).1) ∧ (-(40 * 36500000) + 40960) * 1073741824 ≤ 40 * ((tabOne.getD i (0, 0)).2 * (tabTwo.getD i (0, 0)).2) := by
    intro e; subst e; exact prodQ_one
  have ho := one_all i hi
  have ht := two_all i hi
  generalize tabOne.getD i (0, 0) = t1 at *
  generalize tabTwo.getD i (0, 0) = t2 at *
  obtain ⟨T, T0, T1, T6, TS⟩ := side_in (p := p) (q := q) (x := x) (by omega) p0 (by omega) hx (by grind) (by grind) ho (by
    show InR (kap * (x * x) - kap * ((2 * i * i + 2 * i + 1 : Nat) : Rat) / 3200) (kap * ((2 * i + 1 : Nat) : Rat) / 3200 + 1 / 2 ^ 38 - 1 / 2 ^ 38)
    generalize ((2 * i * i + 2 * i + 1 : Nat) : Rat) = A at *
    generalize ((2 * i + 1 : Nat) : Rat) = B at *
    unfold InR at *
    constructor <;> grind) b1 b2
  obtain ⟨V, V0, V1, V6, VS⟩ := side_in (p := p) (q := 3 * q) (x := x / 3) (by omega) p0 (by omega) (by rw [Rat.intCast_mul, show ((3 : Int) : Rat) = 3 from rfl, ← hx]; grind) (by grind) (by grind) ht (by
    show InR (kap * (x / 3 * (x / 3)) - kap * ((2 * i * i + 2 * i + 1 : Nat) : Rat) / 28800) (kap * ((2 * i + 1 : Nat) : Rat) / 28800 + 1 / 2 ^ 38 - 1 / 2 ^ 38)
    generalize ((2 * i * i + 2 * i + 1 : Nat) : Rat) = A at *
    generalize ((2 * i + 1 : Nat) : Rat) = B at *
    unfold InR at *
    constructor <;> grind) b3 b4
  have hL : lanczosF p q = shiftF (mulShiftF (seriesF p q) (seriesF p (3 * q)) 40) 10 := by
    unfold lanczosF
    rw [if_pos]
    refine ⟨?_, by omega, p1⟩
    rcases mayF_at p q with ⟨g, _⟩ | ⟨_, g⟩
    · exact g
    · omega
  have W := weight_near TS VS T6 V6
  rw [← hL] at W
  clear hL ho ht k1 sq TS VS
  have TV := inR_mul T6 V6
  generalize lanczosF p q = L at *
  have low : ∀ l : Int, l * 1073741824 ≤ 40 * (t1.1 * t2.1) → l * 1073741824 ≤ 40 * (t1.1 * t2.2) → l * 1073741824 ≤ 40 * (t1.2 * t2.1) → l * 1073741824 ≤ 40 * (t1.2 * t2.2) → l - 20480 ≤ 40 * L := by
    intro l h1 h2 h3 h4
    have c : ∀ a b : Int, l * 1073741824 ≤ 40 * (a * b) → (l : Rat) / (40 * 1073741824) ≤ (a : Rat) / 1073741824 * ((b : Rat) / 1073741824) := by
      intro a b h
      have := rat_le h
      rw [Rat.intCast_mul, Rat.intCast_mul, Rat.intCast_mul, show ((40 : Int) : Rat) = 40 from rfl, show ((1073741824 : Int) : Rat) = 1073741824 from rfl] at this
      generalize (a : Rat) = a' at *
      generalize (b : Rat) = b' at *
      generalize (l : Rat) = l' at *
      grind
    have pr := prodQ_in T0 T1 V0 V1 (c _ _ h1) (c _ _ h2) (c _ _ h3) (c _ _ h4)
    have r : ((l - 20480 : Int) : Rat) ≤ ((40 * L : Int) : Rat) := by
      rw [Rat.intCast_sub, Rat.intCast_mul, show ((40 : Int) : Rat) = 40 from rfl, show ((20480 : Int) : Rat) = 20480 from rfl]
      generalize (l : Rat) = l' at *
      generalize (L : Rat) = L' at *
      unfold InR at W
      grind
    exact Rat.intCast_le_intCast.1 r
  refine ⟨low _ P1 P2 P3 P4, ?_, ?_⟩
  · intro hi4
    obtain ⟨a1, a2, a3, a4⟩ := P5 hi4
    have := low _ a1 a2 a3 a4
    omega
  · have hb := inR_mono (near_in_add W TV) (show (6 * 6 + 1 / 2 ^ 21 : Rat) ≤ 40 by decide +kernel)
    have r0 : ((-1099511627776 : Int) : Rat) ≤ (L : Rat) := by
      rw [show ((-1099511627776 : Int) : Rat) = -1099511627776 from rfl]
      unfold InR at hb; grind
    have r1 : (L : Rat) ≤ ((1099511627776 : Int) : Rat) := by
      rw [show ((1099511627776 : Int) : Rat) = 1099511627776 from rfl]
      unfold InR at hb; grind
    exact ⟨Rat.intCast_le_intCast.1 r0, Rat.intCast_le_intCast.1 r1⟩
theorem lanczos_kern {q : Int} (q0 : 2 ≤ q) (q1 : q ≤ 131072) : Kern (fun p => lanczosF p q) q (3 * q) 1073741824 36500000 163200000 1600000 := by
  refine ⟨fun p p0 pq => ?_, fun p p0 p1 p2 => ?_, fun p p0 p1 => ?_⟩
  · show 1073741824 * (q - p) - 36500000 * q ≤ q * lanczosF p q
    obtain ⟨i, _, s0, s1, l, l4, _⟩ := lanczos_at q0 q1 p0 (by omega)
    generalize lanczosF p q = L at *
    have i4 : i ≤ 40 := by
      by_cases g : i ≤ 40
      · exact g
      · have := Int.mul_le_mul_of_nonneg_right (show (41 : Int) ≤ (i : Int) by omega) (show 0 ≤ q by omega)
        omega
    have m : q * (1073741824 * (40 - (i : Int)) - 40 * 36500000) ≤ q * (40 * L) := by
      refine Int.mul_le_mul_of_nonneg_left ?_ (by omega)
      by_cases g : i < 40
      · unfold limQ at l
        rw [if_pos g] at l
        omega
      · obtain rfl : i = 40 := by omega
        have := l4 rfl
        omega
    have e1 : q * (1073741824 * (40 - (i : Int)) - 40 * 36500000) = 1073741824 * (40 * q - (i : Int) * q) - 40 * 36500000 * q := by grind
    have e2 : q * (40 * L) = 40 * (q * L) := Int.mul_left_comm ..
    rw [e1, e2] at m
    omega
  · show -163200000 ≤ lanczosF p q
    obtain ⟨i, _, s0, s1, l, _⟩ := lanczos_at q0 q1 (show 0 ≤ p by omega) p2
    have i4 : 40 ≤ i := by
      by_cases g : 40 ≤ i
      · exact g
      · have := Int.mul_le_mul_of_nonneg_right (show (i : Int) + 1 ≤ 40 by omega) (show 0 ≤ q by omega)
        omega
    have i8 : i < 80 := by
      by_cases g : i < 80
      · exact g
      · have := Int.mul_le_mul_of_nonneg_right (show (80 : Int) ≤ (i : Int) by omega) (show 0 ≤ q by omega)
        omega
    unfold limQ at l
    rw [if_neg (by omega), if_pos i8] at l
    omega
  · show -1600000 ≤ lanczosF p q
    obtain ⟨i, _, s0, s1, l, _⟩ := lanczos_at q0 q1 (show 0 ≤ p by omega) p1
    have i8 : 80 ≤ i := by
      by_cases g : 80 ≤ i
      · exact g
      · have := Int.mul_le_mul_of_nonneg_right (show (i : Int) + 1 ≤ 80 by omega) (show 0 ≤ q by omega)
        omega
    unfold limQ at l
    rw [if_neg (by omega), if_neg (by omega)] at l
    omega
theorem lanczos_small {p q : Int} (q0 : 2 ≤ q) (q1 : q ≤ 131072) : -1099511627776 ≤ lanczosF p q ∧ lanczosF p q ≤ 1099511627776 := by
  have pos : ∀ p : Int, 0 ≤ p → -1099511627776 ≤ lanczosF p q ∧ lanczosF p q ≤ 1099511627776 := by
    intro p p0
    by_cases g : p < 3 * q
    · obtain ⟨_, _, _, _, _, _, h⟩ := lanczos_at q0 q1 p0 g
      exact h
    · have : lanczosF p q = 0 := by unfold lanczosF; rw [if_neg (fun h => g h.2.2)]
      rw [this]; omega
  by_cases h : 0 ≤ p
  · exact pos p h
  · have := pos (-p) (by omega)
    rw [lanczosF_neg] at this
    exact this
theorem lanczos_row {n m i : Int} (h : MayP 2 n m i) (hn : n ≤ 3000) (hm : m ≤ 60) : Fits (rowI 2 n m i) ∧ sizeH (appR (rowI 2 n m i)) ≤ 131072 := by
  have h' := h
  obtain ⟨f0, f1, n0, n1, m0, m1, i0, i1⟩ := h'
  obtain ⟨q0, q1⟩ := fracQ_in n0 n1 m0 m1
  have K := lanczos_kern q0 q1
  refine kern_row (δ := 201300000) (e := 36500000) (b := 163200000) (t := 1600000) (Or.inr rfl) h hn hm (fun p => lanczosF p (fracQ n m)) (fun p => lanczosF_neg p _) (fun j => ?_) (fun p => lanczos_small q0 q1) ?_ (by omega) (by omega) (by omega) rfl (by omega)
  · show weightR 2 n m i j = lanczosF (fracP n m i j) (fracQ n m)
    unfold weightR; rw [if_neg (by omega), if_neg (by omega)]
  · have e : reachK 2 n m = 3 * fracQ n m := by unfold reachK; rw [if_pos rfl]
    rw [e]
    exact K
/-- Of such sides no resize has a code, and no great size. -/
theorem all_fine (f n m : Int) (f0 : 0 ≤ f) (f1 : f ≤ 2) (n0 : 1 ≤ n) (n1 : n ≤ 3000) (m0 : 1 ≤ m) (m1 : m ≤ 60) : resCode f n m = 0 ∧ sizeF (linesTo f n m m.toNat) ≤ 131072 := by
  refine resize_fine f0 f1 n0 n1 m0 m1 fun i h => ?_
  have hf : f = 0 ∨ f = 1 ∨ f = 2 := by omega
  rcases hf with rfl | rfl | rfl
  · exact box_row h n1
  · exact cubic_row h n1 m1
  · exact lanczos_row h n1 m1
end Go.Proofs.YtjmjgokgjeankaaDoor

/- Tables: the laws on moves and sums, out of what the program's calls answer. -/
namespace Go.Proofs.YtjmjgokgjeankaaDoor
open Go.RowKit


theorem table_moves {K : World → Prop} {T : World → Value → Int → List (Int × List Int) → Prop} (TC : TabC K T) (CR : ResizeC K T) (CL : LiveC K 6) (p a b : Int) (w : World) (hk : K w) (hp : 0 ≤ p ∧ p ≤ 255) (ha : 0 ≤ a ∧ a ≤ 65535) (hb : 0 ≤ b ∧ b ≤ 65535) :
    Calls Tryd.prog 3 #[.int .u8 p, .int .u16 a, .int .u16 b] w fun e w' => e = .returned (.bool true) ∧ Below w.heap.size w w' :=
  of_TableMoves TC CR CL (fun f n m h0 h1 h2 h3 h4 h5 => (all_fine f n m h0 h1 h2 h3 h4 h5).1) p a b w hk hp ha hb
theorem table_sums {K : World → Prop} {T : World → Value → Int → List (Int × List Int) → Prop} (TC : TabC K T) (CR : ResizeC K T) (CL : LiveC K 6) (p a b : Int) (w : World) (hk : K w) (hp : 0 ≤ p ∧ p ≤ 255) (ha : 0 ≤ a ∧ a ≤ 65535) (hb : 0 ≤ b ∧ b ≤ 65535) :
    Calls Tryd.prog 4 #[.int .u8 p, .int .u16 a, .int .u16 b] w fun e w' => e = .returned (.bool true) ∧ Below w.heap.size w w' :=
  of_TableSums TC CR CL (fun f n m h0 h1 h2 h3 h4 h5 => (all_fine f n m h0 h1 h2 h3 h4 h5).1) (fun f n m h0 h1 h2 h3 h4 h5 => (all_fine f n m h0 h1 h2 h3 h4 h5).2) p a b w hk hp ha hb
end Go.Proofs.YtjmjgokgjeankaaDoor

/- The program's table is a table; and the laws in whose seat Same stands. -/
namespace Go.Proofs.YtjmjgokgjeankaaDoor
open Go.RowKit


theorem tab_c : TabC Kinds Tab where
  kbelow := fun h b => kinds_below h b
  below := fun h b => h.below b
  ptr := fun h => h.ptr
  ok := fun h => h.ok
  cfrom := fun h => tab_from h
  cto := fun h => tab_to h
  line := fun h j hj => tab_line h j hj
  noline := fun h i i0 i1 hi => tab_noline h i i0 i1 hi
  most := fun h => tab_most h
  size := fun h => tab_size h
  reach := fun h i k i0 i1 k0 k1 => tab_reach h i k i0 i1 k0 k1
theorem live_c : LiveC Kinds 6 :=
  table_lives tab_c resize_c (fun w hk => rlives row_yes keysC w hk) (fun w hk => tlives (K := Kinds) (fun _ _ h b => kinds_below h b) (fun xs ad cap w _ hr hx hl => apportion_any xs ad cap w hr hx hl) (fun s w _ _ _ => gaussian_any s w) w hk)
theorem law_TableSame (n : Int) (w : World) (hk : Kinds w) (_ : -9223372036854775808 ≤ n ∧ n ≤ 9223372036854775807) :
    Calls Tryd.prog 5 #[.int .i64 n] w fun e w' => e = .returned (.bool true) ∧ Below w.heap.size w w' :=
  of_TableSame tab_c resize_c same_c same_0 live_c n w hk
theorem law_TableMoves (p a b : Int) (w : World) (hk : Kinds w) (hp : 0 ≤ p ∧ p ≤ 255) (ha : 0 ≤ a ∧ a ≤ 65535) (hb : 0 ≤ b ∧ b ≤ 65535) :
    Calls Tryd.prog 3 #[.int .u8 p, .int .u16 a, .int .u16 b] w fun e w' => e = .returned (.bool true) ∧ Below w.heap.size w w' :=
  table_moves tab_c resize_c live_c p a b w hk hp ha hb
theorem law_TableSums (p a b : Int) (w : World) (hk : Kinds w) (hp : 0 ≤ p ∧ p ≤ 255) (ha : 0 ≤ a ∧ a ≤ 65535) (hb : 0 ≤ b ∧ b ≤ 65535) :
    Calls Tryd.prog 4 #[.int .u8 p, .int .u16 a, .int .u16 b] w fun e w' => e = .returned (.bool true) ∧ Below w.heap.size w w' :=
  table_sums tab_c resize_c live_c p a b w hk hp ha hb
end Go.Proofs.YtjmjgokgjeankaaDoor

/- The table of filters, out of what the row lists. -/
namespace Go.Proofs.YtjmjgokgjeankaaDoor
open Go.ChangeShapes Go.WideShapes Go.ChangeAt Go.WideMaps Go.WideElems Go.RowKit


theorem dOwn : ownKnob Tryd.prog.godebug = none := by kernel_rfl
theorem gKinds : Tryd.prog.globalNamed "smalto/raw.kinds" = some 0 := by kernel_rfl
theorem tKinds : (Tryd.prog.globals[0]?).map (·.type) = some 57 := by kernel_rfl
theorem cellsKinds : Tryd.prog.cellsOf 57 = 6 := by kernel_rfl
theorem cellsKind : Tryd.prog.cellsOf 56 = 2 := by kernel_rfl
theorem cellsStrK : Tryd.prog.cellsOf 9 = 1 := by kernel_rfl
theorem cellsI64K : Tryd.prog.cellsOf 2 = 1 := by kernel_rfl
def dLaid {H : Type} : List (String × DataW H) := [("smalto/raw.kinds", Rows.laid_smalto_raw_kinds)]
theorem door_met (os : Os) (args : Array Value) : laidMetH Tryd.prog dLaid ((World.doorLaid Tryd.prog 400 os).forCall (fun _ _ => 0) ⟨#[], args, []⟩).memory :=
  laidMetH_of_parts3 (fuel := 8) (laidMet_of_run' 8 (by kernel_rfl) (by kernel_rfl)) (by kernel_rfl) (by kernel_rfl)
theorem string_of_bytes {s : ByteArray} {l : List UInt8} (h : s.data.toList = l) : s = ⟨l.toArray⟩ := by
  subst h; rfl
theorem kind_cells {H : Type} {enc : TypeId × Value → H} {w : World} {base : Nat} {sp : Nat → Bool} {held : Bool} {fuel : Nat} {a b : Value} {l : List UInt8} {n : Int} {y : DataW H × List MemPlace}
    (h : DataW.trod enc Tryd.prog w base sp held fuel 56 [a, b] = some y) (hy : y.1 = .agg [.lit (.string l), .lit (.int .i64 n)]) : a = .string ⟨l.toArray⟩ ∧ b = .int .i64 n := by
  obtain ⟨y0, y1, m, rfl, _, h0, h1⟩ := trod_struct2 Tryd.underlying56 h
  simp [cellsStrK, cellsI64K] at h0 h1 hy
  obtain ⟨s, e0, rfl, _⟩ := DataW.trod_string Tryd.underlying9 h0
  obtain ⟨k, e1, rfl, _⟩ := DataW.trod_int Tryd.underlying2 h1
  simp at e0 e1 hy
  obtain ⟨g0, rfl⟩ := hy
  exact ⟨by rw [e0, string_of_bytes g0], e1⟩
set_option maxRecDepth 100000 in
theorem kinds_cells {H : Type} {enc : TypeId × Value → H} {w : World} {base : Nat} {sp : Nat → Bool} {held : Bool} {fuel : Nat} {cs : Array Value} {p : List MemPlace}
    (h : DataW.trod enc Tryd.prog w base sp held fuel 57 cs.toList = some (Rows.laid_smalto_raw_kinds, p)) :
    cs = #[.string ⟨#[98, 111, 120]⟩, .int .i64 0, .string ⟨#[99, 117, 98, 105, 99]⟩, .int .i64 2, .string ⟨#[108, 97, 110, 99, 122, 111, 115]⟩, .int .i64 3] := by
  obtain ⟨l⟩ := cs
  obtain ⟨xs, m, rfl, hx, hl, hn, he⟩ := DataW.trod_array Tryd.underlying57 h
  rw [cellsKinds] at hl
  rw [cellsKind] at he
  obtain ⟨c0, c1, c2, c3, c4, c5, rfl⟩ : ∃ c0 c1 c2 c3 c4 c5, l = [c0, c1, c2, c3, c4, c5] := by
    match l, hl with
    | [a, b, c, d, e, f], _ => exact ⟨a, b, c, d, e, f, rfl⟩
  obtain ⟨y0, y1, y2, rfl⟩ : ∃ y0 y1 y2, xs = [y0, y1, y2] := by
    match xs, hn with
    | [a, b, c], _ => exact ⟨a, b, c, rfl⟩
  have h0 := he 0 (by omega)
  have h1 := he 1 (by omega)
  have h2 := he 2 (by omega)
  simp at h0 h1 h2
  simp [Rows.laid_smalto_raw_kinds] at hx
  obtain ⟨⟨g0, g1, g2⟩, _⟩ := hx
  obtain ⟨rfl, rfl⟩ := kind_cells h0 g0.symm
  obtain ⟨rfl, rfl⟩ := kind_cells h1 g1.symm
  obtain ⟨rfl, rfl⟩ := kind_cells h2 g2.symm
  rfl
theorem kinds_of_laid {W : World} (h : laidMetH Tryd.prog dLaid W) : Kinds W := by
  rw [MakeChecks.laidMetH_plain _ _ _ (by kernel_rfl)] at h
  obtain ⟨ps, ⟨g0, t0, cs0, f0, p0, q0, hg0, ht0, hv0, hd0, _, _⟩, _, _⟩ := h
  obtain rfl := Option.some.inj (gKinds.symm.trans hg0)
  obtain rfl := Option.some.inj (tKinds.symm.trans ht0)
  obtain rfl := kinds_cells hd0
  exact ⟨World.var?_cell hg0 hv0 0, World.var?_cell hg0 hv0 1, World.var?_cell hg0 hv0 2, World.var?_cell hg0 hv0 3, World.var?_cell hg0 hv0 4, World.var?_cell hg0 hv0 5⟩
end Go.Proofs.YtjmjgokgjeankaaDoor
