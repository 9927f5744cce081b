/- Parts, joined. -/
import Derived.Test.YtaafhjngnjjcmaaGreatDoorJ14
import Derived.Test.YtaafhjngnjjcmaaGreatDoorJ05
import Derived.Deep.RegionHeld3
import Derived.Laws.OwnMore
/- What each source sample weighs: the laws on rows, out of what the program's own calls answer. -/
namespace Go.Proofs.YtaafhjngnjjcmaaGreatDoor
open Go.RowKit


def MayP (f n m i : Int) : Prop := 0 ≤ f ∧ f ≤ 2 ∧ 1 ≤ n ∧ n ≤ 65536 ∧ 1 ≤ m ∧ m ≤ 65536 ∧ 0 ≤ i ∧ i < m
/-- What the program's table of filters holds. -/
def Kinds (w : World) : Prop :=
  w.cell? ⟨1, 0, none⟩ = some (.string ⟨#[98, 111, 120]⟩) ∧ w.cell? ⟨1, 1, none⟩ = some (.int .i64 0) ∧ w.cell? ⟨1, 2, none⟩ = some (.string ⟨#[99, 117, 98, 105, 99]⟩) ∧ w.cell? ⟨1, 3, none⟩ = some (.int .i64 2) ∧ w.cell? ⟨1, 4, none⟩ = some (.string ⟨#[108, 97, 110, 99, 122, 111, 115]⟩) ∧ w.cell? ⟨1, 5, none⟩ = some (.int .i64 3)
theorem cell_ltK {w : World} {b o : Nat} {v : Value} (h : w.cell? ⟨b, o, none⟩ = some v) : b < w.heap.size := by
  by_cases g : b < w.heap.size
  · exact g
  · have e : w.heap[b]? = none := Array.getElem?_eq_none (by omega)
    simp [World.cell?, e] at h
theorem kinds_below {w w1 : World} (h : Kinds w) (b : Below w.heap.size w w1) : Kinds w1 := by
  obtain ⟨c0, c1, c2, c3, c4, c5⟩ := h
  have lc := cell_ltK c0
  exact ⟨cb b lc c0, cb b lc c1, cb b lc c2, cb b lc c3, cb b lc c4, cb b lc c5⟩
/-- What the program's own calls are to answer. -/
def RowC : Prop := ∀ (f n m i : Int), MayP f n m i → ∀ w : World, Kinds w → Calls Tryz.prog 116 #[.int .i64 f, .int .i64 n, .int .i64 m, .int .i64 i] w fun e w' => ∃ (j0 : Int) (c : Nat) (v : Value), IsWin f n m i j0 c ∧ e = .returned (.tuple #[.int .i64 j0, v]) ∧ w'.ownsRow w.heap.size 2 1 v c (rowR f n m i j0 c) ∧ Below w.heap.size w w'
def KeysC : Prop := ∀ a b : Int, -9223372036854775808 ≤ a → a ≤ 9223372036854775807 → ∀ w : World, Calls Tryz.prog 121 #[.int .i64 a, .int .i64 b] w fun e w' => e = .returned (.int .i64 (keysF a b)) ∧ Below w.heap.size w w'
theorem rowR_get (f n m i j0 : Int) {c k : Nat} (h : k < c) : (rowR f n m i j0 c)[k]? = some (.int .i64 (weightR f n m i (j0 + (k : Nat)))) := by
  unfold rowR
  rw [List.getElem?_map, List.getElem?_range h]; rfl
theorem owns_form {w : World} {base : Nat} {e : TypeId} {size : Nat} {v : Value} {n : Nat} {xs : List Value} (h : w.ownsRow base e size v n xs) (hn : 0 < n) : ∃ g cap, v = .slice (some ⟨g, 0, none⟩) n cap ∧ g < w.heap.size := by
  rcases h.2 with ⟨_, h0⟩ | ⟨g, cap, cur, hv, hb, hg, _⟩
  · omega
  · refine ⟨g, cap, hv, ?_⟩
    rcases Nat.lt_or_ge g w.heap.size with hlt | hge
    · exact hlt
    · rw [Array.getElem?_eq_none hge] at hg; cases hg
theorem owns_cell {w : World} {base : Nat} {e : TypeId} {f n m i j0 : Int} {g c cap k : Nat} (h : w.ownsRow base e 1 (.slice (some ⟨g, 0, none⟩) c cap) c (rowR f n m i j0 c)) (hk : k < c) : w.cell? ⟨g, k, none⟩ = some (.int .i64 (weightR f n m i (j0 + (k : Nat)))) := by
  have := h.cells (g := g) rfl k _ (rowR_get f n m i j0 hk)
  have e : ((⟨g, 0, none⟩ : Addr).add k) = ⟨g, k, none⟩ := by
    unfold Addr.add
    by_cases hk0 : k = 0
    · subst hk0; rfl
    · simp [hk0]
  rw [e] at this
  exact this
theorem rlives (CR : RowC) (CK : KeysC) (w : World) (hk : Kinds w) : Calls Tryz.prog 101 #[] w fun e w' => e = .returned (.bool true) ∧ Below w.heap.size w w' := by
  have C1 := CR 0 4 2 1 (by unfold MayP; omega)
  have k1 : keysF 0 1 = 1073741824 := by decide +kernel
  have k2 : keysF 1 2 = 603979776 := by decide +kernel
  have C2 := CK 0 1 (by omega) (by omega)
  have C3 := CK 1 2 (by omega) (by omega)
  rw [k1] at C2
  rw [k2] at C3
  have W : IsWin 0 4 2 1 2 2 := by
    refine ⟨by omega, by decide, ?_, by decide⟩
    intro k hk
    match k, hk with
    | 0, _ => decide
    | 1, _ => decide
  have u0 : weightR 0 4 2 1 (2 + ((0 : Nat) : Int)) = 536870912 := by decide +kernel
  have u1 : weightR 0 4 2 1 (2 + ((1 : Nat) : Int)) = 536870912 := by decide +kernel
  have WH := hide W
  clear W k1 k2
  go_enter Tryz.func101, Tryz.ntmps101
  go_upto_region 2 with (go_at_call 116; (with_reducible refine (C1 _ hk).mono ?_); rintro e w1 ⟨j0, c, v, hwin, rfl, hown, b1⟩)
  obtain ⟨rfl, rfl⟩ := win_one (by omega) hwin WH.out
  obtain ⟨g, cap, rfl, hlt⟩ := owns_form hown (by omega)
  have q0 : w1.cell? ⟨g, 0, none⟩ = some (.int .i64 536870912) := by rw [← u0]; exact owns_cell hown (by omega)
  have q1 : w1.cell? ⟨g, 1, none⟩ = some (.int .i64 536870912) := by rw [← u1]; exact owns_cell hown (by omega)
  clear hown hwin u0 u1
  go_wp2_with (first
    | (go_at_call 121; (with_reducible refine (C2 _).mono ?_); rintro e w2 ⟨rfl, b2⟩)
    | (go_at_call 121; (with_reducible refine (C3 _).mono ?_); rintro e w3 ⟨rfl, b3⟩))
  go_ret
  exact ⟨rfl, bt (bt b1 b2) b3⟩
end Go.Proofs.YtaafhjngnjjcmaaGreatDoor

/- What each source sample weighs: the law on rows and windows, out of what the program's own calls answer. -/
namespace Go.Proofs.YtaafhjngnjjcmaaGreatDoor
open Go.RowKit


def I64 (x : Int) : Prop := -9223372036854775808 ≤ x ∧ x ≤ 9223372036854775807
def WinC : Prop := ∀ (f n m i j0 : Int) (c : Nat), MayP f n m i → IsWin f n m i j0 c → ∀ w : World, Kinds w → Calls Tryz.prog 131 #[.int .i64 f, .int .i64 n, .int .i64 m, .int .i64 i] w fun e w' => e = .returned (.tuple #[.int .i64 j0, .int .i64 (c : Int)]) ∧ Below w.heap.size w w'
theorem win_iff {f n m i j0 : Int} {c : Nat} (m0 : 1 ≤ m) (h : IsWin f n m i j0 c) (j : Int) : inW f n m i j = true ↔ j0 ≤ j ∧ j < j0 + c := by
  obtain ⟨h0, h1, h2, h3⟩ := h
  have ha : inW f n m i j0 = true := by have := h2 0 h0; simpa using this
  have hl : inW f n m i (j0 + (c - 1 : Nat)) = true := h2 (c - 1) (by omega)
  constructor
  · intro hj
    constructor
    · by_cases q : j0 ≤ j
      · exact q
      · have := inW_mid m0 (show j ≤ j0 - 1 by omega) (show j0 - 1 ≤ j0 by omega) hj ha
        rw [h1] at this; cases this
    · by_cases q : j < j0 + c
      · exact q
      · have := inW_mid m0 (show j0 + (c - 1 : Nat) ≤ j0 + (c : Int) by omega) (show j0 + (c : Int) ≤ j by omega) hl hj
        rw [h3] at this; cases this
  · rintro ⟨q0, q1⟩
    have := h2 (j - j0).toNat (by omega)
    rw [show j0 + ((j - j0).toNat : Int) = j by omega] at this
    exact this
end Go.Proofs.YtaafhjngnjjcmaaGreatDoor

/- What each source sample weighs: the laws on names and on boxes, out of what the program's own calls answer. -/
namespace Go.Proofs.YtaafhjngnjjcmaaGreatDoor
open Go.RowKit


def nameF (f : Int) : Value := if f = 0 then .string ⟨#[98, 111, 120]⟩ else if f = 1 then .string ⟨#[99, 117, 98, 105, 99]⟩ else if f = 2 then .string ⟨#[108, 97, 110, 99, 122, 111, 115]⟩ else .string ⟨#[]⟩
def NameC : Prop := ∀ f : Int, I64 f → ∀ w : World, Kinds w → Calls Tryz.prog 97 #[.int .i64 f] w fun e w' => e = .returned (nameF f) ∧ Below w.heap.size w w'
/-- Box's parts, and their sum. -/
def partB (n m i j : Int) : Int := min ((i + 1) * n) ((j + 1) * m) - max (i * n) (j * m)
theorem box_part {n m i j : Int} (n0 : 1 ≤ n) (n1 : n ≤ 65536) (m0 : 1 ≤ m) (h : inW 0 n m i j = true) : 1 ≤ partB n m i j ∧ partB n m i j ≤ n ∧ 0 ≤ weightR 0 n m i j ∧ weightR 0 n m i j ≤ 1073741824 ∧ -n ≤ 2 * (n * weightR 0 n m i j) - 2147483648 * partB n m i j ∧ 2 * (n * weightR 0 n m i j) - 2147483648 * partB n m i j ≤ n := by
  rw [inW_box] at h
  have s5 : (i + 1) * n = i * n + n := by rw [Int.add_mul, Int.one_mul]
  have s2 : (j + 1) * m = j * m + m := by rw [Int.add_mul, Int.one_mul]
  have p : 1 ≤ partB n m i j ∧ partB n m i j ≤ n := by unfold partB; omega
  have e : weightR 0 n m i j = divF (partB n m i j * 1073741824) n := if_pos rfl
  have q := near_in (X := partB n m i j * 1073741824) (d := n) (m := 1073741824) (by omega) (by omega) (by omega)
  have r := near_err (X := partB n m i j * 1073741824) (d := n) (by omega)
  rw [divF_of (by omega), holdI_in (by omega) (by omega)] at e
  rw [e]
  omega
end Go.Proofs.YtaafhjngnjjcmaaGreatDoor

/- The program's windows and weights: what its calls answer. -/
namespace Go.Proofs.YtaafhjngnjjcmaaGreatDoor
open Go.RowKit


def cenR (n m i : Int) : Int := (2 * i + 1) * n - m
def sprR (f n m : Int) : Int := if f = 0 then n + m else if f = 2 then 6 * max n m else 4 * max n m
theorem fracQ_max (n m : Int) : fracQ n m = 2 * max n m := by unfold fracQ; split <;> omega
theorem fracP_cen (n m i j : Int) : fracP n m i j = 2 * m * j - cenR n m i := by unfold fracP cenR; omega
theorem cen_in {f n m i : Int} (h : MayP f n m i) : -65536 ≤ cenR n m i ∧ cenR n m i ≤ 8589934592 := by
  obtain ⟨_, _, n0, n1, m0, m1, i0, i1⟩ := h
  obtain ⟨_, _, _, _, _, g⟩ := side_bounds n0 n1 m0 m1 i0 i1 (show (-1048576 : Int) ≤ 0 by omega) (by omega)
  unfold cenR; omega
theorem spr_in {f n m : Int} (n0 : 1 ≤ n) (n1 : n ≤ 65536) (m0 : 1 ≤ m) (m1 : m ≤ 65536) : 2 ≤ sprR f n m ∧ sprR f n m ≤ 393216 := by
  unfold sprR; split
  · omega
  · split <;> omega
theorem inW_iff (f n m i j : Int) : inW f n m i j = true ↔ cenR n m i - sprR f n m < 2 * (j * m) ∧ 2 * (j * m) < cenR n m i + sprR f n m := by
  have s1 : (j + 1) * m = j * m + m := by rw [Int.add_mul, Int.one_mul]
  have s2 : (i + 1) * n = i * n + n := by rw [Int.add_mul, Int.one_mul]
  have s3 : (2 * i + 1) * n = 2 * (i * n) + n := by rw [Int.add_mul, Int.mul_assoc, Int.one_mul]
  by_cases hf : f = 0
  · subst hf
    rw [inW_box, s1, s2]
    unfold cenR sprR
    rw [s3, if_pos rfl]
    omega
  · rw [inW_far hf, frac_at]
    unfold cenR sprR fracQ
    rw [s3, if_neg hf]
    by_cases h2 : f = 2
    · rw [if_pos h2, if_pos h2]; split <;> omega
    · rw [if_neg h2, if_neg h2]; split <;> omega
def lowW (f n m i : Int) : Int := (cenR n m i - sprR f n m) / (2 * m)
def topW (f n m i : Int) : Int := (cenR n m i + sprR f n m - 1) / (2 * m)
theorem inW_quot {f n m i : Int} (m0 : 1 ≤ m) (j : Int) : inW f n m i j = true ↔ lowW f n m i < j ∧ j ≤ topW f n m i := by
  rw [inW_iff]
  unfold lowW topW
  have a := Int.mul_ediv_add_emod (cenR n m i - sprR f n m) (2 * m)
  have a0 := Int.emod_nonneg (cenR n m i - sprR f n m) (show 2 * m ≠ 0 by omega)
  have a1 := Int.emod_lt_of_pos (cenR n m i - sprR f n m) (show 0 < 2 * m by omega)
  have b := Int.mul_ediv_add_emod (cenR n m i + sprR f n m - 1) (2 * m)
  have b0 := Int.emod_nonneg (cenR n m i + sprR f n m - 1) (show 2 * m ≠ 0 by omega)
  have b1 := Int.emod_lt_of_pos (cenR n m i + sprR f n m - 1) (show 0 < 2 * m by omega)
  generalize (cenR n m i - sprR f n m) / (2 * m) = x at *
  generalize (cenR n m i + sprR f n m - 1) / (2 * m) = y at *
  generalize (cenR n m i - sprR f n m) % (2 * m) = r at *
  generalize (cenR n m i + sprR f n m - 1) % (2 * m) = s at *
  have ex : 2 * m * x = 2 * (x * m) := by rw [Int.mul_assoc, Int.mul_comm m x]
  have ey : 2 * m * y = 2 * (y * m) := by rw [Int.mul_assoc, Int.mul_comm m y]
  rw [ex] at a
  rw [ey] at b
  have l1 : j ≤ x → j * m ≤ x * m := fun h => Int.mul_le_mul_of_nonneg_right h (by omega)
  have l2 : x + 1 ≤ j → (x + 1) * m ≤ j * m := fun h => Int.mul_le_mul_of_nonneg_right h (by omega)
  have l3 : j ≤ y → j * m ≤ y * m := fun h => Int.mul_le_mul_of_nonneg_right h (by omega)
  have l4 : y + 1 ≤ j → (y + 1) * m ≤ j * m := fun h => Int.mul_le_mul_of_nonneg_right h (by omega)
  rw [Int.add_mul, Int.one_mul] at l2 l4
  constructor
  · rintro ⟨h1, h2⟩
    constructor
    · by_cases g : x < j
      · exact g
      · have := l1 (by omega); omega
    · by_cases g : j ≤ y
      · exact g
      · have := l4 (by omega); omega
  · rintro ⟨h1, h2⟩
    have := l2 (by omega)
    have := l3 h2
    omega
theorem win_closed {f n m i : Int} (h : MayP f n m i) : IsWin f n m i (lowW f n m i + 1) (topW f n m i - lowW f n m i).toNat ∧ -262144 < lowW f n m i + 1 ∧ lowW f n m i + 1 ≤ topW f n m i ∧ topW f n m i < 262144 := by
  obtain ⟨_, _, n0, n1, m0, m1, i0, i1⟩ := h
  have Q := fun j => inW_quot (f := f) (n := n) (i := i) m0 j
  have S := (Q _).1 (inW_start (f := f) (n := n) (m := m) (i := i) n0 n1 m0 m1)
  have no : ∀ j, ¬ (lowW f n m i < j ∧ j ≤ topW f n m i) → inW f n m i j = false := by
    intro j hj
    by_cases g : inW f n m i j = true
    · exact absurd ((Q j).1 g) hj
    · simpa using g
  have b0 := inW_bound (f := f) n0 n1 m0 m1 i0 i1 ((Q (lowW f n m i + 1)).2 (by omega))
  have b1 := inW_bound (f := f) n0 n1 m0 m1 i0 i1 ((Q (topW f n m i)).2 (by omega))
  refine ⟨⟨by omega, no _ (by omega), fun k hk => (Q _).2 (by omega), no _ (by omega)⟩, b0.1, by omega, b1.2⟩
theorem known_yes (f : Int) (f0 : 0 ≤ f) (f1 : f ≤ 2) (w : World) :
    Calls Tryz.prog 115 #[.int .i64 f] w fun e w' => e = .returned (.bool true) ∧ w = w' := by
  go_enter Tryz.func115, Tryz.ntmps115
  go_wp2
  go_ret
  first | exact ⟨rfl, rfl⟩ | exact ⟨ret_bool (decide_eq_true (by omega)), rfl⟩
theorem known_no (f : Int) (h : f < 0 ∨ 2 < f) (w : World) :
    Calls Tryz.prog 115 #[.int .i64 f] w fun e w' => e = .returned (.bool false) ∧ w = w' := by
  rcases h with h | h
  all_goals
    go_enter Tryz.func115, Tryz.ntmps115
    go_wp2
    go_ret
    first | exact ⟨rfl, rfl⟩ | exact ⟨ret_bool (decide_eq_false (by omega)), rfl⟩
theorem side_yes (n : Int) (n0 : 1 ≤ n) (n1 : n ≤ 65536) (w : World) :
    Calls Tryz.prog 153 #[.int .i64 n] w fun e w' => e = .returned (.bool true) ∧ w = w' := by
  go_enter Tryz.func153, Tryz.ntmps153
  go_wp2
  go_ret
  first | exact ⟨rfl, rfl⟩ | exact ⟨ret_bool (decide_eq_true (by omega)), rfl⟩
theorem centre_any {f : Int} (n m i v : Int) (hv : cenR n m i = v) (h : MayP f n m i) (w : World) :
    Calls Tryz.prog 154 #[.int .i64 n, .int .i64 m, .int .i64 i] w fun e w' => e = .returned (.int .i64 v) ∧ w = w' := by
  obtain ⟨_, _, n0, n1, m0, m1, i0, i1⟩ := h
  obtain ⟨_, _, _, _, _, g0, g1⟩ := side_bounds n0 n1 m0 m1 i0 i1 (show (-1048576 : Int) ≤ 0 by omega) (by omega)
  have HV := hide hv
  clear hv
  go_enter Tryz.func154, Tryz.ntmps154
  go_wp2
  go_ret
  exact ⟨ret_i64 (by rw [← HV.out]; rfl), rfl⟩
theorem spread_any (f n m v : Int) (hv : sprR f n m = v) (f0 : 0 ≤ f) (f1 : f ≤ 2) (n0 : 1 ≤ n) (n1 : n ≤ 65536) (m0 : 1 ≤ m) (m1 : m ≤ 65536) (w : World) (hk : Kinds w) :
    Calls Tryz.prog 155 #[.int .i64 f, .int .i64 n, .int .i64 m] w fun e w' => e = .returned (.int .i64 v) ∧ w = w' := by
  have x0 : 1 ≤ max n m := by omega
  have x1 : max n m ≤ 65536 := by omega
  obtain ⟨_, _, _, k1, _, k2⟩ := hk
  have HV := hide hv
  clear hv
  by_cases h0 : f = 0
  · subst h0
    go_enter Tryz.func155, Tryz.ntmps155
    go_wp2
    go_ret
    exact ⟨ret_i64 (by rw [← HV.out]; rfl), rfl⟩
  by_cases h1 : f = 1
  · subst h1
    go_enter Tryz.func155, Tryz.ntmps155
    go_wp2
    go_ret
    exact ⟨ret_i64 (by rw [← HV.out]; unfold sprR; rw [if_neg (by omega), if_neg (by omega)]), rfl⟩
  · obtain rfl : f = 2 := by omega
    go_enter Tryz.func155, Tryz.ntmps155
    go_wp2
    go_ret
    exact ⟨ret_i64 (by rw [← HV.out]; unfold sprR; rw [if_neg (by omega), if_pos rfl]), rfl⟩
theorem name_any : NameC := by
  intro f hf w hk
  obtain ⟨f0, f1⟩ := hf
  obtain ⟨k0, _, k1, _, k2, _⟩ := hk
  by_cases h0 : f = 0
  · subst h0
    have C := fun w => known_yes 0 (by omega) (by omega) w
    go_enter Tryz.func97, Tryz.ntmps97
    go_wp2_with (go_at_call 115; (with_reducible refine (C _).mono ?_); rintro e w1 ⟨rfl, rfl⟩)
    go_ret
    exact ⟨rfl, Below.refl _ _⟩
  by_cases h1 : f = 1
  · subst h1
    have C := fun w => known_yes 1 (by omega) (by omega) w
    go_enter Tryz.func97, Tryz.ntmps97
    go_wp2_with (go_at_call 115; (with_reducible refine (C _).mono ?_); rintro e w1 ⟨rfl, rfl⟩)
    go_ret
    exact ⟨rfl, Below.refl _ _⟩
  by_cases h2 : f = 2
  · subst h2
    have C := fun w => known_yes 2 (by omega) (by omega) w
    go_enter Tryz.func97, Tryz.ntmps97
    go_wp2_with (go_at_call 115; (with_reducible refine (C _).mono ?_); rintro e w1 ⟨rfl, rfl⟩)
    go_ret
    exact ⟨rfl, Below.refl _ _⟩
  · have C := fun w => known_no f (by omega) w
    rw [show nameF f = .string ⟨#[]⟩ by unfold nameF; rw [if_neg h0, if_neg h1, if_neg h2]]
    clear h0 h1 h2 k0 k1 k2
    go_enter Tryz.func97, Tryz.ntmps97
    go_wp2_with (go_at_call 115; (with_reducible refine (C _).mono ?_); rintro e w1 ⟨rfl, rfl⟩)
    go_ret
    exact ⟨rfl, Below.refl _ _⟩
theorem floor_in {a b v : Int} (hv : a / b = v) (hb : 0 < b) (v0 : -9223372036854775808 ≤ v) (v1 : v ≤ 9223372036854775807) : floorF a b = v := by
  rw [floorF_of (by omega), show floorQ a b = v by unfold floorQ; rw [if_neg (by omega)]; exact hv, holdI_in v0 v1]
theorem window_at (f n m i c s u v : Int) (hc : cenR n m i = c) (hs : sprR f n m = s) (hu : lowW f n m i = u) (hv : topW f n m i = v) (h : MayP f n m i) (w : World) (hk : Kinds w) :
    Calls Tryz.prog 131 #[.int .i64 f, .int .i64 n, .int .i64 m, .int .i64 i] w fun e w' => e = .returned (.tuple #[.int .i64 (u + 1), .int .i64 (v - (u + 1) + 1)]) ∧ w = w' := by
  have CC := centre_any n m i c hc h
  obtain ⟨_, b0, b1, b2⟩ := win_closed h
  obtain ⟨c0, c1⟩ := cen_in h
  obtain ⟨f0, f1, n0, n1, m0, m1, i0, i1⟩ := h
  obtain ⟨s0, s1⟩ := spr_in (f := f) n0 n1 m0 m1
  have CS := fun w hk => spread_any f n m s hs f0 f1 n0 n1 m0 m1 w hk
  rw [hc] at c0 c1
  rw [hs] at s0 s1
  rw [hu] at b0 b1
  rw [hv] at b1 b2
  unfold lowW at hu
  unfold topW at hv
  rw [hc, hs] at hu hv
  have e1 := floor_in hu (show 0 < 2 * m by omega) (by omega) (by omega)
  have e2 := floor_in hv (show 0 < 2 * m by omega) (by omega) (by omega)
  have C1 := fun w => fixfloor_any (c - s) (2 * m) (by omega) (by omega) (by omega) (by omega) w
  have C2 := fun w => fixfloor_any (c + s - 1) (2 * m) (by omega) (by omega) (by omega) (by omega) w
  rw [e1] at C1
  rw [e2] at C2
  have K0 := fun w => known_yes f f0 f1 w
  have K1 := fun w => side_yes n n0 n1 w
  have K2 := fun w => side_yes m m0 m1 w
  clear e1 e2 hu hv hc hs
  go_enter Tryz.func131, Tryz.ntmps131
  go_wp2_with (first
    | (go_at_call 115; (with_reducible refine (K0 _).mono ?_); rintro e w1 ⟨rfl, rfl⟩)
    | (go_at_call 153; (with_reducible refine (K1 _).mono ?_); rintro e w1 ⟨rfl, rfl⟩)
    | (go_at_call 153; (with_reducible refine (K2 _).mono ?_); rintro e w1 ⟨rfl, rfl⟩)
    | (go_at_call 154; (with_reducible refine (CC _).mono ?_); rintro e w1 ⟨rfl, rfl⟩)
    | (go_at_call 155; (with_reducible refine (CS _ hk).mono ?_); rintro e w1 ⟨rfl, rfl⟩)
    | (go_at_call 135; (with_reducible refine (C1 _).mono ?_); rintro e w1 ⟨rfl, rfl⟩)
    | (go_at_call 135; (with_reducible refine (C2 _).mono ?_); rintro e w1 ⟨rfl, rfl⟩))
  exact bodyPost_ret (v := .tuple #[.int .i64 (u + 1), .int .i64 (v - (u + 1) + 1)]) (by simp [results, Tryz.results131, go_sem]) rfl ⟨rfl, rfl⟩
theorem win_yes : WinC := by
  intro f n m i j0 c h hw w hk
  obtain ⟨W, b0, b1, b2⟩ := win_closed h
  obtain ⟨rfl, rfl⟩ := win_one h.2.2.2.2.1 hw W
  refine (window_at f n m i _ _ _ _ rfl rfl rfl rfl h w hk).mono ?_
  rintro e w1 ⟨rfl, rfl⟩
  refine ⟨?_, Below.refl _ _⟩
  rw [show ((topW f n m i - lowW f n m i).toNat : Int) = topW f n m i - (lowW f n m i + 1) + 1 by omega]
/-- One sample's weight. -/
theorem weigh_any (f n m i j : Int) (h : MayP f n m i) (hin : inW f n m i j = true) (w : World) :
    Calls Tryz.prog 132 #[.int .i64 f, .int .i64 n, .int .i64 m, .int .i64 i, .int .i64 j] w fun e w' => e = .returned (.int .i64 (weightR f n m i j)) ∧ Below w.heap.size w w' := by
  obtain ⟨cv, hc⟩ : ∃ c, cenR n m i = c := ⟨_, rfl⟩
  have CC := centre_any n m i cv hc h
  obtain ⟨c0, c1⟩ := cen_in h
  rw [hc] at c0 c1
  obtain ⟨f0, f1, n0, n1, m0, m1, i0, i1⟩ := h
  obtain ⟨j0, j1⟩ := inW_bound (f := f) n0 n1 m0 m1 i0 i1 hin
  obtain ⟨⟨a0, a1⟩, ⟨b0, b1⟩, ⟨d0, d1⟩, ⟨e0, e1⟩, ⟨g0, g1⟩, _⟩ := side_bounds n0 n1 m0 m1 i0 i1 (show -1048576 ≤ j by omega) (show j ≤ 1048576 by omega)
  by_cases hf : f = 0
  · subst hf
    rw [show weightR 0 n m i j = divF ((min ((i + 1) * n) ((j + 1) * m) - max (i * n) (j * m)) * 1073741824) n from if_pos rfl]
    have x0 : -68719542272 ≤ min ((i + 1) * n) ((j + 1) * m) := by omega
    have x1 : min ((i + 1) * n) ((j + 1) * m) ≤ 4294967296 := by omega
    have y0 : 0 ≤ max (i * n) (j * m) := by omega
    have y1 : max (i * n) (j * m) ≤ 68719476736 := by omega
    obtain ⟨z0, z1, _⟩ := box_part n0 n1 m0 hin
    unfold partB at z0 z1
    clear hin
    have CD := fun w => fixdiv_any ((min ((i + 1) * n) ((j + 1) * m) - max (i * n) (j * m)) * 1073741824) n (by omega) (by omega) (by omega) (by omega) w
    generalize divF ((min ((i + 1) * n) ((j + 1) * m) - max (i * n) (j * m)) * 1073741824) n = z at *
    clear CC hc
    go_enter Tryz.func132, Tryz.ntmps132
    go_wp2_with (go_at_call 156; (with_reducible refine (CD _).mono ?_); rintro e w1 ⟨rfl, rfl⟩)
    go_ret
    exact ⟨rfl, Below.refl _ _⟩
  · clear hin
    have x0 : 1 ≤ max n m := by omega
    have x1 : max n m ≤ 65536 := by omega
    have ep : fracP n m i j = 2 * m * j - cv := by rw [fracP_cen, hc]
    have eq := fracQ_max n m
    by_cases h1 : f = 1
    · subst h1
      rw [show weightR 1 n m i j = keysF (2 * m * j - cv) (2 * max n m) by rw [← ep, ← eq]; unfold weightR; rw [if_neg (by omega), if_pos rfl]]
      have CK := fun w => keys_any (2 * m * j - cv) (2 * max n m) (by omega) (by omega) w
      generalize keysF (2 * m * j - cv) (2 * max n m) = z at *
      clear ep eq hc
      go_enter Tryz.func132, Tryz.ntmps132
      go_wp2_with (first
        | (go_at_call 154; (with_reducible refine (CC _).mono ?_); rintro e w1 ⟨rfl, rfl⟩)
        | (go_at_call 121; (with_reducible refine (CK _).mono ?_); rintro e w2 ⟨rfl, b2⟩))
      go_ret
      exact ⟨rfl, b2⟩
    · obtain rfl : f = 2 := by omega
      rw [show weightR 2 n m i j = lanczosF (2 * m * j - cv) (2 * max n m) by rw [← ep, ← eq]; unfold weightR; rw [if_neg (by omega), if_neg (by omega)]]
      have CK := fun w => lanczos_any (2 * m * j - cv) (2 * max n m) (by omega) (by omega) w
      generalize lanczosF (2 * m * j - cv) (2 * max n m) = z at *
      clear ep eq hc
      go_enter Tryz.func132, Tryz.ntmps132
      go_wp2_with (first
        | (go_at_call 154; (with_reducible refine (CC _).mono ?_); rintro e w1 ⟨rfl, rfl⟩)
        | (go_at_call 157; (with_reducible refine (CK _).mono ?_); rintro e w2 ⟨rfl, b2⟩))
      go_ret
      exact ⟨rfl, b2⟩
theorem infoI64L : (Tryz.prog.info? 2).map (fun i => (i.zero, i.size, i.bytes)) = some (some (.int .i64 0), 1, 8) := by kernel_rfl
/-- So many weights, the rest nought. -/
def rowZ (f n m i j0 : Int) (k c : Nat) : List Value := rowR f n m i j0 k ++ List.replicate (c - k) (.int .i64 0)
theorem rowZ_zero (f n m i j0 : Int) (c : Nat) : rowZ f n m i j0 0 c = List.replicate c (.int .i64 0) := by unfold rowZ rowR; rfl
theorem rowZ_all (f n m i j0 : Int) (c : Nat) : rowZ f n m i j0 c c = rowR f n m i j0 c := by unfold rowZ; simp
theorem rowZ_set (f n m i j0 : Int) {k c : Nat} (h : k < c) : (rowZ f n m i j0 k c).set k (.int .i64 (weightR f n m i (j0 + (k : Nat)))) = rowZ f n m i j0 (k + 1) c := by
  unfold rowZ
  rw [rowR_succ, List.set_append_right _ _ (by rw [rowR_len]; exact Nat.le_refl _), rowR_len, Nat.sub_self]
  obtain ⟨d, hd⟩ : ∃ d, c - k = d + 1 := ⟨c - k - 1, by omega⟩
  rw [hd, show c - (k + 1) = d by omega, List.replicate_succ, List.set_cons_zero, List.append_assoc]
  rfl
theorem own_cell_any {w : World} {base : Nat} {e : TypeId} {g c cap k : Nat} {xs : List Value} (h : w.ownsRow base e 1 (.slice (some ⟨g, 0, none⟩) c cap) c xs) (hk : k < c) : ∃ v, w.cell? ⟨g, k, none⟩ = some v := by
  have hl := h.1
  rw [Nat.mul_one] at hl
  rw [h.cellAt k (by omega)]
  exact ⟨_, List.getElem?_eq_getElem (by omega)⟩
set_option maxHeartbeats 4000000 in
set_option maxRecDepth 1000000 in
theorem row_yes : RowC := by
  intro f n m i h w hk
  obtain ⟨W, b0, b1, b2⟩ := win_closed h
  obtain ⟨u, hu⟩ : ∃ u, lowW f n m i + 1 = u := ⟨_, rfl⟩
  obtain ⟨c, hc⟩ : ∃ c, (topW f n m i - lowW f n m i).toNat = c := ⟨_, rfl⟩
  have cb : 1 ≤ c ∧ c ≤ 524288 := by omega
  rw [hu, hc] at W
  rw [hu] at b0
  have CW := fun w hk => win_yes f n m i u c h W w hk
  have I := win_iff h.2.2.2.2.1 W
  have CG := fun j hj w => weigh_any f n m i j h hj w
  have ub : u ≤ 524288 := by omega
  obtain ⟨c0, c1⟩ := cb
  obtain ⟨i0, hi, hz0, hz1, hz2⟩ := info_parts infoI64L
  have HW := hide W
  have HI := hide I
  have HG := hide CG
  have hcz : ((c : Int) == 0) = false := beq_eq_false_iff_ne.2 (by omega)
  clear hu hc b1 b2 W I CG h
  go_enter Tryz.func116, Tryz.ntmps116
  go_wp2_with (first
    | (go_at_call 131; (with_reducible refine (CW _ hk).mono ?_); rintro e w1 ⟨rfl, b1⟩)
    | (at_make; refine wpList_make_full _ rfl _ _ 47 rfl w.heap.size 2 i0 (.int .i64 0) 1 Tryz.underlying47 hi hz0 hz1 .i64 .i64 (c : Int) (c : Int) c rfl rfl rfl rfl (by rw [hz2]; omega) (by unfold maxLen; omega) (by have := b1.size; omega) ?_; intro w2 hown hgrow))
  have own0 : w2.ownsRow w.heap.size 2 1 (.slice (some ⟨w1.heap.size, 0, none⟩) c c) c (rowZ f n m i u 0 c) := by
    rw [rowZ_zero, ← toList_madeCells_one]
    rw [Nat.mul_one] at hown
    exact hown
  have B2 : Below w.heap.size w w2 := b1.grown hgrow b1.size (fun j hj => by cases hj)
  have hg0 := b1.size
  clear hown hgrow b1 CW
  generalize w1.heap.size = g at *
  go_loopw [26] (fun t wr => ∃ k : Nat, t = .int .i64 (k : Int) ∧ k ≤ c ∧ Below w.heap.size w wr ∧ wr.ownsRow w.heap.size 2 1 (.slice (some ⟨g, 0, none⟩) c c) c (rowZ f n m i u k c)) (fun t _ => c - (intOf t).toNat)
  case atStart => exact ⟨0, rfl, by omega, B2, own0⟩
  case round =>
    obtain ⟨k, rfl, hkc, hb, ho⟩ := hrel
    have HB := hide hb
    have HO := hide ho
    clear hb ho B2 own0
    by_cases hlt : k < c
    · have C1 := HG.out (u + (k : Int)) ((HI.out _).2 (by omega))
      have HZ := hide (rowZ_set f n m i u hlt)
      generalize weightR f n m i (u + (k : Int)) = W at *
      go_wp2_with (go_at_call 132; (with_reducible refine (C1 _).mono ?_); rintro e w3 ⟨rfl, b3⟩; have fz := (owns_below HO.out b3).frozenAt k; obtain ⟨v, cl⟩ := own_cell_any (owns_below HO.out b3) hlt)
      go_roundw
      case rel =>
        refine ⟨k + 1, by go_num, by omega, bs (bt HB.out b3) hg0 _, ?_⟩
        rw [← HZ.out]
        exact ((owns_below HO.out b3).stored k _).1
      case measure => simp [intOf]; omega
    · obtain rfl : k = c := by omega
      have o2 := HO.out
      rw [rowZ_all] at o2
      have HO2 := hide o2
      clear o2 HO
      go_wp2
      exact bodyPost_ret (v := .tuple #[.int .i64 u, .slice (some ⟨g, 0, none⟩) k k]) (by simp [results, Tryz.results116, go_sem]) rfl ⟨u, k, _, HW.out, rfl, HO2.out, HB.out⟩
end Go.Proofs.YtaafhjngnjjcmaaGreatDoor
