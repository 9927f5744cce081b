/- Parts, joined. -/
import Derived.Test.YtdpkigdfhfippaaGreatDoorJ18
import Derived.WalkKit
import Derived.OwnWalk
import Derived.Deep.RegionHeld3
/- What each source sample weighs: windows, and the document's rows. -/
namespace Go.Proofs.YtdpkigdfhfippaaGreatDoor
open Go.RowKit


theorem inW_box {n m i j : Int} : inW 0 n m i j = true ↔ i * n < (j + 1) * m ∧ j * m < (i + 1) * n := by
  rw [show inW 0 n m i j = (decide (i * n < (j + 1) * m) && decide (j * m < (i + 1) * n)) from if_pos rfl]
  simp
theorem inW_far {f n m i j : Int} (hf : f ≠ 0) : inW f n m i j = true ↔ fracP n m i j < (if f = 2 then 3 * fracQ n m else 2 * fracQ n m) ∧ -(if f = 2 then 3 * fracQ n m else 2 * fracQ n m) < fracP n m i j := by
  rw [show inW f n m i j = (decide (fracP n m i j < (if f = 2 then 3 * fracQ n m else 2 * fracQ n m)) && decide (-(if f = 2 then 3 * fracQ n m else 2 * fracQ n m) < fracP n m i j)) from if_neg hf]
  simp
theorem reach_in {f n m : Int} (n0 : 1 ≤ n) (n1 : n ≤ 65536) (m0 : 1 ≤ m) (m1 : m ≤ 65536) : 2 * n + 2 * m ≤ (if f = 2 then 3 * fracQ n m else 2 * fracQ n m) ∧ (if f = 2 then 3 * fracQ n m else 2 * fracQ n m) ≤ 393216 := by
  unfold fracQ; split <;> split <;> omega
theorem frac_at (n m i j : Int) : fracP n m i j = 2 * (j * m) - 2 * (i * n) - n + m := by
  unfold fracP
  have e1 : 2 * m * j = 2 * (j * m) := by rw [Int.mul_assoc, Int.mul_comm m j]
  have e2 : (2 * i + 1) * n = 2 * (i * n) + n := by rw [Int.add_mul, Int.mul_assoc, Int.one_mul]
  rw [e1, e2]; omega
/-- The middle is in the window. -/
theorem inW_start {f n m i : Int} (n0 : 1 ≤ n) (n1 : n ≤ 65536) (m0 : 1 ≤ m) (m1 : m ≤ 65536) : inW f n m i (i * n / m) = true := by
  have e := Int.mul_ediv_add_emod (i * n) m
  have r0 := Int.emod_nonneg (i * n) (show m ≠ 0 by omega)
  have r1 := Int.emod_lt_of_pos (i * n) (show 0 < m by omega)
  rw [Int.mul_comm] at e
  have a1 : (i * n / m + 1) * m = i * n / m * m + m := by rw [Int.add_mul, Int.one_mul]
  have a2 : (i + 1) * n = i * n + n := by rw [Int.add_mul, Int.one_mul]
  by_cases hf : f = 0
  · subst hf
    rw [inW_box, a1, a2]
    omega
  · rw [inW_far hf, frac_at]
    have := reach_in (f := f) n0 n1 m0 m1
    omega
theorem inW_bound {f n m i j : Int} (n0 : 1 ≤ n) (n1 : n ≤ 65536) (m0 : 1 ≤ m) (m1 : m ≤ 65536) (i0 : 0 ≤ i) (i1 : i < m) (h : inW f n m i j = true) : -262144 < j ∧ j < 262144 := by
  have a0 : 0 ≤ i * n := Int.mul_nonneg i0 (by omega)
  have a1 : i * n ≤ i * 65536 := Int.mul_le_mul_of_nonneg_left n1 i0
  have up : 262144 ≤ j → 262144 * m ≤ j * m := fun g => Int.mul_le_mul_of_nonneg_right g (by omega)
  have dn : j ≤ -262144 → j * m ≤ -262144 * m := fun g => Int.mul_le_mul_of_nonneg_right g (by omega)
  by_cases hf : f = 0
  · subst hf
    rw [inW_box, Int.add_mul, Int.add_mul, Int.one_mul, Int.one_mul] at h
    constructor
    · by_cases g : -262144 < j
      · exact g
      · have := dn (by omega); omega
    · by_cases g : j < 262144
      · exact g
      · have := up (by omega); omega
  · rw [inW_far hf, frac_at] at h
    have := reach_in (f := f) n0 n1 m0 m1
    constructor
    · by_cases g : -262144 < j
      · exact g
      · have := dn (by omega); omega
    · by_cases g : j < 262144
      · exact g
      · have := up (by omega); omega
theorem inW_mid {f n m i a b c : Int} (m0 : 1 ≤ m) (h1 : a ≤ b) (h2 : b ≤ c) (ha : inW f n m i a = true) (hc : inW f n m i c = true) : inW f n m i b = true := by
  have l : a * m ≤ b * m := Int.mul_le_mul_of_nonneg_right h1 (by omega)
  have r : b * m ≤ c * m := Int.mul_le_mul_of_nonneg_right h2 (by omega)
  by_cases hf : f = 0
  · subst hf
    rw [inW_box, Int.add_mul, Int.add_mul, Int.one_mul, Int.one_mul] at *
    omega
  · rw [inW_far hf, frac_at] at *
    omega
/-- A window: the least sample, and how many there are. -/
def IsWin (f n m i j0 : Int) (c : Nat) : Prop := 0 < c ∧ inW f n m i (j0 - 1) = false ∧ (∀ k : Nat, k < c → inW f n m i (j0 + k) = true) ∧ inW f n m i (j0 + c) = false
/-- There is one alone. -/
theorem win_one {f n m i a b : Int} {c d : Nat} (m0 : 1 ≤ m) (h : IsWin f n m i a c) (g : IsWin f n m i b d) : a = b ∧ c = d := by
  obtain ⟨h0, h1, h2, h3⟩ := h
  obtain ⟨g0, g1, g2, g3⟩ := g
  have ha : inW f n m i a = true := by have := h2 0 h0; simpa using this
  have hb : inW f n m i b = true := by have := g2 0 g0; simpa using this
  have hal : inW f n m i (a + (c - 1 : Nat)) = true := h2 (c - 1) (by omega)
  have hbl : inW f n m i (b + (d - 1 : Nat)) = true := g2 (d - 1) (by omega)
  have no : ∀ {x y : Int}, inW f n m i x = false → inW f n m i y = true → x ≠ y := by
    rintro x y hx hy rfl; rw [hx] at hy; cases hy
  have ab : a = b := by
    by_cases q : a < b
    · exact absurd (inW_mid m0 (show a ≤ b - 1 by omega) (show b - 1 ≤ b by omega) ha hb) (by rw [g1]; decide)
    · by_cases q2 : b < a
      · exact absurd (inW_mid m0 (show b ≤ a - 1 by omega) (show a - 1 ≤ a by omega) hb ha) (by rw [h1]; decide)
      · omega
  subst ab
  refine ⟨rfl, ?_⟩
  by_cases q : c < d
  · have := g2 c q; rw [h3] at this; cases this
  · by_cases q2 : d < c
    · have := h2 d q2; rw [g3] at this; cases this
    · omega
/-- The weights of so many samples. -/
def rowR (f n m i j0 : Int) (c : Nat) : List Value := (List.range c).map fun k => Value.int .i64 (weightR f n m i (j0 + (k : Nat)))
theorem rowR_succ (f n m i j0 : Int) (c : Nat) : rowR f n m i j0 (c + 1) = rowR f n m i j0 c ++ [Value.int .i64 (weightR f n m i (j0 + (c : Nat)))] := by
  unfold rowR; rw [List.range_succ, List.map_append]; rfl
theorem rowR_len (f n m i j0 : Int) (c : Nat) : (rowR f n m i j0 c).length = c := by unfold rowR; rw [List.length_map, List.length_range]
theorem refmay_walk (f n m i : Int) (h : 0 ≤ f ∧ f ≤ 2 ∧ 1 ≤ n ∧ n ≤ 65536 ∧ 1 ≤ m ∧ m ≤ 65536 ∧ 0 ≤ i ∧ i < m) (w : World) :
    Calls Tryz.prog 73 #[.int .i64 f, .int .i64 n, .int .i64 m, .int .i64 i] w fun e w' => e = .returned (.bool true) ∧ Below w.heap.size w w' := by
  obtain ⟨h1, h2, h3, h4, h5, h6, h7, h8⟩ := h
  go_enter Tryz.func73, Tryz.ntmps73
  go_wp2
  go_ret
  exact ⟨rfl, Below.refl _ _⟩
theorem infoI64 : (Tryz.prog.info? 2).map (fun i => (i.zero, i.size, i.bytes)) = some (some (.int .i64 0), 1, 8) := by kernel_rfl
theorem owns_below {B : Nat} {e : TypeId} {k : Nat} {v : Value} {n : Nat} {xs : List Value} {w w' : World} (h : w.ownsRow B e k v n xs) (hb : Below w.heap.size w w') : w'.ownsRow B e k v n xs := by
  refine ⟨h.1, ?_⟩
  rcases h.2 with h2 | ⟨g, cap, cur, hv, hB, hg, r⟩
  · exact .inl h2
  · refine .inr ⟨g, cap, cur, hv, hB, ?_, r⟩
    have hlt : g < w.heap.size := by
      rcases Nat.lt_or_ge g w.heap.size with hlt | hge
      · exact hlt
      · rw [Array.getElem?_eq_none hge] at hg; cases hg
    rw [hb.block g hlt]; exact hg
theorem row_more {w0 wc w2 : World} {f n m i j0 : Int} {c : Nat} {v v' : Value} {o : Obj} (hb : Below w0.heap.size w0 wc) (hown : wc.ownsRow w0.heap.size 2 1 v c (rowR f n m i j0 c))
    (hown' : w2.ownsRow w0.heap.size 2 1 v' (c + 1) (rowR f n m i j0 c ++ [Value.int .i64 (weightR f n m i (j0 + (c : Nat)))]))
    (hgrow : (wc.alloc o).grownBy w2 v.ownBlock) :
    w2.ownsRow w0.heap.size 2 1 v' (c + 1) (rowR f n m i j0 (c + 1)) ∧ Below w0.heap.size w0 w2 := by
  have hs := hb.size
  exact ⟨by rw [rowR_succ]; exact hown', (hb.alloc (by omega) o).grown hgrow (by simp; omega) (fun j hj => (hown.lt j hj).1)⟩
set_option maxHeartbeats 4000000 in
set_option maxRecDepth 1000000 in
theorem refrow_walk (f n m i : Int) (h : 0 ≤ f ∧ f ≤ 2 ∧ 1 ≤ n ∧ n ≤ 65536 ∧ 1 ≤ m ∧ m ≤ 65536 ∧ 0 ≤ i ∧ i < m) (w : World) :
    Calls Tryz.prog 58 #[.int .i64 f, .int .i64 n, .int .i64 m, .int .i64 i] w fun e w' => ∃ (j0 : Int) (c : Nat) (v : Value), IsWin f n m i j0 c ∧ -262144 < j0 ∧ j0 < 262144 ∧ c ≤ 524288 ∧ e = .returned (.tuple #[.int .i64 j0, v]) ∧ w'.ownsRow w.heap.size 2 1 v c (rowR f n m i j0 c) ∧ Below w.heap.size w w' := by
  have CM := refmay_walk f n m i h
  obtain ⟨h1, h2, h3, h4, h5, h6, h7, h8⟩ := h
  have ST := inW_start (f := f) (i := i) h3 h4 h5 h6
  have CI := fun j (g0 : -1048576 ≤ j) (g1 : j ≤ 1048576) => refin_any f n m i j h1 h2 h3 h4 h5 h6 h7 h8 g0 g1
  have CW := fun j (g0 : -1048576 ≤ j) (g1 : j ≤ 1048576) => refweight_any f n m i j h1 h2 h3 h4 h5 h6 h7 h8 g0 g1
  have BD := fun j (g : inW f n m i j = true) => inW_bound (f := f) (j := j) h3 h4 h5 h6 h7 h8 g
  obtain ⟨a0, a1⟩ : 0 ≤ i * n ∧ i * n ≤ 4294967296 := by
    have a := mul_abs_le (x := i) (y := n) (A := 65536) (B := 65536) (by omega) (by omega) (by omega) h4 (by omega)
    have a0 : 0 ≤ i * n := Int.mul_nonneg h7 (by omega)
    omega
  have hm0 : (m == 0) = false := beq_eq_false_iff_ne.2 (by omega)
  obtain ⟨i0, hi, hz0, hz1, hz2⟩ := info_parts infoI64
  have BDH := hide BD
  have CIH := hide CI
  have CWH := hide CW
  have STH := hide ST
  clear BD CI CW ST
  go_enter Tryz.func58, Tryz.ntmps58
  go_wp2_with (go_at_call 73; (with_reducible refine (CM _).mono ?_); rintro e w1 ⟨rfl, b1⟩)
  go_loopw [10] (fun u wr => ∃ j : Int, u = .int .i64 j ∧ inW f n m i j = true ∧ Below w.heap.size w wr) (fun u _ => (intOf u + 262144).toNat)
  case atStart => exact ⟨_, rfl, STH.out, b1⟩
  case round =>
    obtain ⟨j, rfl, hin, hb⟩ := hrel
    obtain ⟨j0, j1⟩ := BDH.out _ hin
    have HB := hide hb
    have HI := hide hin
    clear hb hin b1
    have C1 := CIH.out (j - 1) (by omega) (by omega)
    by_cases hp : inW f n m i (j - 1) = true
    · rw [hp] at C1
      have HP := hide hp
      clear hp
      go_wp2_with (go_at_call 74; (with_reducible refine (C1 _).mono ?_); rintro e w2 ⟨rfl, b2⟩)
      go_roundw
      case rel => exact ⟨j - 1, by go_num, HP.out, bt HB.out b2⟩
      case measure => simp [intOf]; omega
    · have hp' : inW f n m i (j - 1) = false := by simpa using hp
      rw [hp'] at C1
      have hp1 := hide hp'
      clear hp hp'
      go_wp2_with (go_at_call 74; (with_reducible refine (C1 _).mono ?_); rintro e w2 ⟨rfl, b2⟩)
      go_loopw [10] (fun u wq => u = .int .i64 j ∧ Below w.heap.size w wq) (fun _ _ => 0)
      case atStart => exact ⟨rfl, bt HB.out b2⟩
      case round =>
        obtain ⟨rfl, hb⟩ := hrel
        have HB2 := hide hb
        clear hb b2
        have C2 := CIH.out j (by omega) (by omega)
        rw [HI.out] at C2
        go_wp2_with (go_at_call 74; (with_reducible refine (C2 _).mono ?_); rintro e w3 ⟨rfl, b3⟩)
        go_loopw [10, 12] (fun u v wq => ∃ c : Nat, u = .int .i64 (j + (c : Int)) ∧ (∀ k : Nat, k < c → inW f n m i (j + (k : Int)) = true) ∧ (c : Int) ≤ 262144 - j ∧ wq.ownsRow w.heap.size 2 1 v c (rowR f n m i j c) ∧ Below w.heap.size w wq) (fun u _ _ => (262144 - intOf u).toNat)
        case atStart => exact ⟨0, by simp, fun k hk => absurd hk (by omega), by omega, World.ownsRow_nil _ _ _ _, bt HB2.out b3⟩
        case round =>
          obtain ⟨c, rfl, hall, hcb, hown, hb⟩ := hrel
          have HA := hide hall
          have HB3 := hide hb
          have HO := hide hown
          clear hall hb hown b3 C1 C2
          have C3 := CIH.out (j + (c : Int)) (by omega) (by omega)
          by_cases hp : inW f n m i (j + (c : Int)) = true
          · obtain ⟨q0, q1⟩ := BDH.out _ hp
            rw [hp] at C3
            have HP := hide hp
            clear hp
            have C4 := CWH.out (j + (c : Int)) (by omega) (by omega)
            go_wp2_with (first
              | (go_at_call 74; (with_reducible refine (C3 _).mono ?_); rintro e w4 ⟨rfl, b4⟩)
              | (go_at_call 75; (with_reducible refine (C4 _).mono ?_); rintro e w5 ⟨rfl, b5⟩)
              | (at_builtin; refine wpList_append_own _ rfl _ _ 24 rfl w.heap.size 2 i0 (.int .i64 0) 1 8 Tryz.underlying24 hi hz0 hz1 hz2 rfl (by decide) _ _ _ rfl ((owns_below (owns_below HO.out b4) b5).alloc _) ⟨w5.heap.size, 0, none⟩ 1 1 [.int .i64 (weightR f n m i (j + (c : Int)))] rfl rfl ?c1 ?c2 ?c3 ?c4 ?c5 ?_))
            case c1 =>
              intro p u hp
              match p, hp with
              | 0, hp => simp at hp; subst hp; simp [Addr.add]
            case c2 => intro u hu; simp at hu; subst hu; rfl
            case c3 => unfold maxLen; omega
            case c4 => omega
            case c5 => have := HB3.out.size; have := b4.size; have := b5.size; simp; omega
            intro v' w6 hown' hgrow _
            have R := row_more (bt (bt HB3.out b4) b5) (owns_below (owns_below HO.out b4) b5) hown' hgrow
            clear hown' hgrow
            go_wp2
            go_roundw
            case rel => exact ⟨c + 1, by go_num, fun k hk => by
              by_cases e : k = c
              · subst e; exact HP.out
              · exact HA.out k (by omega), by omega, R.1, R.2⟩
            case measure => simp [intOf]; omega
          · have hp' : inW f n m i (j + (c : Int)) = false := by simpa using hp
            rw [hp'] at C3
            have HP := hide hp'
            clear hp hp'
            go_wp2_with (go_at_call 74; (with_reducible refine (C3 _).mono ?_); rintro e w4 ⟨rfl, b4⟩)
            have c0 : 0 < c := by
              rcases Nat.eq_zero_or_pos c with h | h
              · subst h
                have := HP.out
                rw [show j + ((0 : Nat) : Int) = j by omega, HI.out] at this
                cases this
              · exact h
            exact bodyPost_ret (v := .tuple #[.int .i64 j, _]) (by simp [results, Tryz.results58, go_sem]) rfl ⟨j, c, _, ⟨c0, hp1.out, HA.out, HP.out⟩, by omega, by omega, by omega, rfl, owns_below HO.out b4, bt HB3.out b4⟩
end Go.Proofs.YtdpkigdfhfippaaGreatDoor

/- What each source sample weighs: the laws on rows, out of what the program's own calls answer. -/
namespace Go.Proofs.YtdpkigdfhfippaaGreatDoor
open Go.RowKit


def MayP (f n m i : Int) : Prop := 0 ≤ f ∧ f ≤ 2 ∧ 1 ≤ n ∧ n ≤ 65536 ∧ 1 ≤ m ∧ m ≤ 65536 ∧ 0 ≤ i ∧ i < m
/-- What the program's table of filters holds. -/
def Kinds (w : World) : Prop :=
  w.cell? ⟨1, 0, none⟩ = some (.string ⟨#[98, 111, 120]⟩) ∧ w.cell? ⟨1, 1, none⟩ = some (.int .i64 0) ∧ w.cell? ⟨1, 2, none⟩ = some (.string ⟨#[99, 117, 98, 105, 99]⟩) ∧ w.cell? ⟨1, 3, none⟩ = some (.int .i64 2) ∧ w.cell? ⟨1, 4, none⟩ = some (.string ⟨#[108, 97, 110, 99, 122, 111, 115]⟩) ∧ w.cell? ⟨1, 5, none⟩ = some (.int .i64 3)
theorem cell_ltK {w : World} {b o : Nat} {v : Value} (h : w.cell? ⟨b, o, none⟩ = some v) : b < w.heap.size := by
  by_cases g : b < w.heap.size
  · exact g
  · have e : w.heap[b]? = none := Array.getElem?_eq_none (by omega)
    simp [World.cell?, e] at h
theorem kinds_below {w w1 : World} (h : Kinds w) (b : Below w.heap.size w w1) : Kinds w1 := by
  obtain ⟨c0, c1, c2, c3, c4, c5⟩ := h
  have lc := cell_ltK c0
  exact ⟨cb b lc c0, cb b lc c1, cb b lc c2, cb b lc c3, cb b lc c4, cb b lc c5⟩
/-- What the program's own calls are to answer. -/
def RowC : Prop := ∀ (f n m i : Int), MayP f n m i → ∀ w : World, Kinds w → Calls Tryz.prog 65 #[.int .i64 f, .int .i64 n, .int .i64 m, .int .i64 i] w fun e w' => ∃ (j0 : Int) (c : Nat) (v : Value), IsWin f n m i j0 c ∧ e = .returned (.tuple #[.int .i64 j0, v]) ∧ w'.ownsRow w.heap.size 2 1 v c (rowR f n m i j0 c) ∧ Below w.heap.size w w'
def KeysC : Prop := ∀ a b : Int, -9223372036854775808 ≤ a → a ≤ 9223372036854775807 → ∀ w : World, Calls Tryz.prog 72 #[.int .i64 a, .int .i64 b] w fun e w' => e = .returned (.int .i64 (keysF a b)) ∧ Below w.heap.size w w'
theorem rowR_get (f n m i j0 : Int) {c k : Nat} (h : k < c) : (rowR f n m i j0 c)[k]? = some (.int .i64 (weightR f n m i (j0 + (k : Nat)))) := by
  unfold rowR
  rw [List.getElem?_map, List.getElem?_range h]; rfl
theorem owns_form {w : World} {base : Nat} {e : TypeId} {size : Nat} {v : Value} {n : Nat} {xs : List Value} (h : w.ownsRow base e size v n xs) (hn : 0 < n) : ∃ g cap, v = .slice (some ⟨g, 0, none⟩) n cap ∧ g < w.heap.size := by
  rcases h.2 with ⟨_, h0⟩ | ⟨g, cap, cur, hv, hb, hg, _⟩
  · omega
  · refine ⟨g, cap, hv, ?_⟩
    rcases Nat.lt_or_ge g w.heap.size with hlt | hge
    · exact hlt
    · rw [Array.getElem?_eq_none hge] at hg; cases hg
theorem owns_cell {w : World} {base : Nat} {e : TypeId} {f n m i j0 : Int} {g c cap k : Nat} (h : w.ownsRow base e 1 (.slice (some ⟨g, 0, none⟩) c cap) c (rowR f n m i j0 c)) (hk : k < c) : w.cell? ⟨g, k, none⟩ = some (.int .i64 (weightR f n m i (j0 + (k : Nat)))) := by
  have := h.cells (g := g) rfl k _ (rowR_get f n m i j0 hk)
  have e : ((⟨g, 0, none⟩ : Addr).add k) = ⟨g, k, none⟩ := by
    unfold Addr.add
    by_cases hk0 : k = 0
    · subst hk0; rfl
    · simp [hk0]
  rw [e] at this
  exact this
theorem rlives (CR : RowC) (CK : KeysC) (w : World) (hk : Kinds w) : Calls Tryz.prog 54 #[] w fun e w' => e = .returned (.bool true) ∧ Below w.heap.size w w' := by
  have C1 := CR 0 4 2 1 (by unfold MayP; omega)
  have k1 : keysF 0 1 = 1073741824 := by decide +kernel
  have k2 : keysF 1 2 = 603979776 := by decide +kernel
  have C2 := CK 0 1 (by omega) (by omega)
  have C3 := CK 1 2 (by omega) (by omega)
  rw [k1] at C2
  rw [k2] at C3
  have W : IsWin 0 4 2 1 2 2 := by
    refine ⟨by omega, by decide, ?_, by decide⟩
    intro k hk
    match k, hk with
    | 0, _ => decide
    | 1, _ => decide
  have u0 : weightR 0 4 2 1 (2 + ((0 : Nat) : Int)) = 536870912 := by decide +kernel
  have u1 : weightR 0 4 2 1 (2 + ((1 : Nat) : Int)) = 536870912 := by decide +kernel
  have WH := hide W
  clear W k1 k2
  go_enter Tryz.func54, Tryz.ntmps54
  go_upto_region 2 with (go_at_call 65; (with_reducible refine (C1 _ hk).mono ?_); rintro e w1 ⟨j0, c, v, hwin, rfl, hown, b1⟩)
  obtain ⟨rfl, rfl⟩ := win_one (by omega) hwin WH.out
  obtain ⟨g, cap, rfl, hlt⟩ := owns_form hown (by omega)
  have q0 : w1.cell? ⟨g, 0, none⟩ = some (.int .i64 536870912) := by rw [← u0]; exact owns_cell hown (by omega)
  have q1 : w1.cell? ⟨g, 1, none⟩ = some (.int .i64 536870912) := by rw [← u1]; exact owns_cell hown (by omega)
  clear hown hwin u0 u1
  go_wp2_with (first
    | (go_at_call 72; (with_reducible refine (C2 _).mono ?_); rintro e w2 ⟨rfl, b2⟩)
    | (go_at_call 72; (with_reducible refine (C3 _).mono ?_); rintro e w3 ⟨rfl, b3⟩))
  go_ret
  exact ⟨rfl, bt (bt b1 b2) b3⟩
end Go.Proofs.YtdpkigdfhfippaaGreatDoor

/- What each source sample weighs: the law on rows and windows, out of what the program's own calls answer. -/
namespace Go.Proofs.YtdpkigdfhfippaaGreatDoor
open Go.RowKit


def I64 (x : Int) : Prop := -9223372036854775808 ≤ x ∧ x ≤ 9223372036854775807
def WinC : Prop := ∀ (f n m i j0 : Int) (c : Nat), MayP f n m i → IsWin f n m i j0 c → ∀ w : World, Kinds w → Calls Tryz.prog 86 #[.int .i64 f, .int .i64 n, .int .i64 m, .int .i64 i] w fun e w' => e = .returned (.tuple #[.int .i64 j0, .int .i64 (c : Int)]) ∧ Below w.heap.size w w'
theorem win_iff {f n m i j0 : Int} {c : Nat} (m0 : 1 ≤ m) (h : IsWin f n m i j0 c) (j : Int) : inW f n m i j = true ↔ j0 ≤ j ∧ j < j0 + c := by
  obtain ⟨h0, h1, h2, h3⟩ := h
  have ha : inW f n m i j0 = true := by have := h2 0 h0; simpa using this
  have hl : inW f n m i (j0 + (c - 1 : Nat)) = true := h2 (c - 1) (by omega)
  constructor
  · intro hj
    constructor
    · by_cases q : j0 ≤ j
      · exact q
      · have := inW_mid m0 (show j ≤ j0 - 1 by omega) (show j0 - 1 ≤ j0 by omega) hj ha
        rw [h1] at this; cases this
    · by_cases q : j < j0 + c
      · exact q
      · have := inW_mid m0 (show j0 + (c - 1 : Nat) ≤ j0 + (c : Int) by omega) (show j0 + (c : Int) ≤ j by omega) hl hj
        rw [h3] at this; cases this
  · rintro ⟨q0, q1⟩
    have := h2 (j - j0).toNat (by omega)
    rw [show j0 + ((j - j0).toNat : Int) = j by omega] at this
    exact this
end Go.Proofs.YtdpkigdfhfippaaGreatDoor

/- What each source sample weighs: the laws on names and on boxes, out of what the program's own calls answer. -/
namespace Go.Proofs.YtdpkigdfhfippaaGreatDoor
open Go.RowKit


def nameF (f : Int) : Value := if f = 0 then .string ⟨#[98, 111, 120]⟩ else if f = 1 then .string ⟨#[99, 117, 98, 105, 99]⟩ else if f = 2 then .string ⟨#[108, 97, 110, 99, 122, 111, 115]⟩ else .string ⟨#[]⟩
def NameC : Prop := ∀ f : Int, I64 f → ∀ w : World, Kinds w → Calls Tryz.prog 50 #[.int .i64 f] w fun e w' => e = .returned (nameF f) ∧ Below w.heap.size w w'
/-- Box's parts, and their sum. -/
def partB (n m i j : Int) : Int := min ((i + 1) * n) ((j + 1) * m) - max (i * n) (j * m)
theorem box_part {n m i j : Int} (n0 : 1 ≤ n) (n1 : n ≤ 65536) (m0 : 1 ≤ m) (h : inW 0 n m i j = true) : 1 ≤ partB n m i j ∧ partB n m i j ≤ n ∧ 0 ≤ weightR 0 n m i j ∧ weightR 0 n m i j ≤ 1073741824 ∧ -n ≤ 2 * (n * weightR 0 n m i j) - 2147483648 * partB n m i j ∧ 2 * (n * weightR 0 n m i j) - 2147483648 * partB n m i j ≤ n := by
  rw [inW_box] at h
  have s5 : (i + 1) * n = i * n + n := by rw [Int.add_mul, Int.one_mul]
  have s2 : (j + 1) * m = j * m + m := by rw [Int.add_mul, Int.one_mul]
  have p : 1 ≤ partB n m i j ∧ partB n m i j ≤ n := by unfold partB; omega
  have e : weightR 0 n m i j = divF (partB n m i j * 1073741824) n := if_pos rfl
  have q := near_in (X := partB n m i j * 1073741824) (d := n) (m := 1073741824) (by omega) (by omega) (by omega)
  have r := near_err (X := partB n m i j * 1073741824) (d := n) (by omega)
  rw [divF_of (by omega), holdI_in (by omega) (by omega)] at e
  rw [e]
  omega
end Go.Proofs.YtdpkigdfhfippaaGreatDoor
