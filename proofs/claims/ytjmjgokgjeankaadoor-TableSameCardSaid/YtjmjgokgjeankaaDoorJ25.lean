/- Parts, joined. -/
import Derived.Test.YtjmjgokgjeankaaDoorJ22
import Derived.Test.YtjmjgokgjeankaaDoorJ24
import Derived.Test.YtjmjgokgjeankaaDoorJ01
/- The program's table: the same taps for all outputs. -/
namespace Go.Proofs.YtjmjgokgjeankaaDoor
open Go.RowKit


def halfL (ts : List Int) : Nat := ts.length / 2
def aroundTo (ts : List Int) (k : Nat) : List (Int × List Int) := (List.range k).map fun i : Nat => ((i : Int) - (halfL ts : Int), ts)
theorem aroundTo_len (ts : List Int) (k : Nat) : (aroundTo ts k).length = k := by unfold aroundTo; rw [List.length_map, List.length_range]
theorem aroundTo_at {ts : List Int} {k j : Nat} (h : j < k) : lnAt (aroundTo ts k) j = ((j : Int) - (halfL ts : Int), ts) := lnAt_map _ h
theorem aroundTo_snoc (ts : List Int) (k : Nat) : aroundTo ts (k + 1) = aroundTo ts k ++ [((k : Int) - (halfL ts : Int), ts)] := by unfold aroundTo; rw [List.range_succ, List.map_append]; rfl
theorem around_fil (xs : List Int) (k : Nat) : filTo xs k = aroundTo (appR xs) k := by
  unfold filTo aroundTo halfL
  rw [appR_length]
  rfl
theorem around_same (k : Nat) : sameTo k = aroundTo [16384] k := by
  unfold sameTo aroundTo
  refine List.map_congr_left fun i _ => ?_
  show ((i : Int), [16384]) = ((i : Int) - ((1 / 2 : Nat) : Int), [16384])
  rw [show ((1 / 2 : Nat) : Int) = 0 from rfl, Int.sub_zero]
theorem around_most (ts : List Int) {k : Nat} (h : 1 ≤ k) : mostF (aroundTo ts k) = (ts.length : Int) ∧ sizeF (aroundTo ts k) = sizeH ts :=
  most_all (L := aroundTo ts k) (ts := ts) (fun j hj => by rw [aroundTo_len] at hj; rw [aroundTo_at hj]) (by rw [aroundTo_len]; exact h)
set_option maxHeartbeats 4000000 in
set_option maxRecDepth 100000 in
theorem around_any (ts : List Int) (l : Nat) (hl : ts.length = l) (l0 : 1 ≤ l) (l1 : l ≤ 1048576) (hx : All64 ts) (n : Nat) (n0 : 1 ≤ n) (n1 : n ≤ 65536) (b cap : Nat) (w : World) (hr : RowAt .i64 w (some ⟨b, 0, none⟩) ts) :
    Calls Tryd.prog 24 #[.slice (some ⟨b, 0, none⟩) l cap, .int .i64 (n : Int)] w fun e w' => ∃ v, e = .returned v ∧ TabM w' v n (aroundTo ts n) ∧ Below w.heap.size w w' := by
  obtain ⟨zs, MK, MO⟩ := makeLn n (by omega)
  have CS := fun w hr => tsize_n l ts hl (some ⟨b, 0, none⟩) cap w hr hx (by omega)
  have blt : b < w.heap.size := by
    obtain ⟨b', off, e, c⟩ := hr.get (show 0 < ts.length by omega)
    simp only [Option.some.injEq, Addr.mk.injEq, and_true] at e
    obtain ⟨rfl, rfl⟩ := e
    exact cell_ltL c
  have HR := hide hr
  have HL := hide hl
  have HX := hide hx
  have HMO := hide MO
  have SI := (sizeH_in ts)
  obtain ⟨s, hs⟩ : ∃ s, sizeH ts = s := ⟨_, rfl⟩
  have HS := hide hs
  rw [hs] at CS SI
  obtain ⟨HF, hHF⟩ : ∃ q, l / 2 = q := ⟨_, rfl⟩
  have HH := hide (show halfL ts = HF by unfold halfL; rw [hl, hHF])
  clear hr hx hl MO hs
  go_enter Tryd.func24, Tryd.ntmps24
  go_upto_region 1 with fail
  go_cut [5] (fun t wx => t = .pointer (some ⟨w.heap.size + 1, 0, none⟩) ∧ wx = ((w.alloc (.cells zs 31)).alloc (.cells #[.int .i64 (n : Int), .slice (some ⟨w.heap.size, 0, none⟩) n n, .int .i64 (l : Int), .int .i64 s] 44)).drew)
  case first =>
    go_region_with (go_at_call 22; (with_reducible refine (CS _ (HR.out.below (by repeat (first | exact Below.refl _ _ | (with_reducible refine bt ?_ (by assumption)) | with_reducible refine bd ?_ | with_reducible refine ba ?_ _)))).mono ?_); rintro e w4 ⟨rfl, rfl⟩)
    all_goals (go_wp2_with fail; go_meet)
    all_goals exact ⟨rfl, rfl⟩
  case rest =>
    obtain ⟨rfl, hcut⟩ := hcut
    have F0 := Fill.start (g := w.heap.size + 1) ((HMO.out w w.heap.size (Nat.le_refl _)).alloc (.cells #[.int .i64 (n : Int), .slice (some ⟨w.heap.size, 0, none⟩) n n, .int .i64 (l : Int), .int .i64 s] 44)) (by omega)
    have F1 := hide (show Fill wc (w.heap.size + 1) w.heap.size n [] by rw [hcut]; exact F0.below (bd (Below.refl _ _)))
    have BA := hide (show Below w.heap.size w wc by rw [hcut]; exact bd (ba (ba (Below.refl _ _) _) _))
    have c0 : wc.cell? ⟨w.heap.size + 1, 0, none⟩ = some (.int .i64 (n : Int)) := by rw [hcut]; simp
    have c1 : wc.cell? ⟨w.heap.size + 1, 1, none⟩ = some (.slice (some ⟨w.heap.size, 0, none⟩) n n) := by rw [hcut]; simp
    have c2 : wc.cell? ⟨w.heap.size + 1, 2, none⟩ = some (.int .i64 (l : Int)) := by rw [hcut]; simp
    have c3 : wc.cell? ⟨w.heap.size + 1, 3, none⟩ = some (.int .i64 s) := by rw [hcut]; simp
    clear F0 hcut MK HMO CS
    obtain ⟨h, hh⟩ : ∃ h, w.heap.size = h := ⟨_, rfl⟩
    rw [hh] at F1 c0 c1 c2 c3 blt
    simp only [hh]
    obtain ⟨g, hg⟩ : ∃ g, h + 1 = g := ⟨_, rfl⟩
    rw [hg] at F1 c0 c1 c2 c3
    simp only [hg]
    have hgB : w.heap.size ≤ g := by omega
    have hhB : w.heap.size ≤ h := by omega
    have hne : h ≠ g := by omega
    have hne2 : g ≠ h := by omega
    have hbg : b ≠ g := by omega
    have hbh : b ≠ h := by omega
    have hhalf : (l : Int) / 2 = (HF : Int) := by omega
    have h0 : (HF : Int) ≤ 524288 := by omega
    have h1 : 0 ≤ (HF : Int) := by omega
    have HHH := hide hh
    clear hh hg hHF blt
    go_wp2
    clear hhalf
    go_loopw [25] (fun i wr => ∃ k : Nat, k ≤ n ∧ i = .int .i64 (k : Int) ∧ Hid (Fill wr g h n (aroundTo ts k)) ∧ wr.cell? ⟨g, 0, none⟩ = some (.int .i64 (n : Int)) ∧ wr.cell? ⟨g, 1, none⟩ = some (.slice (some ⟨h, 0, none⟩) n n) ∧ wr.cell? ⟨g, 2, none⟩ = some (.int .i64 (l : Int)) ∧ wr.cell? ⟨g, 3, none⟩ = some (.int .i64 s) ∧ Below w.heap.size w wr) (fun i _ => n - (intOf i).toNat)
    case atStart => exact ⟨0, by omega, rfl, F1, c0, c1, c2, c3, BA.out⟩
    case round =>
      clear F1 BA c0 c1 c2 c3
      obtain ⟨k, hkn, rfl, HF1, c0, c1, c2, c3, hb⟩ := hrel
      have HB := hide hb
      clear hb
      by_cases hkl : k < n
      · obtain ⟨⟨v0, r0⟩, y0, ⟨v1, r1⟩, y1⟩ := HF1.out.room hkl
        have F4 := HF1.out.more (aroundTo_len ts k) hkl ((k : Int) - (HF : Int)) ts HL.out hbg hbh (HR.out.below HB.out) (cap := cap)
        have es := aroundTo_snoc ts k
        rw [HH.out] at es
        rw [← es] at F4
        have B4 := bs (bs HB.out hhB (b := h) (o := k * 2) (.int .i64 ((k : Int) - (HF : Int)))) hhB (b := h) (o := k * 2 + 1) (.slice (some ⟨b, 0, none⟩) l cap)
        have E : ∀ j, ((wr.setCell ⟨h, k * 2, none⟩ (.int .i64 ((k : Int) - (HF : Int)))).setCell ⟨h, k * 2 + 1, none⟩ (.slice (some ⟨b, 0, none⟩) l cap)).cell? ⟨g, j, none⟩ = wr.cell? ⟨g, j, none⟩ := fun j => (set_apart (Or.inl hne)).trans (set_apart (Or.inl hne))
        have H4 := hide (And.intro F4 (And.intro ((E 0).trans c0) (And.intro ((E 1).trans c1) (And.intro ((E 2).trans c2) (And.intro ((E 3).trans c3) B4)))))
        clear F4 es B4 E HF1 c0 c2 c3
        go_wp2
        go_roundw
        case rel =>
          obtain ⟨F4, q0, q1, q2, q3, B4⟩ := H4.out
          exact ⟨k + 1, by omega, by go_num, F4, q0, q1, q2, q3, B4⟩
        case measure => simp [intOf]; omega
      · obtain rfl : k = n := by omega
        obtain ⟨em, es⟩ := around_most ts (k := k) n0
        rw [HL.out] at em
        rw [HS.out] at es
        have hT := hide (show TabM wr (.pointer (some ⟨g, 0, none⟩)) k (aroundTo ts k) from ⟨g, h, k, rfl, c0, by rw [aroundTo_len]; exact c1, by rw [em]; exact c2, by rw [es]; exact c3, HF1.out.lines⟩)
        clear em es HF1 c0 c1 c2 c3 hkl hkn
        go_wp2
        go_ret
        exact ⟨_, rfl, hT.out, HB.out⟩
theorem lit1 (w : World) (a : Int) (t : TypeId) : RowAt .i64 (w.alloc (.cells #[.int .i64 a] t)) (some ⟨w.heap.size, 0, none⟩) [a] := by
  refine Or.inr ⟨w.heap.size, 0, rfl, fun j hj => ?_⟩
  match j, hj with
  | 0, _ => simp
theorem same_c : SameC Tab := by
  intro n w n0 n1
  have S1 := tside_yes n (by omega) (by omega)
  have CA := fun b cap w hr => around_any [16384] 1 rfl (by omega) (by omega) (by intro j hj; match j, hj with | 0, _ => exact ⟨by show _ ≤ (16384 : Int); omega, by show (16384 : Int) ≤ _; omega⟩) n n0 n1 b cap w hr
  rw [← around_same] at CA
  have CT : ∀ (w' : World) (v : Value), TabM w' v n (sameTo n) → Tab w' v n (sameTo n) := fun w' v h => h.tab (same_ok n1) (same_moves n) (by rw [sameTo_len]; exact n0) (by rw [sameTo_len]; exact n1) (by omega) (by omega)
  have HT := hide CT
  clear CT
  generalize sameTo n = L at *
  go_enter Tryd.func14, Tryd.ntmps14
  go_wp2_with (first
    | (go_at_call 19; (with_reducible refine (S1 _).mono ?_); rintro e w1 ⟨rfl, rfl⟩)
    | (go_at_call 24; (with_reducible refine (CA _ _ _ (lit1 _ _ _)).mono ?_); rintro e w2 ⟨v, rfl, hm, b2⟩))
  go_ret
  exact ⟨_, rfl, HT.out _ _ hm, bt (ba (Below.refl _ _) _) b2⟩
theorem same_0 : Same0C := by
  intro n w h
  have S1 := tside_no n h
  clear h
  go_enter Tryd.func14, Tryd.ntmps14
  go_wp2_with (go_at_call 19; (with_reducible refine (S1 _).mono ?_); rintro e w1 ⟨rfl, rfl⟩)
  go_ret
  exact ⟨rfl, Below.refl _ _⟩
end Go.Proofs.YtjmjgokgjeankaaDoor

/- Sums of a kernel over steps: how little they can be. Plain arithmetic. -/
namespace Go.Proofs.YtjmjgokgjeankaaDoor


/-- The sum of so many, from one on. -/
def segF (F : Nat → Int) (a : Nat) : Nat → Int
  | 0 => 0
  | n + 1 => segF F a n + F (a + n)
theorem segF_cut (F : Nat → Int) (a n k : Nat) : segF F a (n + k) = segF F a n + segF F (a + n) k := by
  induction k with
  | zero => show segF F a n = segF F a n + 0; omega
  | succ k ih =>
    show segF F a (n + k) + F (a + (n + k)) = segF F a n + (segF F (a + n) k + F (a + n + k))
    rw [ih, Nat.add_assoc]; omega
theorem segF_low (F : Nat → Int) (a n : Nat) (c : Int) (h : ∀ i, a ≤ i → i < a + n → c ≤ F i) : (n : Int) * c ≤ segF F a n := by
  induction n with
  | zero => show ((0 : Nat) : Int) * c ≤ 0; simp
  | succ n ih =>
    have := ih (fun i h1 h2 => h i h1 (by omega))
    have h2 := h (a + n) (by omega) (by omega)
    have e : ((n + 1 : Nat) : Int) * c = (n : Int) * c + c := by rw [Int.natCast_add, Int.add_mul]; omega
    show _ ≤ segF F a n + F (a + n)
    omega
theorem segF_le (F G : Nat → Int) (a n : Nat) (h : ∀ i, a ≤ i → i < a + n → F i ≤ G i) : segF F a n ≤ segF G a n := by
  induction n with
  | zero => exact Int.le_refl _
  | succ n ih =>
    have := ih (fun i h1 h2 => h i h1 (by omega))
    have h2 := h (a + n) (by omega) (by omega)
    show segF F a n + F (a + n) ≤ segF G a n + G (a + n)
    omega
theorem segF_mul (F : Nat → Int) (c : Int) (a n : Nat) : segF (fun i => c * F i) a n = c * segF F a n := by
  induction n with
  | zero => show (0 : Int) = c * 0; omega
  | succ n ih =>
    show segF (fun i => c * F i) a n + c * F (a + n) = c * (segF F a n + F (a + n))
    rw [ih, Int.mul_add]
theorem segF_add (F G : Nat → Int) (a n : Nat) : segF (fun i => F i + G i) a n = segF F a n + segF G a n := by
  induction n with
  | zero => rfl
  | succ n ih =>
    show segF (fun i => F i + G i) a n + (F (a + n) + G (a + n)) = segF F a n + F (a + n) + (segF G a n + G (a + n))
    rw [ih]; omega
theorem segF_congr (F G : Nat → Int) (a n : Nat) (h : ∀ i, a ≤ i → i < a + n → F i = G i) : segF F a n = segF G a n := by
  induction n with
  | zero => rfl
  | succ n ih =>
    show segF F a n + F (a + n) = segF G a n + G (a + n)
    rw [ih (fun i h1 h2 => h i h1 (by omega)), h (a + n) (by omega) (by omega)]
/-- Backwards it is the same. -/
theorem segF_back (F : Nat → Int) (n : Nat) : segF (fun i => F (n - 1 - i)) 0 n = segF F 0 n := by
  induction n with
  | zero => rfl
  | succ n ih =>
    have e : segF (fun i => F (n + 1 - 1 - i)) 0 (1 + n) = segF (fun i => F (n + 1 - 1 - i)) 0 1 + segF (fun i => F (n + 1 - 1 - i)) (0 + 1) n := segF_cut _ 0 1 n
    rw [Nat.add_comm 1 n] at e
    rw [e]
    have e1 : segF (fun i => F (n + 1 - 1 - i)) (0 + 1) n = segF (fun i => F (n - 1 - i)) 0 n := by
      have sh : ∀ k, k ≤ n → segF (fun i => F (n + 1 - 1 - i)) (0 + 1) k = segF (fun i => F (n - 1 - i)) 0 k := by
        intro k hk
        induction k with
        | zero => rfl
        | succ k ihk =>
          show segF _ (0 + 1) k + F (n + 1 - 1 - (0 + 1 + k)) = segF _ 0 k + F (n - 1 - (0 + k))
          rw [ihk (by omega)]
          congr 2
          omega
      exact sh n (Nat.le_refl _)
    rw [e1, ih]
    show 0 + F (n + 1 - 1 - (0 + 0)) + segF F 0 n = segF F 0 n + F (0 + n)
    rw [show n + 1 - 1 - (0 + 0) = 0 + n by omega]
    omega
/-- Steps of H, from d on. -/
theorem stepE {d H : Int} (i : Nat) : d + ((i + 1 : Nat) : Int) * H = d + (i : Int) * H + H := by
  rw [Int.natCast_add, Int.add_mul]; omega
theorem ediv_sum {a b H : Int} (hH : 0 < H) : (a + b) / H ≤ a / H + b / H + 1 := by
  have ea := Int.mul_ediv_add_emod a H
  have eb := Int.mul_ediv_add_emod b H
  have a1 := Int.emod_lt_of_pos a hH
  have b1 := Int.emod_lt_of_pos b hH
  have : (a + b) / H < a / H + b / H + 2 := by
    refine Int.ediv_lt_of_lt_mul hH ?_
    have e : (a / H + b / H + 2) * H = H * (a / H) + H * (b / H) + 2 * H := by rw [Int.add_mul, Int.add_mul, Int.mul_comm, Int.mul_comm (b / H)]
    omega
  omega
/-- What is asked of a kernel: near a tent in the middle, hardly below nought beyond. -/
structure Kern (g : Int → Int) (Q R M eps bb tt : Int) : Prop where
  mid : ∀ p, 0 ≤ p → p ≤ Q → M * (Q - p) - eps * Q ≤ Q * g p
  low : ∀ p, Q < p → p < 2 * Q → p < R → -bb ≤ g p
  far : ∀ p, 2 * Q ≤ p → p < R → -tt ≤ g p
/-- How many of one side lie in a stretch. -/
theorem seg_count {d H X Y : Int} {k a b : Nat} (hH : 0 < H) (hk : (Y - X) / H ≤ (k : Int)) (hab : a ≤ b) (h : ∀ i, a ≤ i → i < b → X ≤ d + (i : Int) * H ∧ d + (i : Int) * H < Y) : b - a ≤ k + 1 := by
  by_cases g : a = b
  · omega
  · obtain ⟨l, rfl⟩ : ∃ l, b = a + l + 1 := ⟨b - a - 1, by omega⟩
    have h1 := (h a (by omega) (by omega)).1
    have h2 := (h (a + l) (by omega) (by omega)).2
    have e : ((a + l : Nat) : Int) * H = (a : Int) * H + (l : Int) * H := by rw [Int.natCast_add, Int.add_mul]
    have : (l : Int) ≤ (Y - X) / H := (Int.le_ediv_iff_mul_le hH).2 (by omega)
    omega
/-- Where steps pass a number. -/
theorem cut_at {d H : Int} (hH : 0 < H) (X : Int) (n : Nat) : ∃ A : Nat, A ≤ n ∧ (∀ i, i < A → d + (i : Int) * H ≤ X) ∧ (∀ i, A ≤ i → i < n → X < d + (i : Int) * H) := by
  have mono : ∀ i j : Nat, i ≤ j → (i : Int) * H ≤ (j : Int) * H := fun i j h => Int.mul_le_mul_of_nonneg_right (by omega) (by omega)
  induction n with
  | zero => exact ⟨0, by omega, fun i h => absurd h (Nat.not_lt_zero _), fun i _ h => absurd h (Nat.not_lt_zero _)⟩
  | succ n ih =>
    obtain ⟨A, a1, a2, a3⟩ := ih
    by_cases g : d + (n : Int) * H ≤ X
    · refine ⟨n + 1, by omega, fun i hi => ?_, fun i h1 h2 => by omega⟩
      have := mono i n (by omega)
      omega
    · refine ⟨A, by omega, a2, fun i h1 h2 => ?_⟩
      by_cases e : i = n
      · subst e; omega
      · exact a3 i h1 (by omega)
theorem count_low {F : Nat → Int} {a b k : Nat} {c : Int} (c0 : 0 ≤ c) (hab : a ≤ b) (hk : b - a ≤ k + 1) (h : ∀ i, a ≤ i → i < b → -c ≤ F i) : -(((k : Int) + 1) * c) ≤ segF F a (b - a) := by
  have s := segF_low F a (b - a) (-c) (fun i h1 h2 => h i h1 (by omega))
  have m : ((b - a : Nat) : Int) * c ≤ ((k : Int) + 1) * c := Int.mul_le_mul_of_nonneg_right (by omega) c0
  rw [Int.mul_neg] at s
  omega
/-- One side of a kernel's sum. -/
theorem half_low {g : Int → Int} {Q R M eps bb tt d H : Int} {k N : Nat} (K : Kern g Q R M eps bb tt) (hR : R ≤ 3 * Q) (hH : 0 < H) (d0 : 0 ≤ d) (dH : d ≤ H) (hk : (k : Int) = Q / H) (hkN : k ≤ N) (hN : ∀ i, i < N → d + (i : Int) * H < R)
    (e0 : 0 ≤ eps) (b0 : 0 ≤ bb) (t0 : 0 ≤ tt) (q0 : 0 < Q) (m0 : 0 ≤ M) :
    segF (fun i => M * (Q - (d + (i : Int) * H))) 0 k - ((k : Int) + 1) * (eps * Q + bb * Q + tt * Q) ≤ Q * segF (fun i => g (d + (i : Int) * H)) 0 N := by
  have kQ : (k : Int) * H ≤ Q := by rw [hk]; exact Int.ediv_mul_le Q (by omega)
  have mono : ∀ i j : Nat, i ≤ j → (i : Int) * H ≤ (j : Int) * H := fun i j h => Int.mul_le_mul_of_nonneg_right (by omega) (by omega)
  have p0 : ∀ i : Nat, 0 ≤ d + (i : Int) * H := fun i => by have := Int.mul_nonneg (show (0 : Int) ≤ (i : Int) by omega) (show 0 ≤ H by omega); omega
  have e0Q : 0 ≤ eps * Q := Int.mul_nonneg e0 (by omega)
  have b0Q : 0 ≤ bb * Q := Int.mul_nonneg b0 (by omega)
  have t0Q : 0 ≤ tt * Q := Int.mul_nonneg t0 (by omega)
  obtain ⟨A, a1, a2, a3⟩ := cut_at (d := d) hH Q N
  obtain ⟨C, c1, c2, c3⟩ := cut_at (d := d) hH (2 * Q - 1) N
  have kA : k ≤ A := by
    by_cases g : k ≤ A
    · exact g
    · have := a3 A (Nat.le_refl _) (by omega)
      have m1 := mono (A + 1) k (by omega)
      have e : ((A + 1 : Nat) : Int) * H = (A : Int) * H + H := by rw [Int.natCast_add, Int.add_mul]; omega
      omega
  have Ak : A ≤ k + 1 := by
    by_cases g : A ≤ k + 1
    · exact g
    · have := a2 (k + 1) (by omega)
      have : ((k + 1 : Nat) : Int) ≤ Q / H := (Int.le_ediv_iff_mul_le hH).2 (by omega)
      omega
  have AC : A ≤ C := by
    by_cases g : A ≤ C
    · exact g
    · have := c3 C (Nat.le_refl _) (by omega)
      have := a2 C (by omega)
      omega
  have CA : C - A ≤ k + 1 := seg_count (d := d) (H := H) (X := Q + 1) (Y := 2 * Q) hH (by
    rw [hk]; exact Int.ediv_le_ediv hH (by omega)) AC (fun i h1 h2 => by
      have := a3 i h1 (by omega)
      have := c2 i h2
      omega)
  have NC : N - C ≤ k + 1 := seg_count (d := d) (H := H) (X := 2 * Q) (Y := R) hH (by
    rw [hk]; exact Int.ediv_le_ediv hH (by omega)) c1 (fun i h1 h2 => by
      have := c3 i h1 h2
      have := hN i h2
      omega)
  rw [← segF_mul]
  have cut1 := segF_cut (fun i => Q * g (d + (i : Int) * H)) 0 A (N - A)
  have cut2 := segF_cut (fun i => Q * g (d + (i : Int) * H)) A (C - A) (N - C)
  rw [show A + (N - A) = N by omega, Nat.zero_add] at cut1
  rw [show C - A + (N - C) = N - A by omega, show A + (C - A) = C by omega] at cut2
  rw [cut1, cut2]
  have s1 : segF (fun i => M * (Q - (d + (i : Int) * H))) 0 A - ((k : Int) + 1) * (eps * Q) ≤ segF (fun i => Q * g (d + (i : Int) * H)) 0 A := by
    have h := segF_le (fun i => M * (Q - (d + (i : Int) * H)) + -(eps * Q)) (fun i => Q * g (d + (i : Int) * H)) 0 A (fun i _ h2 => by
      have := K.mid (d + (i : Int) * H) (p0 i) (a2 i (by omega))
      show M * (Q - (d + (i : Int) * H)) + -(eps * Q) ≤ Q * g (d + (i : Int) * H)
      omega)
    rw [segF_add] at h
    have := count_low (F := fun _ => -(eps * Q)) (a := 0) (b := A) (k := k) e0Q (by omega) (by omega) (fun i _ _ => Int.le_refl _)
    rw [Nat.sub_zero] at this
    omega
  have s2 : segF (fun i => M * (Q - (d + (i : Int) * H))) 0 k ≤ segF (fun i => M * (Q - (d + (i : Int) * H))) 0 A := by
    have cut3 := segF_cut (fun i => M * (Q - (d + (i : Int) * H))) 0 k (A - k)
    rw [show k + (A - k) = A by omega, Nat.zero_add] at cut3
    have := segF_low (fun i => M * (Q - (d + (i : Int) * H))) k (A - k) 0 (fun i h1 h2 => by
      have := a2 i (by omega)
      exact Int.mul_nonneg m0 (by omega))
    rw [Int.mul_zero] at this
    omega
  have s3 := count_low (F := fun i => Q * g (d + (i : Int) * H)) (k := k) b0Q AC CA (fun i h1 h2 => by
    have x := K.low (d + (i : Int) * H) (a3 i h1 (by omega)) (by have := c2 i h2; omega) (hN i (by omega))
    have y := Int.mul_le_mul_of_nonneg_left x (show 0 ≤ Q by omega)
    rw [Int.mul_neg, Int.mul_comm Q bb] at y
    exact y)
  have s4 := count_low (F := fun i => Q * g (d + (i : Int) * H)) (k := k) t0Q c1 NC (fun i h1 h2 => by
    have x := K.far (d + (i : Int) * H) (by have := c3 i h1 h2; omega) (hN i h2)
    have y := Int.mul_le_mul_of_nonneg_left x (show 0 ≤ Q by omega)
    rw [Int.mul_neg, Int.mul_comm Q tt] at y
    exact y)
  rw [Int.mul_add, Int.mul_add]
  omega
/-- The tents of both sides. -/
theorem tents {M Q d H : Int} (k : Nat) : segF (fun i => M * (Q - (d + (i : Int) * H))) 0 k + segF (fun i => M * (Q - (H - d + (i : Int) * H))) 0 k = M * (2 * (k : Int) * Q - (k : Int) * (k : Int) * H) := by
  induction k with
  | zero => show (0 : Int) + 0 = M * _; simp
  | succ k ih =>
    show segF _ 0 k + M * (Q - (d + ((0 + k : Nat) : Int) * H)) + (segF _ 0 k + M * (Q - (H - d + ((0 + k : Nat) : Int) * H))) = _
    rw [Nat.zero_add]
    have e : ((k + 1 : Nat) : Int) = (k : Int) + 1 := by omega
    rw [e]
    generalize (k : Int) = x at *
    grind
theorem both_low {g : Int → Int} {Q R M eps bb tt d H : Int} {k N N' : Nat} (K : Kern g Q R M eps bb tt) (hR : R ≤ 3 * Q) (hH : 0 < H) (d0 : 0 ≤ d) (dH : d ≤ H) (hk : (k : Int) = Q / H) (hkN : k ≤ N) (hkN' : k ≤ N') (hN : ∀ i, i < N → d + (i : Int) * H < R) (hN' : ∀ i, i < N' → H - d + (i : Int) * H < R)
    (e0 : 0 ≤ eps) (b0 : 0 ≤ bb) (t0 : 0 ≤ tt) (q0 : 0 < Q) (m0 : 0 ≤ M) :
    M * (k : Int) - 2 * (((k : Int) + 1) * (eps + bb + tt)) ≤ segF (fun i => g (d + (i : Int) * H)) 0 N + segF (fun i => g (H - d + (i : Int) * H)) 0 N' := by
  have h1 := half_low K hR hH d0 dH hk hkN hN e0 b0 t0 q0 m0
  have h2 := half_low (d := H - d) K hR hH (by omega) (by omega) hk hkN' hN' e0 b0 t0 q0 m0
  have t := tents (M := M) (Q := Q) (d := d) (H := H) k
  have kQ : (k : Int) * H ≤ Q := by rw [hk]; exact Int.ediv_mul_le Q (by omega)
  generalize segF (fun i => M * (Q - (d + (i : Int) * H))) 0 k = t1 at *
  generalize segF (fun i => M * (Q - (H - d + (i : Int) * H))) 0 k = t2 at *
  generalize segF (fun i => g (d + (i : Int) * H)) 0 N = s1 at *
  generalize segF (fun i => g (H - d + (i : Int) * H)) 0 N' = s2 at *
  have k0 : (0 : Int) ≤ (k : Int) := by omega
  generalize (k : Int) = x at *
  have a : x * (x * H) ≤ x * Q := Int.mul_le_mul_of_nonneg_left kQ k0
  have b : M * (x * Q) ≤ M * (2 * x * Q - x * x * H) := Int.mul_le_mul_of_nonneg_left (by
    have e1 : 2 * x * Q = x * Q + x * Q := by rw [Int.mul_assoc]; omega
    have e2 : x * x * H = x * (x * H) := Int.mul_assoc ..
    omega) m0
  have c : Q * (M * x - 2 * ((x + 1) * (eps + bb + tt))) ≤ Q * (s1 + s2) := by
    have e3 : Q * (M * x - 2 * ((x + 1) * (eps + bb + tt))) = M * (x * Q) - ((x + 1) * (eps * Q + bb * Q + tt * Q) + (x + 1) * (eps * Q + bb * Q + tt * Q)) := by grind
    have e4 : Q * (s1 + s2) = Q * s1 + Q * s2 := Int.mul_add ..
    omega
  exact Int.le_of_mul_le_mul_left c q0
end Go.Proofs.YtjmjgokgjeankaaDoor
