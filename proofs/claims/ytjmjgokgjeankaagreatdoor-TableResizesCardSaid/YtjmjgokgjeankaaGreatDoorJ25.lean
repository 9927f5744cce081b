/- Parts, joined. -/
import Derived.Test.YtjmjgokgjeankaaGreatDoorJ20
import Derived.Test.YtjmjgokgjeankaaGreatDoorJ24
/- Lines of a table: what a resize and a filter make, and what the document's calls answer. -/
namespace Go.Proofs.YtjmjgokgjeankaaGreatDoor
open Go.RowKit


/-- An output sample's window, and its raw weights. -/
def startR (f n m i : Int) : Int := lowW f n m i + 1
def countR (f n m i : Int) : Nat := (topW f n m i - lowW f n m i).toNat
def rowI (f n m i : Int) : List Int := (List.range (countR f n m i)).map fun k : Nat => weightR f n m i (startR f n m i + (k : Int))
theorem rowI_len (f n m i : Int) : (rowI f n m i).length = countR f n m i := by unfold rowI; rw [List.length_map, List.length_range]
theorem rowI_row (f n m i : Int) : rowR f n m i (startR f n m i) (countR f n m i) = (rowI f n m i).map (Value.int .i64) := by
  unfold rowR rowI; rw [List.map_map]; rfl
theorem row_win {f n m i : Int} (h : MayP f n m i) : IsWin f n m i (startR f n m i) (countR f n m i) := (win_closed h).1
theorem row_ends {f n m i : Int} (h : MayP f n m i) : -262144 < startR f n m i ∧ startR f n m i < 262144 ∧ 1 ≤ countR f n m i ∧ countR f n m i ≤ 524288 := by
  obtain ⟨_, a, b, c⟩ := win_closed h
  unfold startR countR
  omega
theorem weightR_64 (f n m i j : Int) : -9223372036854775808 ≤ weightR f n m i j ∧ weightR f n m i j ≤ 9223372036854775807 := by
  unfold weightR
  split
  · exact divF_in _ _
  · split
    · unfold keysF
      split
      · split <;> exact divF_in _ _
      · omega
    · unfold lanczosF
      split
      · unfold shiftF
        rw [if_neg (by decide), if_neg (by decide)]
        exact shift_in 9 (mulShiftF_in _ _ _).1 (mulShiftF_in _ _ _).2
      · omega
theorem rowI_64 (f n m i : Int) : All64 (rowI f n m i) := by
  intro j hj
  rw [rowI_len] at hj
  unfold rowI
  rw [List.getD_eq_getElem?_getD, List.getElem?_map, List.getElem?_range hj]
  exact weightR_64 _ _ _ _ _
theorem rowI_own {w : World} {base : Nat} {v : Value} {f n m i : Int} (h : w.ownsRow base 2 1 v (countR f n m i) (rowR f n m i (startR f n m i) (countR f n m i))) : OwnI .i64 2 w base v (rowI f n m i) := by
  unfold OwnI
  rw [rowI_len, ← rowI_row]
  exact h
/-- A line of a resize. -/
def lineR (f n m : Int) (i : Nat) : Int × List Int := (startR f n m i, appR (rowI f n m i))
def codeR (f n m : Int) (i : Nat) : Int := appCode (rowI f n m i)
/-- The first code of so many lines. -/
def firstCode (f n m : Int) : Nat → Int
  | 0 => 0
  | i + 1 => if firstCode f n m i = 0 then codeR f n m i else firstCode f n m i
def resB (f n m : Int) : Bool := decide (0 ≤ f) && decide (f ≤ 2) && sideB n && sideB m
theorem resB_iff (f n m : Int) : resB f n m = true ↔ 0 ≤ f ∧ f ≤ 2 ∧ (1 ≤ n ∧ n ≤ 65536) ∧ (1 ≤ m ∧ m ≤ 65536) := by
  unfold resB
  rw [Bool.and_eq_true, Bool.and_eq_true, Bool.and_eq_true, sideB_iff, sideB_iff, decide_eq_true_eq, decide_eq_true_eq, and_assoc, and_assoc]
def resCode (f n m : Int) : Int := if resB f n m = true then firstCode f n m m.toNat else 6
def linesTo (f n m : Int) (k : Nat) : List (Int × List Int) := (List.range k).map (lineR f n m)
theorem linesTo_snoc (f n m : Int) (k : Nat) : linesTo f n m (k + 1) = linesTo f n m k ++ [lineR f n m k] := by unfold linesTo; rw [List.range_succ, List.map_append]; rfl
theorem linesTo_len (f n m : Int) (k : Nat) : (linesTo f n m k).length = k := by unfold linesTo; rw [List.length_map, List.length_range]
theorem firstCode_stays {f n m : Int} {a : Nat} (h : firstCode f n m a ≠ 0) {b : Nat} (hb : a ≤ b) : firstCode f n m b = firstCode f n m a := by
  obtain ⟨d, rfl⟩ : ∃ d, b = a + d := ⟨b - a, by omega⟩
  induction d with
  | zero => rfl
  | succ d ih =>
    have e := ih (by omega)
    have s : firstCode f n m (a + (d + 1)) = if firstCode f n m (a + d) = 0 then codeR f n m (a + d) else firstCode f n m (a + d) := rfl
    rw [s, if_neg (by rw [e]; exact h), e]
theorem firstCode_code {f n m : Int} {a : Nat} (h : firstCode f n m a = 0) {j : Nat} (hj : j < a) : codeR f n m j = 0 ∧ firstCode f n m j = 0 := by
  have h0 : ∀ b, b ≤ a → firstCode f n m b = 0 := by
    intro b hb
    by_cases g : firstCode f n m b = 0
    · exact g
    · rw [firstCode_stays g hb] at h; exact absurd h g
  have e := h0 (j + 1) (by omega)
  have e1 := h0 j (by omega)
  unfold firstCode at e
  rw [if_pos e1] at e
  exact ⟨e, e1⟩
theorem refrow_line (f n m i : Int) (h : MayP f n m i) (w : World) :
    Calls Tryz.prog 22 #[.int .i64 f, .int .i64 n, .int .i64 m, .int .i64 i] w fun e w' => ∃ v, e = .returned (.tuple #[.int .i64 (startR f n m i), v]) ∧ OwnI .i64 2 w' w.heap.size v (rowI f n m i) ∧ Below w.heap.size w w' := by
  refine (refrow_walk f n m i h w).mono ?_
  rintro e w1 ⟨a, c, v, hwin, _, _, _, rfl, ho, b⟩
  obtain ⟨rfl, rfl⟩ := win_one h.2.2.2.2.1 hwin (row_win h)
  exact ⟨v, rfl, rowI_own ho, b⟩
theorem app_own_n (n : Nat) (xs : List Int) (hn : xs.length = n) (ad : Option Addr) (cap : Nat) (w : World) (hr : RowAt .i64 w ad xs) (hx : All64 xs) (hl : n ≤ 9223372036854775807) :
    Calls Tryz.prog 23 #[.slice ad n cap] w fun e w' => ∃ v, e = .returned (.tuple #[v, .int .i64 (appCode xs)]) ∧ (appCode xs = 0 → OwnI .i64 2 w' w.heap.size v (appR xs)) ∧ Below w.heap.size w w' := by
  subst hn
  exact app_own xs ad cap w hr hx hl
/-- One line more, of whatever code. -/
theorem line_more (f n m : Int) (k : Nat) : ∃ (st : Int) (cn : Nat) (xs : List Int) (cd : Int), startR f n m k = st ∧ countR f n m k = cn ∧ rowI f n m k = xs ∧ appCode xs = cd := ⟨_, _, _, _, rfl, rfl, rfl, rfl⟩
theorem own_slice_one (v : Value) (x : Int) : ∀ u ∈ [Value.int .i64 x, v], v.oneCell' = true → u.oneCell' = true := by
  intro u hu hv
  simp at hu
  rcases hu with rfl | rfl
  · rfl
  · exact hv
theorem new_line (w : World) (x : Int) (v : Value) (t : TypeId) : ∀ j u, [Value.int .i64 x, v][j]? = some u → (w.alloc (.cells #[.int .i64 x, v] t)).cell? ((⟨w.heap.size, 0, none⟩ : Addr).add j) = some u := by
  intro j u h
  match j, h with
  | 0, h => simp at h; subst h; simp [Addr.add]
  | 1, h => simp at h; subst h; simp [Addr.add]
theorem OwnI.oneCell {k : IntKind} {T : TypeId} {w : World} {base : Nat} {v : Value} {xs : List Int} (h : OwnI k T w base v xs) : v.oneCell' = true := by
  obtain ⟨ad, cap, rfl, _⟩ := h.form
  rfl
set_option maxHeartbeats 2000000 in
set_option maxRecDepth 100000 in
theorem refresize_ok (f n : Int) (m : Nat) (f0 : 0 ≤ f) (f1 : f ≤ 2) (n0 : 1 ≤ n) (n1 : n ≤ 65536) (m0 : 1 ≤ m) (m1 : m ≤ 65536) (w : World) :
    Calls Tryz.prog 7 #[.int .i64 f, .int .i64 n, .int .i64 (m : Int)] w fun e w' => ∃ v, e = .returned (.tuple #[v, .int .i64 (firstCode f n m m)]) ∧ (firstCode f n m m = 0 → OwnLs 56 w' w.heap.size v (linesTo f n m m)) ∧ (firstCode f n m m ≠ 0 → v = .slice none 0 0) ∧ Below w.heap.size w w' := by
  have S1 := refside_yes n n0 n1
  have S2 := refside_yes (m : Int) (by omega) (by omega)
  obtain ⟨i0, hi, hz0, hz1, hz2⟩ := info_parts infoLnR
  obtain ⟨cm, hcd⟩ : ∃ cm, firstCode f n m m = cm := ⟨_, rfl⟩
  rw [hcd]
  have HCD := hide hcd
  clear hcd
  go_enter Tryz.func7, Tryz.ntmps7
  go_wp2_with (first
    | (go_at_call 21; (with_reducible refine (S1 _).mono ?_); rintro e w1 ⟨rfl, rfl⟩)
    | (go_at_call 21; (with_reducible refine (S2 _).mono ?_); rintro e w1 ⟨rfl, rfl⟩))
  clear S1 S2
  go_loopw [8, 31] (fun u i wr => ∃ k : Nat, k ≤ m ∧ i = .int .i64 (k : Int) ∧ Hid (firstCode f n m k = 0) ∧ OwnLs 56 wr w.heap.size u (linesTo f n m k) ∧ Below w.heap.size w wr) (fun _ i _ => m - (intOf i).toNat)
  case atStart => exact ⟨0, by omega, rfl, rfl, OwnLs.nil _ _ _, Below.refl _ _⟩
  case round =>
    obtain ⟨k, hk, rfl, hf, ho, hb⟩ := hrel
    have HO := hide ho
    have HB := hide hb
    clear ho hb
    by_cases hlt : k < m
    · have hM : MayP f n m k := ⟨f0, f1, n0, n1, by omega, by omega, by omega, by omega⟩
      have CR := refrow_line f n m k hM
      obtain ⟨s0, s1, c0, c1⟩ := row_ends hM
      clear hM
      have hx := rowI_64 f n m k
      have hln := rowI_len f n m k
      have hc1 : firstCode f n m (k + 1) = appCode (rowI f n m k) := if_pos hf.out
      have hlr : lineR f n m k = (startR f n m k, appR (rowI f n m k)) := rfl
      have HLS := hide (linesTo_snoc f n m k)
      have hll := linesTo_len f n m k
      obtain ⟨st, cn, xs, cd, e1, e2, e3, e4⟩ := line_more f n m k
      rw [e1, e3] at CR hlr
      rw [e1] at s0 s1
      rw [e2] at c0 c1 hln
      rw [e3] at hx hln hc1
      rw [e4] at hc1
      have HX := hide hx
      have HLN := hide hln
      have HC1 := hide hc1
      have HLR := hide hlr
      have HLL := hide hll
      have CA : ∀ (ad : Option Addr) (cap : Nat) (w : World), RowAt .i64 w ad xs → Calls Tryz.prog 23 #[.slice ad cn cap] w fun e w' => ∃ v, e = .returned (.tuple #[v, .int .i64 cd]) ∧ (cd = 0 → OwnI .i64 2 w' w.heap.size v (appR xs)) ∧ Below w.heap.size w w' := by
        intro ad cap w hr
        have := app_own_n cn xs hln ad cap w hr hx (by omega)
        rw [e4] at this
        exact this
      clear e1 e2 e3 e4 hx hln hc1 hlr hll
      by_cases hz : cd = 0
      · subst hz
        obtain ⟨us, hu, how, hin⟩ := HO.out
        obtain ⟨an, han⟩ : ∃ an, (appR xs).length = an := ⟨_, rfl⟩
        have HAN := hide han
        have HU := hide hu
        have HOW := hide how
        have HIN := hide hin
        clear hu how hin HO han
        go_wp2_with (first
          | (go_at_call 22; (with_reducible refine (CR _).mono ?_); rintro e w2 ⟨v, rfl, ho1, b2⟩; obtain ⟨ad, cap, rfl, hrow, _⟩ := ho1.formn HLN.out)
          | (go_at_call 23; (with_reducible refine (CA _ _ _ hrow).mono ?_); rintro e w3 ⟨v2, rfl, ho2, b3⟩; have ho3 := hide (ho2 (by trivial)); clear ho2; obtain ⟨ad2, cap2, rfl, _, _⟩ := ho3.out.formn HAN.out)
          | (at_builtin; refine wpList_append_own _ rfl _ _ 28 rfl w.heap.size 56 i0 (.agg #[.int .i64 0, .slice none 0 0]) 2 32 Tryz.underlying28 hi hz0 hz1 hz2 rfl (by decide) _ _ _ rfl (World.ownsRow.alloc (row_kept HOW.out (bt b2 b3)) _) ⟨w3.heap.size, 0, none⟩ 1 1 [.int .i64 st, .slice ad2 an cap2] rfl rfl (new_line _ _ _ _) (by intro u hu; simp at hu; rcases hu with rfl | rfl <;> rfl) (by rw [HLL.out]; unfold maxLen; omega) (by rw [HLL.out]; omega) (by have := HB.out.size; have := b2.size; have := b3.size; simp; omega) ?_; intro u' w4 own4 grow4 _))
        have R := hide (OwnLs.more (x := (st, appR xs)) (by decide) (bt (bt HB.out b2) b3) HU.out (row_kept HOW.out (bt b2 b3)) (fun j hj => (HIN.out j hj).below (bt b2 b3)) (ho3.out.mono (by have := HB.out.size; have := b2.size; omega)) own4 grow4)
        clear own4 grow4 ho3 ho1 hrow
        go_wp2
        go_roundw
        case rel => exact ⟨k + 1, by omega, by go_num, HC1.out, by rw [HLS.out, HLR.out]; exact R.out.1, R.out.2⟩
        case measure => simp [intOf]; omega
      · have hzb : (cd != 0) = true := by simpa using hz
        have hend : firstCode f n m m = cd := (firstCode_stays (by rw [HC1.out]; exact hz) (show k + 1 ≤ m by omega)).trans HC1.out
        have hcc : cm = cd := HCD.out.symm.trans hend
        subst hcc
        have HZ := hide hz
        clear hend hz HC1
        go_wp2_with (first
          | (go_at_call 22; (with_reducible refine (CR _).mono ?_); rintro e w2 ⟨v, rfl, ho1, b2⟩; obtain ⟨ad, cap, rfl, hrow, _⟩ := ho1.formn HLN.out)
          | (go_at_call 23; (with_reducible refine (CA _ _ _ hrow).mono ?_); rintro e w3 ⟨v2, rfl, ho2, b3⟩))
        exact bodyPost_ret (v := .tuple #[.slice none 0 0, .int .i64 cm]) (by simp [results, Tryz.results7, go_sem]) rfl ⟨.slice none 0 0, rfl, (by intro g; exact absurd g HZ.out), (by first | trivial | (intro _; rfl)), bt (bt HB.out b2) b3⟩
    · obtain rfl : k = m := by omega
      have hcc : cm = 0 := HCD.out.symm.trans hf.out
      subst hcc
      clear HCD hf hlt hk
      go_wp2
      exact bodyPost_ret (v := .tuple #[u8, .int .i64 0]) (by simp [results, Tryz.results7, go_sem]) rfl (by first | exact ⟨u8, rfl, HO.out, HB.out⟩ | exact ⟨u8, rfl, (fun _ => HO.out), (fun g => absurd rfl g), HB.out⟩)
theorem refresize_bad (f n m : Int) (h : resB f n m = false) (w : World) :
    Calls Tryz.prog 7 #[.int .i64 f, .int .i64 n, .int .i64 m] w fun e w' => e = .returned (.tuple #[.slice none 0 0, .int .i64 6]) ∧ w = w' := by
  have hb := fun g => Bool.false_ne_true (h.symm.trans ((resB_iff f n m).2 g))
  clear h
  by_cases a1 : f < 0
  · clear hb
    go_enter Tryz.func7, Tryz.ntmps7
    go_wp2
    exact bodyPost_ret (v := .tuple #[.slice none 0 0, .int .i64 6]) (by simp [results, Tryz.results7, go_sem]) rfl ⟨rfl, rfl⟩
  by_cases a2 : 2 < f
  · clear hb
    go_enter Tryz.func7, Tryz.ntmps7
    go_wp2
    exact bodyPost_ret (v := .tuple #[.slice none 0 0, .int .i64 6]) (by simp [results, Tryz.results7, go_sem]) rfl ⟨rfl, rfl⟩
  have f0 : 0 ≤ f := by omega
  have f1 : f ≤ 2 := by omega
  clear a1 a2
  by_cases a3 : 1 ≤ n ∧ n ≤ 65536
  · have S1 := refside_yes n a3.1 a3.2
    have a4 : m < 1 ∨ 65536 < m := by
      by_cases g : m < 1
      · exact Or.inl g
      · by_cases g2 : 65536 < m
        · exact Or.inr g2
        · exact absurd ⟨f0, f1, a3, by omega, by omega⟩ hb
    have S2 := refside_no m a4
    clear hb a3 a4
    go_enter Tryz.func7, Tryz.ntmps7
    go_wp2_with (first
      | (go_at_call 21; (with_reducible refine (S1 _).mono ?_); rintro e w1 ⟨rfl, rfl⟩)
      | (go_at_call 21; (with_reducible refine (S2 _).mono ?_); rintro e w1 ⟨rfl, rfl⟩))
    exact bodyPost_ret (v := .tuple #[.slice none 0 0, .int .i64 6]) (by simp [results, Tryz.results7, go_sem]) rfl ⟨rfl, rfl⟩
  · have S1 := refside_no n (by omega)
    clear hb a3
    go_enter Tryz.func7, Tryz.ntmps7
    go_wp2_with (go_at_call 21; (with_reducible refine (S1 _).mono ?_); rintro e w1 ⟨rfl, rfl⟩)
    exact bodyPost_ret (v := .tuple #[.slice none 0 0, .int .i64 6]) (by simp [results, Tryz.results7, go_sem]) rfl ⟨rfl, rfl⟩
theorem refresize_any (f n m : Int) (w : World) :
    Calls Tryz.prog 7 #[.int .i64 f, .int .i64 n, .int .i64 m] w fun e w' => ∃ v, e = .returned (.tuple #[v, .int .i64 (resCode f n m)]) ∧ (resCode f n m = 0 → OwnLs 56 w' w.heap.size v (linesTo f n m m.toNat)) ∧ (resCode f n m ≠ 0 → v = .slice none 0 0) ∧ Below w.heap.size w w' := by
  cases h : resB f n m with
  | false =>
    have e : resCode f n m = 6 := by unfold resCode; rw [h]; rfl
    rw [e]
    refine (refresize_bad f n m h w).mono ?_
    rintro e w1 ⟨rfl, rfl⟩
    exact ⟨_, rfl, (fun g => absurd g (by decide)), (fun _ => rfl), Below.refl _ _⟩
  | true =>
    have e : resCode f n m = firstCode f n m m.toNat := by unfold resCode; rw [h]; rfl
    rw [e]
    obtain ⟨f0, f1, ⟨n0, n1⟩, m0, m1⟩ := (resB_iff f n m).1 h
    obtain ⟨k, rfl⟩ : ∃ k : Nat, m = (k : Int) := ⟨m.toNat, by omega⟩
    rw [Int.toNat_natCast]
    refine (refresize_ok f n k f0 f1 n0 n1 (by omega) (by omega) w).mono ?_
    rintro e w1 ⟨v, rfl, o, z, b⟩
    exact ⟨v, rfl, o, z, b⟩
/-! ### A filter -/
def filCode (xs : List Int) (n : Int) : Int := if sideB n = true then (if xs.length % 2 = 0 then 7 else appCode xs) else 6
def filLine (xs : List Int) (i : Nat) : Int × List Int := ((i : Int) - ((xs.length / 2 : Nat) : Int), appR xs)
def filTo (xs : List Int) (k : Nat) : List (Int × List Int) := (List.range k).map (filLine xs)
theorem filTo_snoc (xs : List Int) (k : Nat) : filTo xs (k + 1) = filTo xs k ++ [filLine xs k] := by unfold filTo; rw [List.range_succ, List.map_append]; rfl
theorem filTo_len (xs : List Int) (k : Nat) : (filTo xs k).length = k := by unfold filTo; rw [List.length_map, List.length_range]
end Go.Proofs.YtjmjgokgjeankaaGreatDoor

/- Tables: a side that stays as it is. Plain arithmetic but for its imports. -/
namespace Go.Proofs.YtjmjgokgjeankaaGreatDoor
open Go.RowKit


theorem cen_same (n i : Int) : cenR n n i = 2 * (i * n) := by
  unfold cenR; rw [Int.add_mul, Int.mul_assoc, Int.one_mul]; omega
theorem same_quot (n i : Int) : 2 * n * i = 2 * (i * n) := by rw [Int.mul_assoc, Int.mul_comm n i]
theorem same_low (n i : Int) (n0 : 1 ≤ n) : lowW 0 n n i = i - 1 ∧ topW 0 n n i = i ∧ lowW 1 n n i = i - 2 ∧ topW 1 n n i = i + 1 := by
  have e := same_quot n i
  have s0 : sprR 0 n n = 2 * n := by unfold sprR; rw [if_pos rfl]; omega
  have s1 : sprR 1 n n = 4 * n := by unfold sprR; rw [if_neg (by omega), if_neg (by omega)]; omega
  unfold lowW topW
  rw [cen_same, s0, s1]
  refine ⟨div_of (r := 0) ?_ (by omega) (by omega), div_of (r := 2 * n - 1) ?_ (by omega) (by omega), div_of (r := 0) ?_ (by omega) (by omega), div_of (r := 2 * n - 1) ?_ (by omega) (by omega)⟩
  · rw [Int.mul_sub, e]; omega
  · rw [e]; omega
  · rw [Int.mul_sub, e]; omega
  · rw [Int.mul_add, e]; omega
theorem box_one {n i : Int} (n0 : 1 ≤ n) : weightR 0 n n i i = 1073741824 := by
  unfold weightR
  rw [if_pos rfl]
  have e : min ((i + 1) * n) ((i + 1) * n) - max (i * n) (i * n) = n := by rw [Int.add_mul, Int.one_mul]; omega
  rw [e, Int.mul_comm]
  exact divF_exact (by omega) (by omega) (by omega)
theorem frac_same (n i j : Int) : fracP n n i j = 2 * ((j - i) * n) := by
  rw [frac_at, Int.sub_mul]; omega
theorem fracQ_same (n : Int) : fracQ n n = 2 * n := by unfold fracQ; rw [if_neg (by omega)]
theorem cubic_mid {n i : Int} (n0 : 1 ≤ n) (n1 : n ≤ 65536) : weightR 1 n n i i = 1073741824 := by
  unfold weightR
  rw [if_neg (by omega), if_pos rfl, frac_same, fracQ_same]
  have e : 2 * ((i - i) * n) = 0 := by rw [Int.sub_self, Int.zero_mul]; rfl
  rw [e]
  unfold keysF
  rw [if_pos (by omega), show absI 0 = 0 from rfl, if_pos (by omega)]
  have e2 : lowK 0 (2 * n) * 1073741824 = 1073741824 * (2 * (2 * n * (2 * n) * (2 * n))) := by
    unfold lowK
    simp only [Int.mul_zero, Int.zero_mul, Int.zero_add, Int.sub_self]
    rw [Int.mul_comm]
  rw [e2]
  have h : 0 < 2 * n * (2 * n) * (2 * n) := Int.mul_pos (Int.mul_pos (by omega) (by omega)) (by omega)
  exact divF_exact (by omega) (by omega) (by omega)
theorem keys_one {q : Int} (q0 : 1 ≤ q) (q1 : q ≤ 262144) : keysF q q = 0 := by
  unfold keysF
  rw [if_pos (by omega), absI_pos (by omega), if_neg (by omega)]
  have e : highK q q = 0 := by
    unfold highK
    rw [show 5 * (q * q) * q = 5 * (q * q * q) by rw [Int.mul_assoc], show 8 * q * (q * q) = 8 * (q * q * q) by rw [Int.mul_assoc, Int.mul_assoc]]
    omega
  rw [e, Int.zero_mul]
  have h : 0 < q * q * q := Int.mul_pos (Int.mul_pos (by omega) (by omega)) (by omega)
  have := divF_exact (a := 0) (d := 2 * (q * q * q)) (by omega) (by omega) (by omega)
  rw [Int.zero_mul] at this
  exact this
theorem cubic_side {n i : Int} (n0 : 1 ≤ n) (n1 : n ≤ 65536) : weightR 1 n n i (i + 1) = 0 ∧ weightR 1 n n i (i - 1) = 0 := by
  have wk : ∀ j, weightR 1 n n i j = keysF (fracP n n i j) (fracQ n n) := fun j => by unfold weightR; rw [if_neg (by omega), if_pos rfl]
  rw [wk, wk, frac_same, frac_same, fracQ_same]
  have e1 : 2 * ((i + 1 - i) * n) = 2 * n := by rw [show i + 1 - i = 1 by omega, Int.one_mul]
  have e2 : 2 * ((i - 1 - i) * n) = -(2 * n) := by rw [show i - 1 - i = -1 by omega, Int.neg_mul, Int.one_mul]; omega
  rw [e1, e2, keysF_neg]
  exact ⟨keys_one (by omega) (by omega), keys_one (by omega) (by omega)⟩
theorem row_box {n i : Int} (n0 : 1 ≤ n) : startR 0 n n i = i ∧ rowI 0 n n i = [1073741824] := by
  obtain ⟨a, b, _⟩ := same_low n i n0
  have hs : startR 0 n n i = i := by unfold startR; rw [a]; omega
  have hc : countR 0 n n i = 1 := by unfold countR; rw [a, b]; omega
  refine ⟨hs, ?_⟩
  unfold rowI
  rw [hc, hs]
  show [weightR 0 n n i (i + ((0 : Nat) : Int))] = _
  rw [show i + ((0 : Nat) : Int) = i by omega, box_one n0]
theorem row_cubic {n i : Int} (n0 : 1 ≤ n) (n1 : n ≤ 65536) : startR 1 n n i = i - 1 ∧ rowI 1 n n i = [0, 1073741824, 0] := by
  obtain ⟨_, _, a, b⟩ := same_low n i n0
  have hs : startR 1 n n i = i - 1 := by unfold startR; rw [a]; omega
  have hc : countR 1 n n i = 3 := by unfold countR; rw [a, b]; omega
  refine ⟨hs, ?_⟩
  unfold rowI
  rw [hc, hs]
  show [weightR 1 n n i (i - 1 + ((0 : Nat) : Int)), weightR 1 n n i (i - 1 + ((1 : Nat) : Int)), weightR 1 n n i (i - 1 + ((2 : Nat) : Int))] = _
  obtain ⟨x, y⟩ := cubic_side (i := i) n0 n1
  rw [show i - 1 + ((0 : Nat) : Int) = i - 1 by omega, show i - 1 + ((1 : Nat) : Int) = i by omega, show i - 1 + ((2 : Nat) : Int) = i + 1 by omega, x, y, cubic_mid n0 n1]
theorem app_box : appCode [1073741824] = 0 ∧ appR [1073741824] = [16384] := by decide +kernel
theorem app_cubic : appCode [0, 1073741824, 0] = 0 ∧ appR [0, 1073741824, 0] = [0, 16384, 0] := by decide +kernel
theorem first_all {f n m : Int} (k : Nat) (h : ∀ i : Nat, codeR f n m i = 0) : firstCode f n m k = 0 := by
  induction k with
  | zero => rfl
  | succ k ih =>
    have s : firstCode f n m (k + 1) = if firstCode f n m k = 0 then codeR f n m k else firstCode f n m k := rfl
    rw [s, if_pos ih, h]
/-- A side that stays: its codes, and its lines. -/
theorem res_box {n : Int} (n0 : 1 ≤ n) (n1 : n ≤ 65536) : resCode 0 n n = 0 ∧ ∀ j : Nat, lineR 0 n n j = ((j : Int), [16384]) := by
  refine ⟨?_, fun j => ?_⟩
  · unfold resCode
    rw [if_pos ((resB_iff 0 n n).2 ⟨by omega, by omega, ⟨n0, n1⟩, n0, n1⟩)]
    refine first_all _ fun i => ?_
    unfold codeR
    rw [(row_box n0).2, app_box.1]
  · unfold lineR
    rw [(row_box n0).1, (row_box n0).2, app_box.2]
theorem res_cubic {n : Int} (n0 : 1 ≤ n) (n1 : n ≤ 65536) : resCode 1 n n = 0 ∧ ∀ j : Nat, lineR 1 n n j = ((j : Int) - 1, [0, 16384, 0]) := by
  refine ⟨?_, fun j => ?_⟩
  · unfold resCode
    rw [if_pos ((resB_iff 1 n n).2 ⟨by omega, by omega, ⟨n0, n1⟩, n0, n1⟩)]
    refine first_all _ fun i => ?_
    unfold codeR
    rw [(row_cubic n0 n1).2, app_cubic.1]
  · unfold lineR
    rw [(row_cubic n0 n1).1, (row_cubic n0 n1).2, app_cubic.2]
def sameTo (k : Nat) : List (Int × List Int) := (List.range k).map fun i : Nat => ((i : Int), [16384])
theorem sameTo_len (k : Nat) : (sameTo k).length = k := by unfold sameTo; rw [List.length_map, List.length_range]
theorem sameTo_at {k j : Nat} (h : j < k) : lnAt (sameTo k) j = ((j : Int), [16384]) := lnAt_map _ h
theorem linesTo_at {f n m : Int} {k j : Nat} (h : j < k) : lnAt (linesTo f n m k) j = lineR f n m j := lnAt_map _ h
/-- All of a line is where i is. -/
def OneLn (i : Int) (x : Int × List Int) : Prop := 1 ≤ x.2.length ∧ ∀ t : Nat, t < x.2.length → (x.1 + (t : Int) = i → x.2.getD t 0 = 16384) ∧ (x.1 + (t : Int) ≠ i → x.2.getD t 0 = 0)
theorem one_box (i : Int) : OneLn i (i, [16384]) := by
  refine ⟨(by show 1 ≤ 1; omega), fun t ht => ?_⟩
  match t, ht with
  | 0, _ => exact ⟨fun _ => rfl, fun h => absurd (by simp) h⟩
theorem one_cubic (i : Int) : OneLn i (i - 1, [0, 16384, 0]) := by
  refine ⟨(by show 1 ≤ 3; omega), fun t ht => ?_⟩
  match t, ht with
  | 0, _ => exact ⟨fun h => (by simp at h; omega), fun _ => rfl⟩
  | 1, _ => exact ⟨fun _ => rfl, fun h => absurd (by simp) h⟩
  | 2, _ => exact ⟨fun h => by simp at h; omega, fun _ => rfl⟩
theorem most_same (k : Nat) (h : 1 ≤ k) : mostF (sameTo k) = 1 := by
  have e : ∀ o, o ≤ k → mostTo (sameTo k) o = if o = 0 then 0 else 1 := by
    intro o ho
    induction o with
    | zero => rfl
    | succ o ih =>
      have s : mostTo (sameTo k) (o + 1) = max (mostTo (sameTo k) o) ((lnAt (sameTo k) o).2.length : Int) := rfl
      rw [s, ih (by omega), sameTo_at (by omega)]
      show max _ (((1 : Nat)) : Int) = _
      split <;> omega
  unfold mostF
  rw [sameTo_len, e k (Nat.le_refl _), if_neg (by omega)]
end Go.Proofs.YtjmjgokgjeankaaGreatDoor
