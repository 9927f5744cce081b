/- Parts, joined. -/
import Derived.Test.YtaafhjngnjjcmaaGreatDoorJ13
import Derived.Test.YtaafhjngnjjcmaaGreatDoorJ15
import Derived.Test.YtaafhjngnjjcmaaGreatDoorJ12
/- Lines of a table: what a resize and a filter make, and what the document's calls answer. -/
namespace Go.Proofs.YtaafhjngnjjcmaaGreatDoor
open Go.RowKit


/-- An output sample's window, and its raw weights. -/
def startR (f n m i : Int) : Int := lowW f n m i + 1
def countR (f n m i : Int) : Nat := (topW f n m i - lowW f n m i).toNat
def rowI (f n m i : Int) : List Int := (List.range (countR f n m i)).map fun k : Nat => weightR f n m i (startR f n m i + (k : Int))
theorem rowI_len (f n m i : Int) : (rowI f n m i).length = countR f n m i := by unfold rowI; rw [List.length_map, List.length_range]
theorem rowI_row (f n m i : Int) : rowR f n m i (startR f n m i) (countR f n m i) = (rowI f n m i).map (Value.int .i64) := by
  unfold rowR rowI; rw [List.map_map]; rfl
theorem row_win {f n m i : Int} (h : MayP f n m i) : IsWin f n m i (startR f n m i) (countR f n m i) := (win_closed h).1
theorem row_ends {f n m i : Int} (h : MayP f n m i) : -262144 < startR f n m i ∧ startR f n m i < 262144 ∧ 1 ≤ countR f n m i ∧ countR f n m i ≤ 524288 := by
  obtain ⟨_, a, b, c⟩ := win_closed h
  unfold startR countR
  omega
theorem weightR_64 (f n m i j : Int) : -9223372036854775808 ≤ weightR f n m i j ∧ weightR f n m i j ≤ 9223372036854775807 := by
  unfold weightR
  split
  · exact divF_in _ _
  · split
    · unfold keysF
      split
      · split <;> exact divF_in _ _
      · omega
    · unfold lanczosF
      split
      · unfold shiftF
        rw [if_neg (by decide), if_neg (by decide)]
        exact shift_in 9 (mulShiftF_in _ _ _).1 (mulShiftF_in _ _ _).2
      · omega
theorem rowI_64 (f n m i : Int) : All64 (rowI f n m i) := by
  intro j hj
  rw [rowI_len] at hj
  unfold rowI
  rw [List.getD_eq_getElem?_getD, List.getElem?_map, List.getElem?_range hj]
  exact weightR_64 _ _ _ _ _
theorem rowI_own {w : World} {base : Nat} {v : Value} {f n m i : Int} (h : w.ownsRow base 2 1 v (countR f n m i) (rowR f n m i (startR f n m i) (countR f n m i))) : OwnI .i64 2 w base v (rowI f n m i) := by
  unfold OwnI
  rw [rowI_len, ← rowI_row]
  exact h
/-- A line of a resize. -/
def lineR (f n m : Int) (i : Nat) : Int × List Int := (startR f n m i, appR (rowI f n m i))
def codeR (f n m : Int) (i : Nat) : Int := appCode (rowI f n m i)
/-- The first code of so many lines. -/
def firstCode (f n m : Int) : Nat → Int
  | 0 => 0
  | i + 1 => if firstCode f n m i = 0 then codeR f n m i else firstCode f n m i
def resB (f n m : Int) : Bool := decide (0 ≤ f) && decide (f ≤ 2) && sideB n && sideB m
theorem resB_iff (f n m : Int) : resB f n m = true ↔ 0 ≤ f ∧ f ≤ 2 ∧ (1 ≤ n ∧ n ≤ 65536) ∧ (1 ≤ m ∧ m ≤ 65536) := by
  unfold resB
  rw [Bool.and_eq_true, Bool.and_eq_true, Bool.and_eq_true, sideB_iff, sideB_iff, decide_eq_true_eq, decide_eq_true_eq, and_assoc, and_assoc]
def resCode (f n m : Int) : Int := if resB f n m = true then firstCode f n m m.toNat else 6
def linesTo (f n m : Int) (k : Nat) : List (Int × List Int) := (List.range k).map (lineR f n m)
theorem linesTo_snoc (f n m : Int) (k : Nat) : linesTo f n m (k + 1) = linesTo f n m k ++ [lineR f n m k] := by unfold linesTo; rw [List.range_succ, List.map_append]; rfl
theorem linesTo_len (f n m : Int) (k : Nat) : (linesTo f n m k).length = k := by unfold linesTo; rw [List.length_map, List.length_range]
theorem firstCode_stays {f n m : Int} {a : Nat} (h : firstCode f n m a ≠ 0) {b : Nat} (hb : a ≤ b) : firstCode f n m b = firstCode f n m a := by
  obtain ⟨d, rfl⟩ : ∃ d, b = a + d := ⟨b - a, by omega⟩
  induction d with
  | zero => rfl
  | succ d ih =>
    have e := ih (by omega)
    have s : firstCode f n m (a + (d + 1)) = if firstCode f n m (a + d) = 0 then codeR f n m (a + d) else firstCode f n m (a + d) := rfl
    rw [s, if_neg (by rw [e]; exact h), e]
theorem firstCode_code {f n m : Int} {a : Nat} (h : firstCode f n m a = 0) {j : Nat} (hj : j < a) : codeR f n m j = 0 ∧ firstCode f n m j = 0 := by
  have h0 : ∀ b, b ≤ a → firstCode f n m b = 0 := by
    intro b hb
    by_cases g : firstCode f n m b = 0
    · exact g
    · rw [firstCode_stays g hb] at h; exact absurd h g
  have e := h0 (j + 1) (by omega)
  have e1 := h0 j (by omega)
  unfold firstCode at e
  rw [if_pos e1] at e
  exact ⟨e, e1⟩
theorem refrow_line (f n m i : Int) (h : MayP f n m i) (w : World) :
    Calls Tryz.prog 123 #[.int .i64 f, .int .i64 n, .int .i64 m, .int .i64 i] w fun e w' => ∃ v, e = .returned (.tuple #[.int .i64 (startR f n m i), v]) ∧ OwnI .i64 2 w' w.heap.size v (rowI f n m i) ∧ Below w.heap.size w w' := by
  refine (refrow_walk f n m i h w).mono ?_
  rintro e w1 ⟨a, c, v, hwin, _, _, _, rfl, ho, b⟩
  obtain ⟨rfl, rfl⟩ := win_one h.2.2.2.2.1 hwin (row_win h)
  exact ⟨v, rfl, rowI_own ho, b⟩
theorem app_own_n (n : Nat) (xs : List Int) (hn : xs.length = n) (ad : Option Addr) (cap : Nat) (w : World) (hr : RowAt .i64 w ad xs) (hx : All64 xs) (hl : n ≤ 9223372036854775807) :
    Calls Tryz.prog 124 #[.slice ad n cap] w fun e w' => ∃ v, e = .returned (.tuple #[v, .int .i64 (appCode xs)]) ∧ (appCode xs = 0 → OwnI .i64 2 w' w.heap.size v (appR xs)) ∧ Below w.heap.size w w' := by
  subst hn
  exact app_own xs ad cap w hr hx hl
/-- One line more, of whatever code. -/
theorem line_more (f n m : Int) (k : Nat) : ∃ (st : Int) (cn : Nat) (xs : List Int) (cd : Int), startR f n m k = st ∧ countR f n m k = cn ∧ rowI f n m k = xs ∧ appCode xs = cd := ⟨_, _, _, _, rfl, rfl, rfl, rfl⟩
theorem new_line (w : World) (x : Int) (v : Value) (t : TypeId) : ∀ j u, [Value.int .i64 x, v][j]? = some u → (w.alloc (.cells #[.int .i64 x, v] t)).cell? ((⟨w.heap.size, 0, none⟩ : Addr).add j) = some u := by
  intro j u h
  match j, h with
  | 0, h => simp at h; subst h; simp [Addr.add]
  | 1, h => simp at h; subst h; simp [Addr.add]
theorem OwnI.oneCell {k : IntKind} {T : TypeId} {w : World} {base : Nat} {v : Value} {xs : List Int} (h : OwnI k T w base v xs) : v.oneCell' = true := by
  obtain ⟨ad, cap, rfl, _⟩ := h.form
  rfl
set_option maxHeartbeats 2000000 in
set_option maxRecDepth 100000 in
theorem refresize_ok (f n : Int) (m : Nat) (f0 : 0 ≤ f) (f1 : f ≤ 2) (n0 : 1 ≤ n) (n1 : n ≤ 65536) (m0 : 1 ≤ m) (m1 : m ≤ 65536) (w : World) :
    Calls Tryz.prog 106 #[.int .i64 f, .int .i64 n, .int .i64 (m : Int)] w fun e w' => ∃ v, e = .returned (.tuple #[v, .int .i64 (firstCode f n m m)]) ∧ (firstCode f n m m = 0 → OwnLs 100 w' w.heap.size v (linesTo f n m m)) ∧ (firstCode f n m m ≠ 0 → v = .slice none 0 0) ∧ Below w.heap.size w w' := by
  have S1 := refside_yes n n0 n1
  have S2 := refside_yes (m : Int) (by omega) (by omega)
  obtain ⟨i0, hi, hz0, hz1, hz2⟩ := info_parts infoLnR
  obtain ⟨cm, hcd⟩ : ∃ cm, firstCode f n m m = cm := ⟨_, rfl⟩
  rw [hcd]
  have HCD := hide hcd
  clear hcd
  go_enter Tryz.func106, Tryz.ntmps106
  go_wp2_with (first
    | (go_at_call 122; (with_reducible refine (S1 _).mono ?_); rintro e w1 ⟨rfl, rfl⟩)
    | (go_at_call 122; (with_reducible refine (S2 _).mono ?_); rintro e w1 ⟨rfl, rfl⟩))
  clear S1 S2
  go_loopw [8, 31] (fun u i wr => ∃ k : Nat, k ≤ m ∧ i = .int .i64 (k : Int) ∧ Hid (firstCode f n m k = 0) ∧ OwnLs 100 wr w.heap.size u (linesTo f n m k) ∧ Below w.heap.size w wr) (fun _ i _ => m - (intOf i).toNat)
  case atStart => exact ⟨0, by omega, rfl, rfl, OwnLs.nil _ _ _, Below.refl _ _⟩
  case round =>
    obtain ⟨k, hk, rfl, hf, ho, hb⟩ := hrel
    have HO := hide ho
    have HB := hide hb
    clear ho hb
    by_cases hlt : k < m
    · have hM : MayP f n m k := ⟨f0, f1, n0, n1, by omega, by omega, by omega, by omega⟩
      have CR := refrow_line f n m k hM
      obtain ⟨s0, s1, c0, c1⟩ := row_ends hM
      clear hM
      have hx := rowI_64 f n m k
      have hln := rowI_len f n m k
      have hc1 : firstCode f n m (k + 1) = appCode (rowI f n m k) := if_pos hf.out
      have hlr : lineR f n m k = (startR f n m k, appR (rowI f n m k)) := rfl
      have HLS := hide (linesTo_snoc f n m k)
      have hll := linesTo_len f n m k
      obtain ⟨st, cn, xs, cd, e1, e2, e3, e4⟩ := line_more f n m k
      rw [e1, e3] at CR hlr
      rw [e1] at s0 s1
      rw [e2] at c0 c1 hln
      rw [e3] at hx hln hc1
      rw [e4] at hc1
      have HX := hide hx
      have HLN := hide hln
      have HC1 := hide hc1
      have HLR := hide hlr
      have HLL := hide hll
      have CA : ∀ (ad : Option Addr) (cap : Nat) (w : World), RowAt .i64 w ad xs → Calls Tryz.prog 124 #[.slice ad cn cap] w fun e w' => ∃ v, e = .returned (.tuple #[v, .int .i64 cd]) ∧ (cd = 0 → OwnI .i64 2 w' w.heap.size v (appR xs)) ∧ Below w.heap.size w w' := by
        intro ad cap w hr
        have := app_own_n cn xs hln ad cap w hr hx (by omega)
        rw [e4] at this
        exact this
      clear e1 e2 e3 e4 hx hln hc1 hlr hll
      by_cases hz : cd = 0
      · subst hz
        obtain ⟨us, hu, how, hin⟩ := HO.out
        obtain ⟨an, han⟩ : ∃ an, (appR xs).length = an := ⟨_, rfl⟩
        have HAN := hide han
        have HU := hide hu
        have HOW := hide how
        have HIN := hide hin
        clear hu how hin HO han
        go_wp2_with (first
          | (go_at_call 123; (with_reducible refine (CR _).mono ?_); rintro e w2 ⟨v, rfl, ho1, b2⟩; obtain ⟨ad, cap, rfl, hrow, _⟩ := ho1.formn HLN.out)
          | (go_at_call 124; (with_reducible refine (CA _ _ _ hrow).mono ?_); rintro e w3 ⟨v2, rfl, ho2, b3⟩; have ho3 := hide (ho2 (by trivial)); clear ho2; obtain ⟨ad2, cap2, rfl, _, _⟩ := ho3.out.formn HAN.out)
          | (at_builtin; refine wpList_append_own _ rfl _ _ 55 rfl w.heap.size 100 i0 (.agg #[.int .i64 0, .slice none 0 0]) 2 32 Tryz.underlying55 hi hz0 hz1 hz2 rfl (by decide) _ _ _ rfl (World.ownsRow.alloc (row_kept HOW.out (bt b2 b3)) _) ⟨w3.heap.size, 0, none⟩ 1 1 [.int .i64 st, .slice ad2 an cap2] rfl rfl (new_line _ _ _ _) (by intro u hu; simp at hu; rcases hu with rfl | rfl <;> rfl) (by rw [HLL.out]; unfold maxLen; omega) (by rw [HLL.out]; omega) (by have := HB.out.size; have := b2.size; have := b3.size; simp; omega) ?_; intro u' w4 own4 grow4 _))
        have R := hide (OwnLs.more (x := (st, appR xs)) (by decide) (bt (bt HB.out b2) b3) HU.out (row_kept HOW.out (bt b2 b3)) (fun j hj => (HIN.out j hj).below (bt b2 b3)) (ho3.out.mono (by have := HB.out.size; have := b2.size; omega)) own4 grow4)
        clear own4 grow4 ho3 ho1 hrow
        go_wp2
        go_roundw
        case rel => exact ⟨k + 1, by omega, by go_num, HC1.out, by rw [HLS.out, HLR.out]; exact R.out.1, R.out.2⟩
        case measure => simp [intOf]; omega
      · have hzb : (cd != 0) = true := by simpa using hz
        have hend : firstCode f n m m = cd := (firstCode_stays (by rw [HC1.out]; exact hz) (show k + 1 ≤ m by omega)).trans HC1.out
        have hcc : cm = cd := HCD.out.symm.trans hend
        subst hcc
        have HZ := hide hz
        clear hend hz HC1
        go_wp2_with (first
          | (go_at_call 123; (with_reducible refine (CR _).mono ?_); rintro e w2 ⟨v, rfl, ho1, b2⟩; obtain ⟨ad, cap, rfl, hrow, _⟩ := ho1.formn HLN.out)
          | (go_at_call 124; (with_reducible refine (CA _ _ _ hrow).mono ?_); rintro e w3 ⟨v2, rfl, ho2, b3⟩))
        exact bodyPost_ret (v := .tuple #[.slice none 0 0, .int .i64 cm]) (by simp [results, Tryz.results106, go_sem]) rfl ⟨.slice none 0 0, rfl, (by intro g; exact absurd g HZ.out), (by first | trivial | (intro _; rfl)), bt (bt HB.out b2) b3⟩
    · obtain rfl : k = m := by omega
      have hcc : cm = 0 := HCD.out.symm.trans hf.out
      subst hcc
      clear HCD hf hlt hk
      go_wp2
      exact bodyPost_ret (v := .tuple #[u8, .int .i64 0]) (by simp [results, Tryz.results106, go_sem]) rfl (by first | exact ⟨u8, rfl, HO.out, HB.out⟩ | exact ⟨u8, rfl, (fun _ => HO.out), (fun g => absurd rfl g), HB.out⟩)
theorem refresize_bad (f n m : Int) (h : resB f n m = false) (w : World) :
    Calls Tryz.prog 106 #[.int .i64 f, .int .i64 n, .int .i64 m] w fun e w' => e = .returned (.tuple #[.slice none 0 0, .int .i64 6]) ∧ w = w' := by
  have hb := fun g => Bool.false_ne_true (h.symm.trans ((resB_iff f n m).2 g))
  clear h
  by_cases a1 : f < 0
  · clear hb
    go_enter Tryz.func106, Tryz.ntmps106
    go_wp2
    exact bodyPost_ret (v := .tuple #[.slice none 0 0, .int .i64 6]) (by simp [results, Tryz.results106, go_sem]) rfl ⟨rfl, rfl⟩
  by_cases a2 : 2 < f
  · clear hb
    go_enter Tryz.func106, Tryz.ntmps106
    go_wp2
    exact bodyPost_ret (v := .tuple #[.slice none 0 0, .int .i64 6]) (by simp [results, Tryz.results106, go_sem]) rfl ⟨rfl, rfl⟩
  have f0 : 0 ≤ f := by omega
  have f1 : f ≤ 2 := by omega
  clear a1 a2
  by_cases a3 : 1 ≤ n ∧ n ≤ 65536
  · have S1 := refside_yes n a3.1 a3.2
    have a4 : m < 1 ∨ 65536 < m := by
      by_cases g : m < 1
      · exact Or.inl g
      · by_cases g2 : 65536 < m
        · exact Or.inr g2
        · exact absurd ⟨f0, f1, a3, by omega, by omega⟩ hb
    have S2 := refside_no m a4
    clear hb a3 a4
    go_enter Tryz.func106, Tryz.ntmps106
    go_wp2_with (first
      | (go_at_call 122; (with_reducible refine (S1 _).mono ?_); rintro e w1 ⟨rfl, rfl⟩)
      | (go_at_call 122; (with_reducible refine (S2 _).mono ?_); rintro e w1 ⟨rfl, rfl⟩))
    exact bodyPost_ret (v := .tuple #[.slice none 0 0, .int .i64 6]) (by simp [results, Tryz.results106, go_sem]) rfl ⟨rfl, rfl⟩
  · have S1 := refside_no n (by omega)
    clear hb a3
    go_enter Tryz.func106, Tryz.ntmps106
    go_wp2_with (go_at_call 122; (with_reducible refine (S1 _).mono ?_); rintro e w1 ⟨rfl, rfl⟩)
    exact bodyPost_ret (v := .tuple #[.slice none 0 0, .int .i64 6]) (by simp [results, Tryz.results106, go_sem]) rfl ⟨rfl, rfl⟩
theorem refresize_any (f n m : Int) (w : World) :
    Calls Tryz.prog 106 #[.int .i64 f, .int .i64 n, .int .i64 m] w fun e w' => ∃ v, e = .returned (.tuple #[v, .int .i64 (resCode f n m)]) ∧ (resCode f n m = 0 → OwnLs 100 w' w.heap.size v (linesTo f n m m.toNat)) ∧ (resCode f n m ≠ 0 → v = .slice none 0 0) ∧ Below w.heap.size w w' := by
  cases h : resB f n m with
  | false =>
    have e : resCode f n m = 6 := by unfold resCode; rw [h]; rfl
    rw [e]
    refine (refresize_bad f n m h w).mono ?_
    rintro e w1 ⟨rfl, rfl⟩
    exact ⟨_, rfl, (fun g => absurd g (by decide)), (fun _ => rfl), Below.refl _ _⟩
  | true =>
    have e : resCode f n m = firstCode f n m m.toNat := by unfold resCode; rw [h]; rfl
    rw [e]
    obtain ⟨f0, f1, ⟨n0, n1⟩, m0, m1⟩ := (resB_iff f n m).1 h
    obtain ⟨k, rfl⟩ : ∃ k : Nat, m = (k : Int) := ⟨m.toNat, by omega⟩
    rw [Int.toNat_natCast]
    refine (refresize_ok f n k f0 f1 n0 n1 (by omega) (by omega) w).mono ?_
    rintro e w1 ⟨v, rfl, o, z, b⟩
    exact ⟨v, rfl, o, z, b⟩
/-! ### A filter -/
def filCode (xs : List Int) (n : Int) : Int := if sideB n = true then (if xs.length % 2 = 0 then 7 else appCode xs) else 6
def filLine (xs : List Int) (i : Nat) : Int × List Int := ((i : Int) - ((xs.length / 2 : Nat) : Int), appR xs)
def filTo (xs : List Int) (k : Nat) : List (Int × List Int) := (List.range k).map (filLine xs)
theorem filTo_snoc (xs : List Int) (k : Nat) : filTo xs (k + 1) = filTo xs k ++ [filLine xs k] := by unfold filTo; rw [List.range_succ, List.map_append]; rfl
theorem filTo_len (xs : List Int) (k : Nat) : (filTo xs k).length = k := by unfold filTo; rw [List.length_map, List.length_range]
end Go.Proofs.YtaafhjngnjjcmaaGreatDoor

/- Lines of a table: what the document's filter answers. -/
namespace Go.Proofs.YtaafhjngnjjcmaaGreatDoor
open Go.RowKit


theorem more_kept {T : TypeId} (hT : 2 ≠ T) {wc w2 : World} {base base' n : Nat} {v y : Value} {us : List Value} {xs : List Int} {o : Obj} (hown : wc.ownsRow base' T 2 v n us) (hy : OwnI .i64 2 wc base y xs) (hgrow : (wc.alloc o).grownBy w2 v.ownBlock) : OwnI .i64 2 w2 base y xs :=
  OwnI.kept (hy.alloc o) hgrow (own_apart hT (hy.alloc o) (World.ownsRow.alloc hown o))
theorem reffilter_six (xs : List Int) (ad : Option Addr) (cap : Nat) (n : Int) (h : sideB n = false) (w : World) :
    Calls Tryz.prog 110 #[.slice ad xs.length cap, .int .i64 n] w fun e w' => e = .returned (.tuple #[.slice none 0 0, .int .i64 6]) ∧ w = w' := by
  have S1 := refside_no n (by
    have := fun g => Bool.false_ne_true (h.symm.trans ((sideB_iff n).2 g))
    by_cases a : n < 1
    · exact Or.inl a
    · by_cases b : 65536 < n
      · exact Or.inr b
      · exact absurd ⟨by omega, by omega⟩ this)
  clear h
  generalize xs.length = k at *
  go_enter Tryz.func110, Tryz.ntmps110
  go_wp2_with (go_at_call 122; (with_reducible refine (S1 _).mono ?_); rintro e w1 ⟨rfl, rfl⟩)
  exact bodyPost_ret (v := .tuple #[.slice none 0 0, .int .i64 6]) (by simp [results, Tryz.results110, go_sem]) rfl ⟨rfl, rfl⟩
theorem reffilter_seven (xs : List Int) (ad : Option Addr) (cap : Nat) (n : Int) (h : sideB n = true) (h2 : xs.length % 2 = 0) (hl : xs.length ≤ 9223372036854775807) (w : World) :
    Calls Tryz.prog 110 #[.slice ad xs.length cap, .int .i64 n] w fun e w' => e = .returned (.tuple #[.slice none 0 0, .int .i64 7]) ∧ w = w' := by
  obtain ⟨n0, n1⟩ := (sideB_iff n).1 h
  have S1 := refside_yes n n0 n1
  clear h
  generalize xs.length = k at *
  have b1 : ((k : Int) % 2 == 0) = true := beq_iff_eq.2 (by omega)
  clear h2
  go_enter Tryz.func110, Tryz.ntmps110
  go_wp2_with (go_at_call 122; (with_reducible refine (S1 _).mono ?_); rintro e w1 ⟨rfl, rfl⟩)
  exact bodyPost_ret (v := .tuple #[.slice none 0 0, .int .i64 7]) (by simp [results, Tryz.results110, go_sem]) rfl ⟨rfl, rfl⟩
theorem reffilter_code (xs : List Int) (ad : Option Addr) (cap : Nat) (n : Int) (h : sideB n = true) (h2 : xs.length % 2 = 1) (cd : Int) (hc : appCode xs = cd) (hz : cd ≠ 0) (hl : xs.length ≤ 9223372036854775807) (w : World) (hr : RowAt .i64 w ad xs) (hx : All64 xs) :
    Calls Tryz.prog 110 #[.slice ad xs.length cap, .int .i64 n] w fun e w' => e = .returned (.tuple #[.slice none 0 0, .int .i64 cd]) ∧ Below w.heap.size w w' := by
  obtain ⟨n0, n1⟩ := (sideB_iff n).1 h
  have S1 := refside_yes n n0 n1
  have CA := app_own_n xs.length xs rfl ad cap w hr hx hl
  rw [hc] at CA
  clear h hc hr
  generalize xs.length = k at *
  have b1 : ((k : Int) % 2 == 0) = false := beq_eq_false_iff_ne.2 (by omega)
  have hzb : (cd != 0) = true := by simpa using hz
  clear h2 hz
  go_enter Tryz.func110, Tryz.ntmps110
  go_wp2_with (first
    | (go_at_call 122; (with_reducible refine (S1 _).mono ?_); rintro e w1 ⟨rfl, rfl⟩)
    | (go_at_call 124; (with_reducible refine CA.mono ?_); rintro e w3 ⟨v2, rfl, _, b3⟩))
  exact bodyPost_ret (v := .tuple #[.slice none 0 0, .int .i64 cd]) (by simp [results, Tryz.results110, go_sem]) rfl ⟨rfl, b3⟩
set_option maxHeartbeats 2000000 in
set_option maxRecDepth 100000 in
theorem reffilter_ok (xs : List Int) (ad : Option Addr) (cap : Nat) (n : Nat) (n0 : 1 ≤ n) (n1 : n ≤ 65536) (h2 : xs.length % 2 = 1) (hc : appCode xs = 0) (hl : xs.length ≤ 1048576) (w : World) (hr : RowAt .i64 w ad xs) (hx : All64 xs) :
    Calls Tryz.prog 110 #[.slice ad xs.length cap, .int .i64 (n : Int)] w fun e w' => ∃ v, e = .returned (.tuple #[v, .int .i64 0]) ∧ OwnLs 100 w' w.heap.size v (filTo xs n) ∧ Below w.heap.size w w' := by
  have S1 := refside_yes (n : Int) (by omega) (by omega)
  have CA := app_own_n xs.length xs rfl ad cap w hr hx (by omega)
  rw [hc] at CA
  obtain ⟨i0, hi, hz0, hz1, hz2⟩ := info_parts infoLnR
  obtain ⟨k, hk⟩ : ∃ k, xs.length = k := ⟨_, rfl⟩
  obtain ⟨an, han⟩ : ∃ an, (appR xs).length = an := ⟨_, rfl⟩
  have HAN := hide han
  have HK := hide hk
  rw [hk] at CA h2 hl ⊢
  clear hk hc hr han
  have b1 : ((k : Int) % 2 == 0) = false := beq_eq_false_iff_ne.2 (by omega)
  clear h2
  go_enter Tryz.func110, Tryz.ntmps110
  go_wp2_with (first
    | (go_at_call 122; (with_reducible refine (S1 _).mono ?_); rintro e w1 ⟨rfl, rfl⟩)
    | (go_at_call 124; (with_reducible refine CA.mono ?_); rintro e w3 ⟨v2, rfl, ho2, b3⟩; have ho3 := hide (ho2 (by trivial)); clear ho2; obtain ⟨ad2, cap2, rfl, _, _⟩ := ho3.out.formn HAN.out))
  have HB3 := hide b3
  clear S1 CA b3 b1
  go_loopw [8, 26] (fun u i wr => ∃ j : Nat, j ≤ n ∧ i = .int .i64 (j : Int) ∧ OwnLs 100 wr w.heap.size u (filTo xs j) ∧ OwnI .i64 2 wr w.heap.size (.slice ad2 an cap2) (appR xs) ∧ Below w.heap.size w wr) (fun _ i _ => n - (intOf i).toNat)
  case atStart => exact ⟨0, by omega, rfl, OwnLs.nil _ _ _, ho3.out, HB3.out⟩
  case round =>
    clear ho3 HB3
    obtain ⟨j, hj, rfl, ho, hq, hb⟩ := hrel
    have HO := hide ho
    have HQ := hide hq
    have HB := hide hb
    clear ho hq hb
    by_cases hlt : j < n
    · obtain ⟨us, hu, how, hin⟩ := HO.out
      have HU := hide hu
      have HOW := hide how
      have HIN := hide hin
      have HLS := hide (filTo_snoc xs j)
      have hlr : filLine xs j = ((j : Int) - ((xs.length / 2 : Nat) : Int), appR xs) := rfl
      rw [HK.out, show ((k / 2 : Nat) : Int) = (k : Int) / 2 by omega] at hlr
      have HLR := hide hlr
      have HLL := hide (filTo_len xs j)
      clear hu how hin HO hlr
      go_wp2_with (at_builtin; refine wpList_append_own _ rfl _ _ 55 rfl w.heap.size 100 i0 (.agg #[.int .i64 0, .slice none 0 0]) 2 32 Tryz.underlying55 hi hz0 hz1 hz2 rfl (by decide) _ _ _ rfl (World.ownsRow.alloc HOW.out _) ⟨wr.heap.size, 0, none⟩ 1 1 [.int .i64 ((j : Int) - (k : Int) / 2), .slice ad2 an cap2] rfl rfl (new_line _ _ _ _) (by intro u hu; simp at hu; rcases hu with rfl | rfl <;> rfl) (by rw [HLL.out]; unfold maxLen; omega) (by rw [HLL.out]; omega) (by have := HB.out.size; simp; omega) ?_; intro u' w4 own4 grow4 _)
      have R := hide (And.intro (OwnLs.more (x := ((j : Int) - (k : Int) / 2, appR xs)) (by decide) HB.out HU.out HOW.out HIN.out HQ.out own4 grow4) (more_kept (by decide) HOW.out HQ.out grow4))
      clear own4 grow4
      go_wp2
      go_roundw
      case rel => exact ⟨j + 1, by omega, by go_num, by rw [HLS.out, HLR.out]; exact R.out.1.1, R.out.2, R.out.1.2⟩
      case measure => simp [intOf]; omega
    · obtain rfl : j = n := by omega
      go_wp2
      exact bodyPost_ret (v := .tuple #[u8, .int .i64 0]) (by simp [results, Tryz.results110, go_sem]) rfl ⟨u8, rfl, HO.out, HB.out⟩
theorem reffilter_any (xs : List Int) (ad : Option Addr) (cap : Nat) (n : Int) (w : World) (hr : RowAt .i64 w ad xs) (hx : All64 xs) (hl : xs.length ≤ 9223372036854775807) :
    Calls Tryz.prog 110 #[.slice ad xs.length cap, .int .i64 n] w fun e w' => ∃ v, e = .returned (.tuple #[v, .int .i64 (filCode xs n)]) ∧ (filCode xs n = 0 → OwnLs 100 w' w.heap.size v (filTo xs n.toNat)) ∧ (filCode xs n ≠ 0 → v = .slice none 0 0) ∧ Below w.heap.size w w' := by
  unfold filCode
  cases h : sideB n with
  | false =>
    rw [if_neg (by decide)]
    refine (reffilter_six xs ad cap n h w).mono ?_
    rintro e w1 ⟨rfl, rfl⟩
    exact ⟨_, rfl, (fun g => absurd g (by decide)), (fun _ => rfl), Below.refl _ _⟩
  | true =>
    rw [if_pos rfl]
    by_cases h2 : xs.length % 2 = 0
    · rw [if_pos h2]
      refine (reffilter_seven xs ad cap n h h2 hl w).mono ?_
      rintro e w1 ⟨rfl, rfl⟩
      exact ⟨_, rfl, (fun g => absurd g (by decide)), (fun _ => rfl), Below.refl _ _⟩
    · rw [if_neg h2]
      by_cases hz : appCode xs = 0
      · rw [hz]
        obtain ⟨n0, n1⟩ := (sideB_iff n).1 h
        obtain ⟨k, rfl⟩ : ∃ k : Nat, n = (k : Int) := ⟨n.toNat, by omega⟩
        rw [Int.toNat_natCast]
        refine (reffilter_ok xs ad cap k (by omega) (by omega) (by omega) hz (appCode_fits.1 hz).n1 w hr hx).mono ?_
        rintro e w1 ⟨v, rfl, o, b⟩
        exact ⟨v, rfl, (fun _ => o), (fun g => absurd rfl g), b⟩
      · refine (reffilter_code xs ad cap n h (by omega) _ rfl hz hl w hr hx).mono ?_
        rintro e w1 ⟨rfl, b⟩
        exact ⟨_, rfl, (fun g => absurd g hz), (fun _ => rfl), b⟩
end Go.Proofs.YtaafhjngnjjcmaaGreatDoor

/- Images as values: sizes, places, codes. Plain arithmetic; no number of the program stands in it. -/
namespace Go.Proofs.YtaafhjngnjjcmaaGreatDoor
open Go.RowKit


/-- An image as a value: width, height, channels, greatest sample, samples. -/
structure Im where
  iw : Int
  ih : Int
  ic : Int
  it : Int
  il : List Int
/-- One that there may be. -/
def ImOk (I : Im) : Prop :=
  1 ≤ I.iw ∧ I.iw ≤ 65536 ∧ 1 ≤ I.ih ∧ I.ih ≤ 65536 ∧ (I.ic = 1 ∨ I.ic = 3) ∧ 1 ≤ I.it ∧ I.it ≤ 65535 ∧ I.iw * I.ih * I.ic ≤ 268435456 ∧ (I.il.length : Int) = I.iw * I.ih * I.ic ∧ ∀ x ∈ I.il, 0 ≤ x ∧ x ≤ I.it
/-- May an image have these? -/
def fitsF (a b c : Int) : Bool := decide (1 ≤ a ∧ a ≤ 65536 ∧ 1 ≤ b ∧ b ≤ 65536 ∧ (c = 1 ∨ c = 3) ∧ a * b * c ≤ 268435456)
/-- The code of what it is to have. -/
def codeF (a b c t : Int) : Int := if t < 1 ∨ 65535 < t ∨ ¬(c = 1 ∨ c = 3) then 2 else if fitsF a b c = true then 0 else 5
theorem fitsF_iff {a b c : Int} : fitsF a b c = true ↔ (1 ≤ a ∧ a ≤ 65536 ∧ 1 ≤ b ∧ b ≤ 65536 ∧ (c = 1 ∨ c = 3) ∧ a * b * c ≤ 268435456) := by unfold fitsF; exact decide_eq_true_iff
theorem codeF_zero {a b c t : Int} (h : codeF a b c t = 0) : 1 ≤ t ∧ t ≤ 65535 ∧ 1 ≤ a ∧ a ≤ 65536 ∧ 1 ≤ b ∧ b ≤ 65536 ∧ (c = 1 ∨ c = 3) ∧ a * b * c ≤ 268435456 := by
  unfold codeF at h
  split at h
  · omega
  · split at h
    · have := fitsF_iff.1 (by assumption)
      omega
    · omega
theorem codeF_of {a b c t : Int} (t0 : 1 ≤ t) (t1 : t ≤ 65535) (a0 : 1 ≤ a) (a1 : a ≤ 65536) (b0 : 1 ≤ b) (b1 : b ≤ 65536) (hc : c = 1 ∨ c = 3) (h : a * b * c ≤ 268435456) : codeF a b c t = 0 := by
  unfold codeF
  rw [if_neg (by omega), if_pos (fitsF_iff.2 ⟨a0, a1, b0, b1, hc, h⟩)]
theorem codeF_in (a b c t : Int) : 0 ≤ codeF a b c t ∧ codeF a b c t ≤ 5 := by
  unfold codeF
  split
  · omega
  · split <;> omega
/-- Products of sides. -/
theorem side_mul {a b : Int} (a0 : 1 ≤ a) (a1 : a ≤ 65536) (b0 : 1 ≤ b) (b1 : b ≤ 65536) : 1 ≤ a * b ∧ a * b ≤ 4294967296 := by
  have h1 := Int.mul_le_mul a1 b1 (by omega) (by omega)
  have h2 := Int.mul_le_mul a0 b0 (by omega) (by omega)
  omega
theorem side_mul3 {a b c : Int} (a0 : 1 ≤ a) (a1 : a ≤ 65536) (b0 : 1 ≤ b) (b1 : b ≤ 65536) (hc : c = 1 ∨ c = 3) : 1 ≤ a * b * c ∧ a * b * c ≤ 12884901888 := by
  have := side_mul a0 a1 b0 b1
  rcases hc with rfl | rfl <;> omega
/-- Where a sample stands. -/
def placeF (a c x y z : Int) : Int := (y * a + x) * c + z
theorem place_in {a b c x y z : Int} (x0 : 0 ≤ x) (x1 : x < a) (y0 : 0 ≤ y) (y1 : y < b) (z0 : 0 ≤ z) (z1 : z < c) : 0 ≤ y * a ∧ 0 ≤ y * a + x ∧ y * a + x < a * b ∧ 0 ≤ (y * a + x) * c ∧ 0 ≤ placeF a c x y z ∧ placeF a c x y z < a * b * c := by
  have h1 : 0 ≤ y * a := Int.mul_nonneg y0 (by omega)
  have h2 : y * a + a ≤ a * b := by
    have := Int.mul_le_mul_of_nonneg_right (show y + 1 ≤ b by omega) (show (0 : Int) ≤ a by omega)
    rw [Int.add_mul, Int.one_mul, Int.mul_comm b a] at this
    exact this
  have h3 : 0 ≤ (y * a + x) * c := Int.mul_nonneg (by omega) (by omega)
  have h4 : (y * a + x) * c + c ≤ a * b * c := by
    have := Int.mul_le_mul_of_nonneg_right (show y * a + x + 1 ≤ a * b by omega) (show (0 : Int) ≤ c by omega)
    rw [Int.add_mul, Int.one_mul] at this
    exact this
  unfold placeF
  omega
theorem place_ref (a c x y z : Int) : y * a * c + x * c + z = placeF a c x y z := by unfold placeF; rw [Int.add_mul]
/-- Is there such a sample? -/
def hasF (I : Im) (x y z : Int) : Bool := decide (0 ≤ x ∧ x < I.iw ∧ 0 ≤ y ∧ y < I.ih ∧ 0 ≤ z ∧ z < I.ic)
theorem hasF_iff {I : Im} {x y z : Int} : hasF I x y z = true ↔ (0 ≤ x ∧ x < I.iw ∧ 0 ≤ y ∧ y < I.ih ∧ 0 ≤ z ∧ z < I.ic) := by unfold hasF; exact decide_eq_true_iff
def imPlace (I : Im) (x y z : Int) : Int := placeF I.iw I.ic x y z
def imAt (I : Im) (x y z : Int) : Int := if hasF I x y z = true then I.il.getD (imPlace I x y z).toNat 0 else 0
def setOk (I : Im) (x y z v : Int) : Bool := hasF I x y z && decide (v ≤ I.it)
def imSet (I : Im) (x y z v : Int) : Im := if setOk I x y z v = true then { I with il := I.il.set (imPlace I x y z).toNat v } else I
theorem imSet_sizes (I : Im) (x y z v : Int) : (imSet I x y z v).iw = I.iw ∧ (imSet I x y z v).ih = I.ih ∧ (imSet I x y z v).ic = I.ic ∧ (imSet I x y z v).it = I.it ∧ (imSet I x y z v).il.length = I.il.length := by
  unfold imSet
  split
  · exact ⟨rfl, rfl, rfl, rfl, by simp⟩
  · exact ⟨rfl, rfl, rfl, rfl, rfl⟩
theorem imPlace_in {I : Im} (hI : ImOk I) {x y z : Int} (h : hasF I x y z = true) : 0 ≤ imPlace I x y z ∧ (imPlace I x y z).toNat < I.il.length ∧ ((imPlace I x y z).toNat : Int) = imPlace I x y z ∧ imPlace I x y z < 268435456 := by
  obtain ⟨_, _, _, _, _, _, _, hm, hl, _⟩ := hI
  obtain ⟨x0, x1, y0, y1, z0, z1⟩ := hasF_iff.1 h
  have := place_in x0 x1 y0 y1 z0 z1
  unfold imPlace
  omega
theorem imSet_ok {I : Im} (hI : ImOk I) {x y z v : Int} (v0 : 0 ≤ v) : ImOk (imSet I x y z v) := by
  unfold imSet
  split
  · rename_i h
    obtain ⟨a, b, c, d, e, f, g, hm, hl, hx⟩ := hI
    refine ⟨a, b, c, d, e, f, g, hm, by simpa using hl, fun q hq => ?_⟩
    unfold setOk at h
    rw [Bool.and_eq_true, decide_eq_true_iff] at h
    rcases List.mem_or_eq_of_mem_set hq with hq | rfl
    · exact hx q hq
    · exact ⟨v0, h.2⟩
  · exact hI
theorem imOk_len {I : Im} (h : ImOk I) : 1 ≤ I.il.length ∧ I.il.length ≤ 268435456 := by
  obtain ⟨a, b, c, d, e, _, _, hm, hl, _⟩ := h
  have := side_mul3 a b c d e
  omega
/-- A row of an image. -/
def imRow (I : Im) (y : Int) : List Int := (I.il.drop (y * I.iw * I.ic).toNat).take (I.iw * I.ic).toNat
theorem row_in {I : Im} (hI : ImOk I) {y : Int} (y0 : 0 ≤ y) (y1 : y < I.ih) : 1 ≤ I.iw * I.ic ∧ I.iw * I.ic ≤ 196608 ∧ 0 ≤ y * I.iw * I.ic ∧ y * I.iw * I.ic + I.iw * I.ic ≤ (I.il.length : Int) ∧ 0 ≤ y * I.iw ∧ y * I.iw ≤ 4294967296 := by
  obtain ⟨a, b, c, d, e, _, _, hm, hl, _⟩ := hI
  have h1 : 0 ≤ y * I.iw := Int.mul_nonneg y0 (by omega)
  have h2 : y * I.iw + I.iw ≤ I.iw * I.ih := by
    have := Int.mul_le_mul_of_nonneg_right (show y + 1 ≤ I.ih by omega) (show (0 : Int) ≤ I.iw by omega)
    rw [Int.add_mul, Int.one_mul, Int.mul_comm I.ih I.iw] at this
    exact this
  have h3 : (y * I.iw + I.iw) * I.ic ≤ I.iw * I.ih * I.ic := Int.mul_le_mul_of_nonneg_right h2 (by omega)
  rw [Int.add_mul] at h3
  have h4 := side_mul a b c d
  have h5 : 0 ≤ y * I.iw * I.ic := Int.mul_nonneg h1 (by omega)
  have h6 : 1 ≤ I.iw * I.ic ∧ I.iw * I.ic ≤ 196608 := by rcases e with e | e <;> rw [e] <;> omega
  exact ⟨h6.1, h6.2, h5, by omega, h1, by omega⟩
theorem imRow_len {I : Im} (hI : ImOk I) {y : Int} (y0 : 0 ≤ y) (y1 : y < I.ih) : (imRow I y).length = (I.iw * I.ic).toNat := by
  obtain ⟨h1, h2, h3, h4, _⟩ := row_in hI y0 y1
  unfold imRow
  rw [List.length_take, List.length_drop]
  omega
theorem allK_u16 {xs : List Int} (h : ∀ x ∈ xs, 0 ≤ x ∧ x ≤ 65535) {j : Nat} (hj : j < xs.length) : 0 ≤ xs.getD j 0 ∧ xs.getD j 0 ≤ 65535 := by
  rw [List.getD_eq_getElem?_getD, List.getElem?_eq_getElem hj]
  exact h _ (List.getElem_mem hj)
theorem imOk_at {I : Im} (h : ImOk I) {j : Nat} (hj : j < I.il.length) : 0 ≤ I.il.getD j 0 ∧ I.il.getD j 0 ≤ I.it ∧ I.il.getD j 0 ≤ 65535 := by
  obtain ⟨_, _, _, _, _, _, t1, _, _, hx⟩ := h
  rw [List.getD_eq_getElem?_getD, List.getElem?_eq_getElem hj]
  have := hx _ (List.getElem_mem hj)
  exact ⟨this.1, this.2, by have := this.2; exact Int.le_trans this t1⟩
end Go.Proofs.YtaafhjngnjjcmaaGreatDoor

/- Weights that come to one: what is made can be apportioned. -/
namespace Go.Proofs.YtaafhjngnjjcmaaGreatDoor
open Go.RowKit


theorem termE_down {r : Int} (h0 : 0 ≤ r) (h1 : r ≤ 1099511627776) (n : Nat) : 0 ≤ termE r (n + 1) ∧ termE r (n + 1) ≤ termE r n := by
  obtain ⟨a0, a1⟩ := termE_in h0 h1 n
  have p0 : 0 ≤ termE r n * r := Int.mul_nonneg a0 h0
  have p1 : termE r n * r ≤ termE r n * (((n : Int) + 1) * 1099511627776) := Int.mul_le_mul_of_nonneg_left (by omega) a0
  have q := near_in (X := termE r n * r) (d := ((n : Int) + 1) * 1099511627776) (m := termE r n) (by omega) p0 p1
  show 0 ≤ divF _ _ ∧ divF _ _ ≤ _
  rw [divF_of (by omega), holdI_in (by omega) (by omega)]
  exact q
theorem sumE_pos {r : Int} (h0 : 0 ≤ r) (h1 : r ≤ 1099511627776) (n : Nat) :
    (n % 2 = 0 → termE r n ≤ sumE r n ∧ sumE r n ≤ 1099511627776) ∧ (n % 2 = 1 → 0 ≤ sumE r n ∧ sumE r n ≤ 1099511627776 - termE r n) := by
  induction n with
  | zero => exact ⟨fun _ => ⟨Int.le_refl _, Int.le_refl _⟩, fun h => by omega⟩
  | succ n ih =>
    obtain ⟨d0, d1⟩ := termE_down h0 h1 n
    have e : sumE r (n + 1) = if n % 2 = 0 then sumE r n - termE r (n + 1) else sumE r n + termE r (n + 1) := rfl
    rw [e]
    by_cases g : n % 2 = 0
    · have := ih.1 g
      rw [if_pos g]
      exact ⟨fun h => by omega, fun _ => by omega⟩
    · have := ih.2 (by omega)
      rw [if_neg g]
      exact ⟨fun _ => by omega, fun h => by omega⟩
theorem shiftF_low {x : Int} (n : Int) (h0 : 0 ≤ x) : 0 ≤ shiftF x n ∧ shiftF x n ≤ x := by
  unfold shiftF
  split
  · omega
  · split
    · omega
    · have a0 : 0 ≤ x / 2 ^ (n.toNat - 1) := Int.ediv_nonneg h0 (Int.le_of_lt (Int.pow_pos (by decide)))
      have a1 : x / 2 ^ (n.toNat - 1) ≤ x := Int.ediv_le_self _ h0
      omega
theorem expoF_unit {t : Int} (h0 : 0 ≤ t) : 0 ≤ expoF t ∧ expoF t ≤ 1099511627776 := by
  have e : posI t = t := by unfold posI; omega
  have s := (sumE_pos (r := t % 762123384786) (by omega) (by omega) 16).1 rfl
  have p := (termE_in (r := t % 762123384786) (by omega) (by omega) 16).1
  unfold expoF
  rw [e]
  have := shiftF_low (x := sumE (t % 762123384786) 16) (t / 762123384786) (by omega)
  omega
theorem gaussF_unit (d s : Int) : 0 ≤ gaussF d s ∧ gaussF d s ≤ 1073741824 := by
  have e := expoF_unit (ratioF_pos d s)
  unfold gaussF shiftF
  rw [if_neg (by omega), if_neg (by omega), show (10 : Int).toNat - 1 = 9 from rfl, show (2 : Int) ^ 9 = 512 from rfl]
  omega
end Go.Proofs.YtaafhjngnjjcmaaGreatDoor
