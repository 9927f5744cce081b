/- What each source sample weighs: the law on rows and windows, out of what the program's own calls answer. -/
import Derived.Test.YtjmdknbbgmajoaaDoorS05F
namespace Go.Proofs.YtjmdknbbgmajoaaDoor
open Go.RowKit


def I64 (x : Int) : Prop := -9223372036854775808 ≤ x ∧ x ≤ 9223372036854775807
def Row0C : Prop := ∀ (f n m i : Int), I64 f → I64 n → I64 m → I64 i → ¬ MayP f n m i → ∀ w : World, Kinds w → Calls Tryd.prog 11 #[.int .i64 f, .int .i64 n, .int .i64 m, .int .i64 i] w fun e w' => e = .returned (.tuple #[.int .i64 0, .slice none 0 0]) ∧ Below w.heap.size w w'
def WinC : Prop := ∀ (f n m i j0 : Int) (c : Nat), MayP f n m i → IsWin f n m i j0 c → ∀ w : World, Kinds w → Calls Tryd.prog 13 #[.int .i64 f, .int .i64 n, .int .i64 m, .int .i64 i] w fun e w' => e = .returned (.tuple #[.int .i64 j0, .int .i64 (c : Int)]) ∧ Below w.heap.size w w'
def Win0C : Prop := ∀ (f n m i : Int), I64 f → I64 n → I64 m → I64 i → ¬ MayP f n m i → ∀ w : World, Kinds w → Calls Tryd.prog 13 #[.int .i64 f, .int .i64 n, .int .i64 m, .int .i64 i] w fun e w' => e = .returned (.tuple #[.int .i64 0, .int .i64 0]) ∧ Below w.heap.size w w'
/-- A weight, of whatever sample. -/
def wR (f n m i j : Int) : Int := if mayR f n m i = true ∧ inW f n m i j = true then weightR f n m i j else 0
def WtC : Prop := ∀ (f n m i j : Int), I64 f → I64 n → I64 m → I64 i → I64 j → ∀ w : World, Kinds w → Calls Tryd.prog 14 #[.int .i64 f, .int .i64 n, .int .i64 m, .int .i64 i, .int .i64 j] w fun e w' => e = .returned (.int .i64 (wR f n m i j)) ∧ Below w.heap.size w w'
theorem mayR_iff (f n m i : Int) : mayR f n m i = true ↔ MayP f n m i := by
  unfold mayR MayP; simp; omega
theorem win_iff {f n m i j0 : Int} {c : Nat} (m0 : 1 ≤ m) (h : IsWin f n m i j0 c) (j : Int) : inW f n m i j = true ↔ j0 ≤ j ∧ j < j0 + c := by
  obtain ⟨h0, h1, h2, h3⟩ := h
  have ha : inW f n m i j0 = true := by have := h2 0 h0; simpa using this
  have hl : inW f n m i (j0 + (c - 1 : Nat)) = true := h2 (c - 1) (by omega)
  constructor
  · intro hj
    constructor
    · by_cases q : j0 ≤ j
      · exact q
      · have := inW_mid m0 (show j ≤ j0 - 1 by omega) (show j0 - 1 ≤ j0 by omega) hj ha
        rw [h1] at this; cases this
    · by_cases q : j < j0 + c
      · exact q
      · have := inW_mid m0 (show j0 + (c - 1 : Nat) ≤ j0 + (c : Int) by omega) (show j0 + (c : Int) ≤ j by omega) hl hj
        rw [h3] at this; cases this
  · rintro ⟨q0, q1⟩
    have := h2 (j - j0).toNat (by omega)
    rw [show j0 + ((j - j0).toNat : Int) = j by omega] at this
    exact this
theorem refmay_no (f n m i : Int) (h : ¬ MayP f n m i) (w : World) :
    Calls Tryd.prog 9 #[.int .i64 f, .int .i64 n, .int .i64 m, .int .i64 i] w fun e w' => e = .returned (.bool false) ∧ Below w.heap.size w w' := by
  by_cases h1 : 0 ≤ f
  · by_cases h2 : f ≤ 2
    · by_cases h3 : 1 ≤ n
      · by_cases h4 : n ≤ 65536
        · by_cases h5 : 1 ≤ m
          · by_cases h6 : m ≤ 65536
            · by_cases h7 : 0 ≤ i
              · have h8 : ¬ i < m := fun g => h ⟨h1, h2, h3, h4, h5, h6, h7, g⟩
                clear h
                go_enter Tryd.func9, Tryd.ntmps9
                go_wp2
                go_ret
                exact ⟨rfl, Below.refl _ _⟩
              · clear h
                go_enter Tryd.func9, Tryd.ntmps9
                go_wp2
                go_ret
                exact ⟨rfl, Below.refl _ _⟩
            · clear h
              go_enter Tryd.func9, Tryd.ntmps9
              go_wp2
              go_ret
              exact ⟨rfl, Below.refl _ _⟩
          · clear h
            go_enter Tryd.func9, Tryd.ntmps9
            go_wp2
            go_ret
            exact ⟨rfl, Below.refl _ _⟩
        · clear h
          go_enter Tryd.func9, Tryd.ntmps9
          go_wp2
          go_ret
          exact ⟨rfl, Below.refl _ _⟩
      · clear h
        go_enter Tryd.func9, Tryd.ntmps9
        go_wp2
        go_ret
        exact ⟨rfl, Below.refl _ _⟩
    · clear h
      go_enter Tryd.func9, Tryd.ntmps9
      go_wp2
      go_ret
      exact ⟨rfl, Below.refl _ _⟩
  · clear h
    go_enter Tryd.func9, Tryd.ntmps9
    go_wp2
    go_ret
    exact ⟨rfl, Below.refl _ _⟩
theorem refrow_none (f n m i : Int) (h : ¬ MayP f n m i) (w : World) :
    Calls Tryd.prog 12 #[.int .i64 f, .int .i64 n, .int .i64 m, .int .i64 i] w fun e w' => e = .returned (.tuple #[.int .i64 0, .slice none 0 0]) ∧ Below w.heap.size w w' := by
  have CM := refmay_no f n m i h
  clear h
  go_enter Tryd.func12, Tryd.ntmps12
  go_wp2_with (go_at_call 9; (with_reducible refine (CM _).mono ?_); rintro e w1 ⟨rfl, b1⟩)
  exact bodyPost_ret (v := .tuple #[.int .i64 0, .slice none 0 0]) (by simp [results, Tryd.results12, go_sem]) rfl ⟨rfl, b1⟩
theorem small_walk (n m : Int) (n0 : 1 ≤ n) (n1 : n ≤ 65536) (m0 : 1 ≤ m) (m1 : m ≤ 65536) (w : World) :
    Calls Tryd.prog 10 #[.int .i64 n, .int .i64 m] w fun e w' => e = .returned (.bool (decide (n / m ≤ 40))) ∧ Below w.heap.size w w' := by
  have hm0 : (m == 0) = false := beq_eq_false_iff_ne.2 (by omega)
  go_enter Tryd.func10, Tryd.ntmps10
  go_wp2
  go_ret
  exact ⟨rfl, Below.refl _ _⟩
theorem rows_none (f n m i j : Int) (w : World) (hkd : Kinds w) (hf : I64 f) (hn : I64 n) (hm : I64 m) (hi : I64 i) (hj : I64 j) (CL : Calls Tryd.prog 8 #[] w fun e w' => e = .returned (.bool true) ∧ Below w.heap.size w w')
    (CR : Row0C) (CN : Win0C) (CW : WtC) (h : ¬ MayP f n m i) :
    Calls Tryd.prog 3 #[.int .i64 f, .int .i64 n, .int .i64 m, .int .i64 i, .int .i64 j] w fun e w' => e = .returned (.bool true) ∧ Below w.heap.size w w' := by
  have C1 := refmay_no f n m i h
  have C2 := CR f n m i hf hn hm hi h
  have C3 := refrow_none f n m i h
  have C4 := CN f n m i hf hn hm hi h
  have C5 := CW f n m i j hf hn hm hi hj
  rw [show wR f n m i j = 0 from if_neg (fun g => h ((mayR_iff f n m i).1 g.1))] at C5
  clear CR CN CW h hf hn hm hi hj
  go_enter Tryd.func3, Tryd.ntmps3
  go_wp2_with (first
    | (go_at_call 8; (with_reducible refine CL.mono ?_); rintro e w1 ⟨rfl, b1⟩)
    | (go_at_call 9; (with_reducible refine (C1 _).mono ?_); rintro e w2 ⟨rfl, b2⟩)
    | (go_at_call 11; (with_reducible refine (C2 _ (kinds_below hkd (by repeat (first | exact Below.refl _ _ | assumption | exact HB.out | (with_reducible refine bt ?_ (by assumption)) | with_reducible refine bd ?_ | with_reducible refine ba ?_ _)))).mono ?_); rintro e w3 ⟨rfl, b3⟩)
    | (go_at_call 12; (with_reducible refine (C3 _).mono ?_); rintro e w4 ⟨rfl, b4⟩)
    | (go_at_call 13; (with_reducible refine (C4 _ (kinds_below hkd (by repeat (first | exact Below.refl _ _ | assumption | exact HB.out | (with_reducible refine bt ?_ (by assumption)) | with_reducible refine bd ?_ | with_reducible refine ba ?_ _)))).mono ?_); rintro e w5 ⟨rfl, b5⟩))
  go_loopw [79] (fun u wr => u = .int .i64 0 ∧ Below w.heap.size w wr) (fun _ _ => 0)
  case atStart => exact ⟨rfl, bt (bt (bt (bt b1 b2) b3) b4) b5⟩
  case round =>
    obtain ⟨rfl, hb⟩ := hrel
    clear b1 b2 b3 b4 b5
    go_wp2_with (go_at_call 14; (with_reducible refine (C5 _ (kinds_below hkd (by repeat (first | exact Below.refl _ _ | assumption | exact HB.out | (with_reducible refine bt ?_ (by assumption)) | with_reducible refine bd ?_ | with_reducible refine ba ?_ _)))).mono ?_); rintro e w6 ⟨rfl, b6⟩)
    go_ret
    exact ⟨rfl, bt hb b6⟩
theorem wR_in {f n m i j : Int} (h1 : mayR f n m i = true) (h2 : inW f n m i j = true) : wR f n m i j = weightR f n m i j := by unfold wR; rw [if_pos ⟨h1, h2⟩]
theorem wR_out {f n m i j : Int} (h2 : ¬ inW f n m i j = true) : wR f n m i j = 0 := by unfold wR; rw [if_neg (fun g => h2 g.2)]
theorem cell_lt5 {w : World} {b o : Nat} {v : Value} (h : w.cell? ⟨b, o, none⟩ = some v) : b < w.heap.size := by
  by_cases g : b < w.heap.size
  · exact g
  · have e : w.heap[b]? = none := Array.getElem?_eq_none (by omega)
    simp [World.cell?, e] at h
theorem rows_wide (f n m i j : Int) (w : World) (CL : Calls Tryd.prog 8 #[] w fun e w' => e = .returned (.bool true) ∧ Below w.heap.size w w')
    (h : MayP f n m i) (hs : ¬ n / m ≤ 40) :
    Calls Tryd.prog 3 #[.int .i64 f, .int .i64 n, .int .i64 m, .int .i64 i, .int .i64 j] w fun e w' => e = .returned (.bool true) ∧ Below w.heap.size w w' := by
  have C1 := refmay_walk f n m i h
  obtain ⟨_, _, h3, h4, h5, h6, _, _⟩ := h
  have C2 := small_walk n m h3 h4 h5 h6
  rw [decide_eq_false hs] at C2
  clear hs
  go_enter Tryd.func3, Tryd.ntmps3
  go_wp2_with (first
    | (go_at_call 8; (with_reducible refine CL.mono ?_); rintro e w1 ⟨rfl, b1⟩)
    | (go_at_call 9; (with_reducible refine (C1 _).mono ?_); rintro e w2 ⟨rfl, b2⟩)
    | (go_at_call 10; (with_reducible refine (C2 _).mono ?_); rintro e w3 ⟨rfl, b3⟩))
  go_ret
  exact ⟨rfl, bt (bt b1 b2) b3⟩
set_option maxHeartbeats 4000000 in
set_option maxRecDepth 1000000 in
theorem rows_may (f n m i j : Int) (w : World) (hkd : Kinds w) (hj : I64 j) (CL : Calls Tryd.prog 8 #[] w fun e w' => e = .returned (.bool true) ∧ Below w.heap.size w w')
    (CR : RowC) (CN : WinC) (CW : WtC) (h : MayP f n m i) (hs : n / m ≤ 40) :
    Calls Tryd.prog 3 #[.int .i64 f, .int .i64 n, .int .i64 m, .int .i64 i, .int .i64 j] w fun e w' => e = .returned (.bool true) ∧ Below w.heap.size w w' := by
  have C1 := refmay_walk f n m i h
  have hmr : mayR f n m i = true := (mayR_iff f n m i).2 h
  have C3 := CR f n m i h
  have C4 := refrow_walk f n m i h
  have hM := hide h
  obtain ⟨h1, h2, h3, h4, h5, h6, h7, h8⟩ := h
  have C2 := small_walk n m h3 h4 h5 h6
  rw [decide_eq_true hs] at C2
  clear hs
  have C5 := fun x (g : I64 x) => CW f n m i x (by unfold I64; omega) (by unfold I64; omega) (by unfold I64; omega) (by unfold I64; omega) g
  have C6 := fun a c => CN f n m i a c hM.out
  clear CR CN CW
  go_enter Tryd.func3, Tryd.ntmps3
  go_wp2_with (first
    | (go_at_call 8; (with_reducible refine CL.mono ?_); rintro e w1 ⟨rfl, b1⟩)
    | (go_at_call 9; (with_reducible refine (C1 _).mono ?_); rintro e w2 ⟨rfl, b2⟩)
    | (go_at_call 10; (with_reducible refine (C2 _).mono ?_); rintro e w3 ⟨rfl, b3⟩)
    | (go_at_call 11; (with_reducible refine (C3 _ (kinds_below hkd (by repeat (first | exact Below.refl _ _ | assumption | exact HB.out | (with_reducible refine bt ?_ (by assumption)) | with_reducible refine bd ?_ | with_reducible refine ba ?_ _)))).mono ?_); rintro e w4 ⟨a, c, v, hwin, rfl, ho1, b4⟩; obtain ⟨g1, p1, rfl, l1⟩ := owns_form ho1 hwin.1)
    | (go_at_call 12; (with_reducible refine (C4 _).mono ?_); rintro e w5 ⟨a', c', v', hwin', ja0, ja1, jc, rfl, ho2, b5⟩; obtain ⟨e1, e2⟩ := win_one h5 hwin' hwin; subst e1; subst e2; obtain ⟨g2, p2, rfl, l2⟩ := owns_form ho2 hwin'.1)
    | (go_at_call 13; (with_reducible refine (C6 _ _ hwin' _ (kinds_below hkd (by repeat (first | exact Below.refl _ _ | assumption | exact HB.out | (with_reducible refine bt ?_ (by assumption)) | with_reducible refine bd ?_ | with_reducible refine ba ?_ _)))).mono ?_); rintro e w6 ⟨rfl, b6⟩))
  have O1 := owns_below (owns_below ho1 b5) b6
  have O2 := owns_below ho2 b6
  have BA := bt (bt (bt (bt (bt b1 b2) b3) b4) b5) b6
  clear ho1 ho2 b1 b2 b3 b4 b5 b6 C1 C2 C3 C4 C6 l1 l2 CL
  have WH := hide hwin'
  clear hwin' hwin
  generalize w3.heap.size = n3 at *
  generalize w4.heap.size = n4 at *
  go_loopw [79] (fun u wr => ∃ k : Nat, u = .int .i64 (k : Int) ∧ k ≤ c' ∧ Below w.heap.size w wr ∧ wr.ownsRow n3 2 1 (.slice (some ⟨g1, 0, none⟩) c' p1) c' (rowR f n m i a' c') ∧ wr.ownsRow n4 2 1 (.slice (some ⟨g2, 0, none⟩) c' p2) c' (rowR f n m i a' c')) (fun u _ => c' - (intOf u).toNat)
  case atStart => exact ⟨0, rfl, by omega, BA, O1, O2⟩
  case round =>
    clear BA O1 O2
    obtain ⟨k, rfl, hk, hb, o1, o2⟩ := hrel
    have HB := hide hb
    have HO1 := hide o1
    have HO2 := hide o2
    clear hb
    by_cases hlt : k < c'
    · have q1 := owns_cell o1 hlt
      have q2 := owns_cell o2 hlt
      have lt1 := cell_lt5 q1
      have lt2 := cell_lt5 q2
      have C7 := C5 (a' + (k : Int)) (by unfold I64; omega)
      rw [wR_in hmr ((win_iff h5 WH.out _).2 (by omega))] at C7
      clear o1 o2 C5
      generalize weightR f n m i (a' + (k : Int)) = W at q1 q2 C7
      have hw : IntKind.i64.wrap (a' + (k : Int)) = a' + (k : Int) := by rw [IntKind.wrap_i64]; omega
      rw [← hw] at C7
      clear hw
      go_wp2_with fail
      go_region_held3 (fun w' => w'.cell? ⟨g1, k, none⟩ = some (.int .i64 W) ∧ w'.cell? ⟨g2, k, none⟩ = some (.int .i64 W))
        (first | exact ⟨q1, q2⟩ | exact ⟨y1, y2⟩)
        (first
          | (go_at_call 14; (with_reducible refine (C7 _ (kinds_below hkd (by repeat (first | exact Below.refl _ _ | assumption | exact HB.out | (with_reducible refine bt ?_ (by assumption)) | with_reducible refine bd ?_ | with_reducible refine ba ?_ _)))).mono ?_); rintro e w7 ⟨rfl, b7⟩; have y1 := cb b7 lt1 q1; have y2 := cb b7 lt2 q2))
      go_wp2
      go_roundw
      case rel =>
        refine ⟨k + 1, by go_num, by omega, bt HB.out ?_, owns_below HO1.out ?_, owns_below HO2.out ?_⟩
        all_goals repeat (first | exact Below.refl _ _ | with_reducible refine bd ?_ | (with_reducible refine bt ?_ (by assumption)))
      case measure => simp [intOf]; omega
    · obtain rfl : k = c' := by omega
      clear o1 hk hlt
      have C7 := C5 j hj
      by_cases hin : inW f n m i j = true
      · obtain ⟨z0, z1⟩ := (win_iff h5 WH.out j).1 hin
        rw [wR_in hmr hin] at C7
        obtain ⟨t, ht⟩ : ∃ t : Nat, j - a' = (t : Int) := ⟨(j - a').toNat, by omega⟩
        have q2 := owns_cell o2 (show t < k by omega)
        rw [show a' + (t : Int) = j by omega] at q2
        have c0 := WH.out.1
        clear C5 o2 hin
        generalize weightR f n m i j = W at *
        have ht2 : t < k := by omega
        go_wp2_with (go_at_call 14; (with_reducible refine (C7 _ (kinds_below hkd (by repeat (first | exact Below.refl _ _ | assumption | exact HB.out | (with_reducible refine bt ?_ (by assumption)) | with_reducible refine bd ?_ | with_reducible refine ba ?_ _)))).mono ?_); rintro e w8 ⟨rfl, b8⟩)
        go_ret
        exact ⟨rfl, bt HB.out b8⟩
      · have z : j < a' ∨ (a' ≤ j ∧ a' + (k : Int) ≤ j) := by
          have := win_iff h5 WH.out j
          by_cases q : j < a'
          · exact Or.inl q
          · right
            refine ⟨by omega, ?_⟩
            by_cases q2 : a' + (k : Int) ≤ j
            · exact q2
            · exact absurd (this.2 ⟨by omega, by omega⟩) hin
        rw [wR_out hin] at C7
        have c0 := WH.out.1
        clear C5 o2 hin
        rcases z with z | ⟨z0, z1⟩
        all_goals
          go_wp2_with (go_at_call 14; (with_reducible refine (C7 _ (kinds_below hkd (by repeat (first | exact Below.refl _ _ | assumption | exact HB.out | (with_reducible refine bt ?_ (by assumption)) | with_reducible refine bd ?_ | with_reducible refine ba ?_ _)))).mono ?_); rintro e w8 ⟨rfl, b8⟩)
          go_ret
          exact ⟨rfl, bt HB.out b8⟩
theorem of_RawRows (f n m i j : Int) (w : World) (hkd : Kinds w) (hf : I64 f) (hn : I64 n) (hm : I64 m) (hi : I64 i) (hj : I64 j) (CR : RowC) (CR0 : Row0C) (CN : WinC) (CN0 : Win0C) (CW : WtC) (CK : KeysC) :
    Calls Tryd.prog 3 #[.int .i64 f, .int .i64 n, .int .i64 m, .int .i64 i, .int .i64 j] w fun e w' => e = .returned (.bool true) ∧ Below w.heap.size w w' := by
  by_cases h : MayP f n m i
  · by_cases hs : n / m ≤ 40
    · exact rows_may f n m i j w hkd hj (rlives CR CK w hkd) CR CN CW h hs
    · exact rows_wide f n m i j w (rlives CR CK w hkd) h hs
  · exact rows_none f n m i j w hkd hf hn hm hi hj (rlives CR CK w hkd) CR0 CN0 CW h
end Go.Proofs.YtjmdknbbgmajoaaDoor
