/- Parts, joined. -/
import Derived.Test.YtjmjgokgjeankaaDoorJ15
import Derived.Deep.LoopGhost
/- Tables: the law on a side that stays as it is, out of what the program's calls answer. -/
namespace Go.Proofs.YtjmjgokgjeankaaDoor
open Go.RowKit


def SameC (T : World → Value → Int → List (Int × List Int) → Prop) : Prop := ∀ (n : Nat) (w : World), 1 ≤ n → n ≤ 65536 →
  Calls Tryd.prog 14 #[.int .i64 (n : Int)] w fun e w' => ∃ v, e = .returned v ∧ T w' v n (sameTo n) ∧ Below w.heap.size w w'
def Same0C : Prop := ∀ (n : Int) (w : World), n < 1 ∨ 65536 < n →
  Calls Tryd.prog 14 #[.int .i64 n] w fun e w' => e = .returned (.pointer none) ∧ Below w.heap.size w w'
theorem same_far (n : Int) (w : World) {K : World → Prop} (hk : K w) (CL : LiveC K 6) (KB : ∀ {w w' : World}, K w → Below w.heap.size w w' → K w') (h1 : 200 < n) (h2 : n ≤ 65536) :
    Calls Tryd.prog 5 #[.int .i64 n] w fun e w' => e = .returned (.bool true) ∧ Below w.heap.size w w' := by
  have CL := fun w hk => CL w hk
  have CK : ∀ w' : World, Below w.heap.size w w' → K w' := fun w' b => KB hk b
  clear hk
  go_enter Tryd.func5, Tryd.ntmps5
  go_wp2_with (go_at_call 6; (with_reducible refine (CL _ (CK _ (by repeat (first | exact Below.refl _ _ | assumption | exact HB.out | (with_reducible refine bt ?_ (by assumption)) | with_reducible refine bd ?_ | with_reducible refine ba ?_ _)))).mono ?_); rintro e w1 ⟨rfl, b1⟩)
  go_ret
  refine ⟨rfl, ?_⟩
  exact (by repeat (first | exact Below.refl _ _ | assumption | exact HB.out | (with_reducible refine bt ?_ (by assumption)) | with_reducible refine bd ?_ | with_reducible refine ba ?_ _))
theorem same_none (n : Int) (w : World) {K : World → Prop} (hk : K w) (CL : LiveC K 6) (CS : Same0C) (h : n < 1 ∨ (200 < n ∧ 65536 < n)) :
    Calls Tryd.prog 5 #[.int .i64 n] w fun e w' => e = .returned (.bool true) ∧ Below w.heap.size w w' := by
  have CL := fun w hk => CL w hk
  have CS := fun w => CS n w (by omega)
  rcases h with h | ⟨h, h'⟩
  all_goals
    go_enter Tryd.func5, Tryd.ntmps5
    go_wp2_with (first
      | (go_at_call 6; (with_reducible refine (CL _ hk).mono ?_); rintro e w1 ⟨rfl, b1⟩)
      | (go_at_call 14; (with_reducible refine (CS _).mono ?_); rintro e w2 ⟨rfl, b2⟩))
    go_ret
    exact ⟨rfl, bt b1 b2⟩
theorem three_lines {w : World} {T : TypeId} {a b c : Int} {u v x : Value} {ts us xs : List Int} (h1 : Ret .i64 ts w u) (h2 : Ret .i64 us w v) (h3 : Ret .i64 xs w x) :
    LinesAt (w.alloc (.cells #[.int .i64 a, u, .int .i64 b, v, .int .i64 c, x] T)) w.heap.size [(a, ts), (b, us), (c, xs)] := by
  intro j hj
  match j, hj with
  | 0, _ => exact ⟨by simp [lnAt], u, by simp, h1.below (below1 _ _)⟩
  | 1, _ => exact ⟨by simp [lnAt], v, by simp, h2.below (below1 _ _)⟩
  | 2, _ => exact ⟨by simp [lnAt], x, by simp, h3.below (below1 _ _)⟩
set_option maxRecDepth 100000 in
set_option maxHeartbeats 4000000 in
theorem same_near {K : World → Prop} {T : World → Value → Int → List (Int × List Int) → Prop} (TC : TabC K T) (CR : ResizeC K T) (CS : SameC T) (CL : LiveC K 6) (n : Nat) (w : World) (hk : K w) (n0 : 1 ≤ n) (n1 : n ≤ 200) :
    Calls Tryd.prog 5 #[.int .i64 (n : Int)] w fun e w' => e = .returned (.bool true) ∧ Below w.heap.size w w' := by
  have CL := fun w hk => CL w hk
  have CK : ∀ w' : World, Below w.heap.size w w' → K w' := fun w' b => TC.kbelow hk b
  obtain ⟨e1, l1⟩ := res_box (n := (n : Int)) (by omega) (by omega)
  obtain ⟨e2, l2⟩ := res_cubic (n := (n : Int)) (by omega) (by omega)
  have C1 := fun w hk => CR 0 n n (by omega) (by omega) (by omega) (by omega) (by omega) (by omega) w hk
  have C2 := fun w hk => CR 1 n n (by omega) (by omega) (by omega) (by omega) (by omega) (by omega) w hk
  have C3 := fun w => CS n w n0 (by omega)
  rw [e1, Int.toNat_natCast] at C1
  rw [e2, Int.toNat_natCast] at C2
  have A0 : ∀ (j : Nat), j < n → lnAt (sameTo n) j = ((j : Int), [16384]) := fun j hj => sameTo_at hj
  have A1 : ∀ (j : Nat), j < n → lnAt (linesTo 0 n n n) j = ((j : Int), [16384]) := fun j hj => (linesTo_at hj).trans (l1 j)
  have A2 : ∀ (j : Nat), j < n → lnAt (linesTo 1 n n n) j = ((j : Int) - 1, [0, 16384, 0]) := fun j hj => (linesTo_at hj).trans (l2 j)
  have CT : ∀ {w' : World} {v : Value}, T w' v n (sameTo n) → Calls Tryd.prog 11 #[v] w' fun e w'' => e = .returned (.int .i64 (n : Int)) ∧ Below w'.heap.size w' w'' := by
    intro w' v h
    have := TC.cto h
    rw [sameTo_len] at this
    exact this
  have CM : ∀ {w' : World} {v : Value}, T w' v n (sameTo n) → Calls Tryd.prog 12 #[v] w' fun e w'' => e = .returned (.int .i64 1) ∧ Below w'.heap.size w' w'' := by
    intro w' v h
    have := TC.most h
    rw [most_same n n0] at this
    exact this
  have HN0 := hide (sameTo_len n)
  have HN1 := hide (linesTo_len 0 n n n)
  have HN2 := hide (linesTo_len 1 n n n)
  have HA0 := hide A0
  have HA1 := hide A1
  have HA2 := hide A2
  clear CR CS e1 e2 l1 l2 hk A0 A1 A2
  generalize sameTo n = L0 at *
  generalize linesTo 0 n n n = L1 at *
  generalize linesTo 1 n n n = L2 at *
  go_enter Tryd.func5, Tryd.ntmps5
  go_wp2_with (first
    | (go_at_call 6; (with_reducible refine (CL _ (CK _ (by repeat (first | exact Below.refl _ _ | assumption | exact HB.out | (with_reducible refine bt ?_ (by assumption)) | with_reducible refine bd ?_ | with_reducible refine ba ?_ _)))).mono ?_); rintro e w1 ⟨rfl, b1⟩)
    | (go_at_call 14; (with_reducible refine (C3 _).mono ?_); rintro e w2 ⟨v0, rfl, hT0, b2⟩; have HT0 := hide hT0; clear hT0; obtain ⟨a0, rfl⟩ := TC.ptr HT0.out)
    | (go_at_call 7; (with_reducible refine (C1 _ (CK _ (by repeat (first | exact Below.refl _ _ | assumption | exact HB.out | (with_reducible refine bt ?_ (by assumption)) | with_reducible refine bd ?_ | with_reducible refine ba ?_ _)))).mono ?_); rintro e w3 ⟨v1, rfl, hT1, _, b3⟩; have HT1 := hide (hT1 (by trivial)); clear hT1; obtain ⟨a1, rfl⟩ := TC.ptr HT1.out)
    | (go_at_call 7; (with_reducible refine (C2 _ (CK _ (by repeat (first | exact Below.refl _ _ | assumption | exact HB.out | (with_reducible refine bt ?_ (by assumption)) | with_reducible refine bd ?_ | with_reducible refine ba ?_ _)))).mono ?_); rintro e w4 ⟨v2, rfl, hT2, _, b4⟩; have HT2 := hide (hT2 (by trivial)); clear hT2; obtain ⟨a2, rfl⟩ := TC.ptr HT2.out)
    | (go_at_call 11; (with_reducible refine (CT (TC.below HT0.out (bt b3 b4))).mono ?_); rintro e w5 ⟨rfl, b5⟩)
    | (go_at_call 12; (with_reducible refine (CM (TC.below HT0.out (bt (bt b3 b4) b5))).mono ?_); rintro e w6 ⟨rfl, b6⟩))
  have T0 := hide (TC.below HT0.out (bt (bt (bt b3 b4) b5) b6))
  have T1 := hide (TC.below HT1.out (bt (bt b4 b5) b6))
  have T2 := hide (TC.below HT2.out (bt b5 b6))
  have BW := hide (bt (bt (bt (bt (bt b1 b2) b3) b4) b5) b6)
  clear b1 b2 b3 b4 b5 b6 C1 C2 C3 CT CM CL CK HT0 HT1 HT2
  have X0 : ∀ (w' : World), Below w6.heap.size w6 w' → ∀ j : Nat, j < n → Calls Tryd.prog 8 #[.pointer (some a0), .int .i64 (j : Int)] w' fun e w'' => ∃ u, e = .returned (.agg #[.int .i64 (j : Int), u]) ∧ OwnI .i64 2 w'' w'.heap.size u [16384] ∧ Below w'.heap.size w' w'' := by
    intro w' b j hj
    have := TC.line (TC.below T0.out b) j (by rw [HN0.out]; exact hj)
    rw [HA0.out j hj] at this
    exact this
  have X1 : ∀ (w' : World), Below w6.heap.size w6 w' → ∀ j : Nat, j < n → Calls Tryd.prog 8 #[.pointer (some a1), .int .i64 (j : Int)] w' fun e w'' => ∃ u, e = .returned (.agg #[.int .i64 (j : Int), u]) ∧ OwnI .i64 2 w'' w'.heap.size u [16384] ∧ Below w'.heap.size w' w'' := by
    intro w' b j hj
    have := TC.line (TC.below T1.out b) j (by rw [HN1.out]; exact hj)
    rw [HA1.out j hj] at this
    exact this
  have X2 : ∀ (w' : World), Below w6.heap.size w6 w' → ∀ j : Nat, j < n → Calls Tryd.prog 8 #[.pointer (some a2), .int .i64 (j : Int)] w' fun e w'' => ∃ u, e = .returned (.agg #[.int .i64 ((j : Int) - 1), u]) ∧ OwnI .i64 2 w'' w'.heap.size u [0, 16384, 0] ∧ Below w'.heap.size w' w'' := by
    intro w' b j hj
    have := TC.line (TC.below T2.out b) j (by rw [HN2.out]; exact hj)
    rw [HA2.out j hj] at this
    exact this
  go_loopg [77] n (fun r i wr => ∃ j : Nat, j + r = n ∧ i = .int .i64 (j : Int) ∧ Below w6.heap.size w6 wr)
  case atStart => exact ⟨0, by omega, rfl, Below.refl _ _⟩
  case round =>
    obtain ⟨j, hj, rfl, hb⟩ := hrel
    obtain ⟨G, hG⟩ : ∃ G, G = gk := ⟨_, rfl⟩
    subst hG
    obtain ⟨W, hW⟩ : ∃ W, W = wr := ⟨_, rfl⟩
    subst hW
    have HJ := hide hj
    have HB := hide hb
    clear hb hj
    by_cases hlt : j < n
    · go_wp2_with (first
        | (go_at_call 8; (with_reducible refine (X0 _ (by repeat (first | exact Below.refl _ _ | assumption | exact HB.out | (with_reducible refine bt ?_ (by assumption)) | with_reducible refine bd ?_ | with_reducible refine ba ?_ _)) j hlt).mono ?_); rintro e w7 ⟨u0, rfl, o0, b7⟩; obtain ⟨d0, p0, rfl, r0, _⟩ := o0.formn (show [(16384 : Int)].length = 1 from rfl))
        | (go_at_call 8; (with_reducible refine (X1 _ (by repeat (first | exact Below.refl _ _ | assumption | exact HB.out | (with_reducible refine bt ?_ (by assumption)) | with_reducible refine bd ?_ | with_reducible refine ba ?_ _)) j hlt).mono ?_); rintro e w8 ⟨u1, rfl, o1, b8⟩; obtain ⟨d1, p1, rfl, r1, _⟩ := o1.formn (show [(16384 : Int)].length = 1 from rfl))
        | (go_at_call 8; (with_reducible refine (X2 _ (by repeat (first | exact Below.refl _ _ | assumption | exact HB.out | (with_reducible refine bt ?_ (by assumption)) | with_reducible refine bd ?_ | with_reducible refine ba ?_ _)) j hlt).mono ?_); rintro e w9 ⟨u2, rfl, o2, b9⟩; obtain ⟨d2, p2, rfl, r2, _⟩ := o2.formn (show [(0 : Int), 16384, 0].length = 3 from rfl)))
      have LA3 := three_lines (T := 31) (a := (j : Int)) (b := (j : Int)) (c := (j : Int) - 1) (u := .slice d0 1 p0) (v := .slice d1 1 p1) (x := .slice d2 3 p2) (ts := [16384]) (us := [16384]) (xs := [0, 16384, 0]) (w := w9)
        ⟨d0, p0, rfl, r0.below (bt b8 b9)⟩ ⟨d1, p1, rfl, r1.below b9⟩ ⟨d2, p2, rfl, r2⟩
      have B9 := hide (ba (bt (bt (bt HB.out b7) b8) b9) (.cells #[.int .i64 (j : Int), .slice d0 1 p0, .int .i64 (j : Int), .slice d1 1 p1, .int .i64 ((j : Int) - 1), .slice d2 3 p2] 31))
      have LONE : ∀ q, q < 3 → OneLn (j : Int) (lnAt [((j : Int), [16384]), ((j : Int), [16384]), ((j : Int) - 1, [0, 16384, 0])] q) ∧ -1 ≤ (lnAt [((j : Int), [16384]), ((j : Int), [16384]), ((j : Int) - 1, [0, 16384, 0])] q).1 ∧ (lnAt [((j : Int), [16384]), ((j : Int), [16384]), ((j : Int) - 1, [0, 16384, 0])] q).1 ≤ 200 ∧ (lnAt [((j : Int), [16384]), ((j : Int), [16384]), ((j : Int) - 1, [0, 16384, 0])] q).2.length ≤ 3 := by
        intro q hq
        match q, hq with
        | 0, _ => exact ⟨one_box _, by show (-1 : Int) ≤ (j : Int); omega, by show (j : Int) ≤ 200; omega, by show 1 ≤ 3; omega⟩
        | 1, _ => exact ⟨one_box _, by show (-1 : Int) ≤ (j : Int); omega, by show (j : Int) ≤ 200; omega, by show 1 ≤ 3; omega⟩
        | 2, _ => exact ⟨one_cubic _, by show (-1 : Int) ≤ (j : Int) - 1; omega, by show (j : Int) - 1 ≤ 200; omega, by show 3 ≤ 3; omega⟩
      have LLEN : [((j : Int), [(16384 : Int)]), ((j : Int), [16384]), ((j : Int) - 1, [0, 16384, 0])].length = 3 := rfl
      have HLA := hide LA3
      have HLO := hide LONE
      have HLL := hide LLEN
      clear LA3 LONE LLEN b7 b8 b9 o0 o1 o2 r0 r1 r2
      generalize [((j : Int), [(16384 : Int)]), ((j : Int), [16384]), ((j : Int) - 1, [0, 16384, 0])] = ls at HLA HLO HLL
      generalize w9.alloc (.cells #[.int .i64 (j : Int), .slice d0 1 p0, .int .i64 (j : Int), .slice d1 1 p1, .int .i64 ((j : Int) - 1), .slice d2 3 p2] 31) = Wl at *
      go_loopg [91] 3 (fun r i wr => ∃ q : Nat, q + r = 3 ∧ i = .int .i64 (q : Int) ∧ Below Wl.heap.size Wl wr)
      case atStart => exact ⟨0, by omega, rfl, Below.refl _ _⟩
      case round =>
        obtain ⟨q, hq, rfl, hb⟩ := hrel
        obtain ⟨G2, hG2⟩ : ∃ G2, G2 = gk := ⟨_, rfl⟩
        subst hG2
        obtain ⟨W2, hW2⟩ : ∃ W2, W2 = wr := ⟨_, rfl⟩
        subst hW2
        have HQ := hide hq
        have HB2 := hide hb
        clear hb hq
        by_cases hlt2 : q < 3
        · obtain ⟨c1, u, c2, ad, cp, rfl, hrow⟩ := (HLA.out.below HB2.out) q (by rw [HLL.out]; exact hlt2)
          obtain ⟨hone, f0, f1, m1⟩ := HLO.out q hlt2
          obtain ⟨f, ts, he⟩ : ∃ f ts, lnAt ls q = (f, ts) := ⟨_, _, rfl⟩
          rw [he] at c1 c2 hone f0 f1 m1 hrow
          obtain ⟨m0, hone⟩ := hone
          obtain ⟨m, hm⟩ : ∃ m, ts.length = m := ⟨_, rfl⟩
          replace c1 : W2.cell? ⟨w9.heap.size, q * 2, none⟩ = some (.int .i64 f) := c1
          replace f0 : -1 ≤ f := f0
          replace f1 : f ≤ 200 := f1
          replace m0 : 1 ≤ ts.length := m0
          replace m1 : ts.length ≤ 3 := m1
          replace c2 : W2.cell? ⟨w9.heap.size, q * 2 + 1, none⟩ = some (.slice ad ts.length cp) := c2
          replace hone : ∀ t : Nat, t < ts.length → (f + (t : Int) = (j : Int) → ts.getD t 0 = 16384) ∧ (f + (t : Int) ≠ (j : Int) → ts.getD t 0 = 0) := hone
          replace hrow : RowAt .i64 W2 ad ts := hrow
          rw [hm] at c2 m0 m1 hone
          have HONE := hide hone
          have HROW := hide hrow
          have HM := hide hm
          have mz : ((m : Int) == 0) = false := beq_eq_false_iff_ne.2 (by omega)
          have hq3 : decide ((q : Int) < 3) = true := decide_eq_true (by omega)
          clear he hone hrow hm
          go_wp2
          go_loopg [98] m (fun r i wi => ∃ t : Nat, t + r = m ∧ i = .int .i64 (t : Int) ∧ wi = W2.alloc (.cells #[.int .i64 f, .slice ad m cp] 31))
          case atStart => exact ⟨0, by omega, rfl, rfl⟩
          case round =>
            obtain ⟨t, ht, rfl, rfl⟩ := hrel
            have HT := hide ht
            clear ht
            by_cases hlt3 : t < m
            · obtain ⟨b, off, rfl, hc⟩ := (HROW.out.below (below1 W2 (.cells #[.int .i64 f, .slice ad m cp] 31))).get (show t < ts.length by rw [HM.out]; exact hlt3)
              by_cases hx : f + (t : Int) = (j : Int)
              · rw [(HONE.out t hlt3).1 hx] at hc
                have hxb : (f + (t : Int) == (j : Int)) = true := beq_iff_eq.2 hx
                have HX := hide hx
                clear hx
                go_wp2
                go_roundg (gk - 1)
                case measure => have := HT.out; omega
                case rel => exact ⟨t + 1, by have := HT.out; omega, by go_num, rfl⟩
              · rw [(HONE.out t hlt3).2 hx] at hc
                have hxb : (f + (t : Int) == (j : Int)) = false := beq_eq_false_iff_ne.2 hx
                have hxn : (f + (t : Int) != (j : Int)) = true := bne_iff_ne.2 hx
                clear hx
                go_wp2
                go_roundg (gk - 1)
                case measure => have := HT.out; omega
                case rel => exact ⟨t + 1, by have := HT.out; omega, by go_num, rfl⟩
            · obtain rfl : t = m := by have := HT.out; omega
              clear hlt3
              go_wp2
              go_roundg (G2 - 1)
              case measure => have := HQ.out; omega
              case rel => exact ⟨q + 1, by have := HQ.out; omega, by go_num, ba HB2.out _⟩
        · obtain rfl : q = 3 := by have := HQ.out; omega
          clear hlt2
          go_wp2
          go_roundg (G - 1)
          case measure => have := HJ.out; omega
          case rel => exact ⟨j + 1, by have := HJ.out; omega, by go_num, bt B9.out HB2.out⟩
    · obtain rfl : j = n := by have := HJ.out; omega
      clear hlt
      go_wp2
      go_ret
      exact ⟨rfl, bt BW.out HB.out⟩
theorem of_TableSame {K : World → Prop} {T : World → Value → Int → List (Int × List Int) → Prop} (TC : TabC K T) (CR : ResizeC K T) (CS : SameC T) (CS0 : Same0C) (CL : LiveC K 6) (n : Int) (w : World) (hk : K w) :
    Calls Tryd.prog 5 #[.int .i64 n] w fun e w' => e = .returned (.bool true) ∧ Below w.heap.size w w' := by
  by_cases h1 : 200 < n ∧ n ≤ 65536
  · exact same_far n w hk CL TC.kbelow h1.1 h1.2
  by_cases h2 : n < 1 ∨ (200 < n ∧ 65536 < n)
  · exact same_none n w hk CL CS0 h2
  · obtain ⟨k, rfl⟩ : ∃ k : Nat, n = (k : Int) := ⟨n.toNat, by omega⟩
    exact same_near TC CR CS CL k w hk (by omega) (by omega)
end Go.Proofs.YtjmjgokgjeankaaDoor
