/- Parts, joined. -/
import Derived.Test.YtlknopmpbkepjaaDoorJ24
import Derived.Test.YtlknopmpbkepjaaDoorJ14
import Derived.Test.YtlknopmpbkepjaaDoorJ16
import Derived.Test.YtlknopmpbkepjaaDoorJ25
/- Operations as texts: the law on what is parsed. -/
namespace Go.Proofs.YtlknopmpbkepjaaDoor
open Go.RowKit

theorem split_len (c : Int) (l : List Int) : (splitC c l).length ≤ l.length + 1 := by
  have h := (split_join c l).1
  have hj : ∀ ps : List (List Int), ps.length ≤ (joinC c ps).length + 1 := by
    intro ps
    induction ps with
    | nil => exact Nat.zero_le _
    | cons p ps ih =>
      by_cases e : ps = []
      · subst e
        show 1 ≤ _
        omega
      · rw [join_cons e, List.length_append, List.length_cons, List.length_cons]
        omega
  have := hj (splitC c l)
  rw [h] at this
  exact this
theorem goW_len (f : List Int → Option Opr) : ∀ ps : List (List Int), (goW f ps).1.length ≤ ps.length
  | [] => Nat.le_refl _
  | p :: ps => by
    cases h : f p with
    | none => rw [goW_none h]; exact Nat.zero_le _
    | some o =>
      rw [goW_some h, List.length_cons, List.length_cons]
      exact Nat.succ_le_succ (goW_len f ps)
theorem parse_len (f : List Int → Option Opr) (s : List Int) : (parseW f s).1.length ≤ s.length + 1 := by
  unfold parseW
  by_cases h : s = []
  · rw [if_pos h]; exact Nat.zero_le _
  · rw [if_neg h]; exact Nat.le_trans (goW_len f _) (split_len 59 s)
theorem goW_mem {f : List Int → Option Opr} (hf : OneOf f) : ∀ {ps : List (List Int)} {o : Opr}, o ∈ (goW f ps).1 → wordB o ∈ ps
  | [], o, h => by cases h
  | p :: ps, o, h => by
    cases e : f p with
    | none => rw [goW_none e] at h; cases h
    | some o' =>
      rw [goW_some e] at h
      rcases List.mem_cons.1 h with rfl | h
      · rw [← ((hf _ _).1 e).2.2.2]; exact List.mem_cons_self
      · exact List.mem_cons_of_mem _ (goW_mem hf h)
theorem join_part (c : Int) : ∀ {ps : List (List Int)} {p : List Int}, p ∈ ps → p.length ≤ (joinC c ps).length
  | [], p, h => by cases h
  | q :: ps, p, h => by
    by_cases e : ps = []
    · subst e
      rw [List.mem_singleton] at h
      subst h
      exact Nat.le_refl _
    · rw [join_cons e, List.length_append, List.length_cons]
      rcases List.mem_cons.1 h with rfl | h
      · omega
      · have := join_part c h
        omega
theorem row_long : ∀ xs : List Int, xs.length ≤ (rowB xs).length := by
  intro xs
  by_cases h : xs = []
  · subst h; exact Nat.zero_le _
  · have := split_len 44 (rowB xs)
    rw [rowB_split h, List.length_map] at this
    have h2 : xs.length ≤ (rowB xs).length := by
      induction xs with
      | nil => exact absurd rfl h
      | cons x xs ih =>
        by_cases e : xs = []
        · subst e
          show 1 ≤ (intF x).length
          have := intF_ne x
          rcases hx : intF x with _ | ⟨y, u⟩
          · exact absurd hx this
          · rw [List.length_cons]; omega
        · have hj : rowB (x :: xs) = intF x ++ 44 :: rowB xs := by
            unfold rowB
            rw [List.map_cons, join_cons (by simpa using e)]
          have i2 := ih e (by have := split_len 44 (rowB xs); rw [rowB_split e, List.length_map] at this; exact this)
          rw [hj, List.length_append, List.length_cons, List.length_cons]
          omega
    exact h2
/-- Operations of a text that isn't long are little. -/
theorem parse_lit {f : List Int → Option Opr} (hf : OneOf f) {s : List Int} (hs : s.length ≤ 600) {o : Opr} (h : o ∈ (parseW f s).1) : LitW o := by
  obtain ⟨m, _, hF⟩ := parse_is hf h
  have hw : (wordB o).length ≤ 600 := by
    unfold parseW at h
    by_cases e : s = []
    · rw [if_pos e] at h; cases h
    · rw [if_neg e] at h
      have := join_part 59 (goW_mem hf h)
      rw [(split_join 59 s).1] at this
      omega
  have hb : (bodyB o).length ≤ 600 := by
    unfold wordB at hw
    rw [List.length_append, List.length_append] at hw
    omega
  by_cases k2 : o.kd = 2
  · unfold bodyB at hb
    rw [if_neg (by omega), if_neg (by omega), if_pos k2, List.length_append, List.length_append] at hb
    have := row_long o.xs
    have := row_long o.ys
    exact ⟨hF, by omega, by omega⟩
  · obtain ⟨_, hc, _⟩ := parse_is hf h
    have hx : o.xs = [] := by rw [← hc]; exact if_neg k2
    have hy : o.ys = [] := by rw [← hc]; exact if_neg k2
    exact ⟨hF, by rw [hx]; exact Nat.zero_le _, by rw [hy]; exact Nat.zero_le _⟩
set_option maxHeartbeats 8000000 in
set_option maxRecDepth 100000 in
theorem rparses_main (s : ByteArray) (w : World) (hk : KP w) :
    Calls Tryd.prog 4 #[.string s] w fun e w' => e = .returned (.bool true) ∧ Below w.heap.size w w' := by
  have CL := fun w' (b : Below w.heap.size w w') => lives13_any w' (kp_below hk b).1
  by_cases hs : 600 < s.size
  · have hs2 : (600 : Int) < (s.size : Int) := by omega
    clear hk
    go_enter Tryd.func4, Tryd.ntmps4
    go_wp2_with (first
      | (go_at_call 7; (with_reducible refine (CL _ B1.out).mono ?_); rintro e w2 ⟨rfl, b2⟩)
      | (go_at_call 7; (with_reducible refine (CL _ (Below.refl _ _)).mono ?_); rintro e w1 ⟨rfl, b1⟩; have B1 := hide b1))
    exact bodyPost_ret (v := .bool true) (by simp [results, Tryd.results4, go_sem]) rfl ⟨rfl, bt B1.out b2⟩
  obtain ⟨f, hf⟩ := one_of
  obtain ⟨L, ok, hLo⟩ : ∃ L ok, parseW f (byt s) = (L, ok) := ⟨_, _, rfl⟩
  have hlit : ∀ o ∈ L, LitW o := fun o ho => parse_lit hf (s := byt s) (by rw [byt_len]; omega) (by rw [hLo]; exact ho)
  obtain ⟨n, hn⟩ : ∃ n, L.length = n := ⟨_, rfl⟩
  have hn1 : n ≤ 601 := by
    have := parse_len f (byt s)
    rw [hLo, byt_len] at this
    simp only at this
    omega
  have CP := fun w' (b : Below w.heap.size w w') => pparse_any f hf s (by omega) w' (kp_below hk b)
  have CD := fun w' => dparse13_any f hf s (by omega) w'
  unfold PParseAns at CP
  unfold ParseAns at CD
  rw [hLo] at CP CD
  simp only [hn] at CP CD
  have CS := fun (j : Nat) (hj : j < n) => same13_any (opAt L j)
  have HLIT := hide (fun (j : Nat) (hj : j < n) => show (opAt L j).xs.length ≤ 1000000 ∧ (opAt L j).ys.length ≤ 1000000 from by
    have := hlit _ (opAt_mem (show j < L.length by omega))
    exact ⟨by have := this.2.1; omega, by have := this.2.2; omega⟩)
  have HKW := hide (fun w' (b : Below w.heap.size w w') => show KW w' from (kp_below hk b).1)
  have HN := hide hn
  have hs3 : ¬ ((600 : Int) < (s.size : Int)) := by omega
  cases ok with
  | false =>
    simp only [if_false, Bool.false_eq_true] at CP CD
    clear hlit hk hLo hf hs hn
    go_enter Tryd.func4, Tryd.ntmps4
    go_wp2_with (first
      | (go_at_call 7; (with_reducible refine (CL _ (Below.refl _ _)).mono ?_); rintro e w1 ⟨rfl, b1⟩; have B1 := hide b1)
      | (go_at_call 16; (with_reducible refine (CP _ B1.out).mono ?_); rintro e w2 ⟨⟨ad, cap, rfl, hr, hz⟩, b2⟩; have B2 := hide (bt B1.out b2); have HR := hide hr)
      | (go_at_call 17; (with_reducible refine (CD _).mono ?_); rintro e w3 ⟨⟨ad2, cap2, rfl, hr2, hz2⟩, b3⟩; have B3 := hide (bt B2.out b3); have HR3 := hide (HR.out.below b3); have HS3 := hide hr2; clear hr hz hr2 hz2 b2 b3))
    go_loopw [44] (fun i wr => ∃ k : Nat, k ≤ n ∧ i = .int .i64 (k : Int) ∧ Below w3.heap.size w3 wr) (fun i _ => n - (intOf i).toNat)
    case atStart => exact ⟨0, by omega, rfl, Below.refl _ _⟩
    case round =>
      obtain ⟨k, hk, rfl, hb⟩ := hrel
      have HB := hide hb
      by_cases hlt : k < n
      · obtain ⟨b, off, rfl, h⟩ := (HR3.out.below hb).get (show k < L.length by rw [HN.out]; exact hlt)
        obtain ⟨g0, g1, g2, g3, g6, g7, g8, ax, cx, ay, cy, g4, g5, ga⟩ := h
        obtain ⟨b2, off2, rfl, h2⟩ := (HS3.out.below hb).get (show k < L.length by rw [HN.out]; exact hlt)
        obtain ⟨i0, i1, i2, i3, i6, i7, i8, bx, dx, by_, dy, i4, i5, ia⟩ := h2
        have CSK := fun w' (bw : Below wr.heap.size wr w') => CS k hlt ax cx ay cy bx dx by_ dy w' (ga.below bw) (ia.below bw) (HLIT.out k hlt).1 (HLIT.out k hlt).2
        unfold opV at CSK
        clear CS ga ia hb
        generalize (opAt L k).kd = kd at *
        generalize (opAt L k).bd = bo at *
        generalize (opAt L k).sg = sg at *
        generalize (opAt L k).rd = rd at *
        generalize (opAt L k).xs.length = nx at *
        generalize (opAt L k).ys.length = ny at *
        generalize (opAt L k).fl = fl at *
        generalize (opAt L k).wd = wd at *
        generalize (opAt L k).ht = ht at *
        go_upto_region 10 with fail
        go_region_with (go_at_call 12; (with_reducible refine (CSK _ (bd (Below.refl _ _))).mono ?_); rintro e w5 ⟨rfl, b5⟩; have HB5 := hide (bt (bd HB.out) b5))
        all_goals
          go_wp2
          go_roundw
          case rel => exact ⟨k + 1, by omega, by go_num, HB5.out⟩
          case measure => simp [intOf]; omega
      · obtain rfl : k = n := by omega
        go_wp2
        exact bodyPost_ret (v := .bool true) (by simp [results, Tryd.results4, go_sem]) rfl ⟨rfl, bt B3.out HB.out⟩
  | true =>
    have hall : allW L = true := allW_at.2 fun j hj => (parse_is hf (s := byt s) (by rw [hLo]; exact opAt_mem hj)).1
    have hpt : printT L = s := by
      unfold printT
      rw [if_pos hall]
      have h2 := print_parse hf (s := byt s) (by rw [hLo])
      rw [hLo] at h2
      simp only at h2
      rw [h2, txt_byt]
    have hpc : printC L = 0 := by unfold printC; rw [if_pos hall]
    have CR := fun w' (b : Below w.heap.size w w') ad cap (hr : OpsAt w' ad L) => print_any L n hn (by omega) ad cap w' hr hlit (kp_below hk b).1
    rw [hpt, hpc] at CR
    clear hall hpt hpc
    simp only [if_true] at CP CD
    clear hlit hk hLo hf hs hn
    go_enter Tryd.func4, Tryd.ntmps4
    go_wp2_with (first
      | (go_at_call 7; (with_reducible refine (CL _ (Below.refl _ _)).mono ?_); rintro e w1 ⟨rfl, b1⟩; have B1 := hide b1)
      | (go_at_call 16; (with_reducible refine (CP _ B1.out).mono ?_); rintro e w2 ⟨⟨ad, cap, rfl, hr, hz⟩, b2⟩; have B2 := hide (bt B1.out b2); have HR := hide hr)
      | (go_at_call 17; (with_reducible refine (CD _).mono ?_); rintro e w3 ⟨⟨ad2, cap2, rfl, hr2, hz2⟩, b3⟩; have B3 := hide (bt B2.out b3); have HR3 := hide (HR.out.below b3); have HS3 := hide hr2; clear hr hz hr2 hz2 b2 b3))
    go_loopw [44] (fun i wr => ∃ k : Nat, k ≤ n ∧ i = .int .i64 (k : Int) ∧ Below w3.heap.size w3 wr) (fun i _ => n - (intOf i).toNat)
    case atStart => exact ⟨0, by omega, rfl, Below.refl _ _⟩
    case round =>
      obtain ⟨k, hk, rfl, hb⟩ := hrel
      have HB := hide hb
      by_cases hlt : k < n
      · obtain ⟨b, off, rfl, h⟩ := (HR3.out.below hb).get (show k < L.length by rw [HN.out]; exact hlt)
        obtain ⟨g0, g1, g2, g3, g6, g7, g8, ax, cx, ay, cy, g4, g5, ga⟩ := h
        obtain ⟨b2, off2, rfl, h2⟩ := (HS3.out.below hb).get (show k < L.length by rw [HN.out]; exact hlt)
        obtain ⟨i0, i1, i2, i3, i6, i7, i8, bx, dx, by_, dy, i4, i5, ia⟩ := h2
        have CSK := fun w' (bw : Below wr.heap.size wr w') => CS k hlt ax cx ay cy bx dx by_ dy w' (ga.below bw) (ia.below bw) (HLIT.out k hlt).1 (HLIT.out k hlt).2
        unfold opV at CSK
        clear CS ga ia hb
        generalize (opAt L k).kd = kd at *
        generalize (opAt L k).bd = bo at *
        generalize (opAt L k).sg = sg at *
        generalize (opAt L k).rd = rd at *
        generalize (opAt L k).xs.length = nx at *
        generalize (opAt L k).ys.length = ny at *
        generalize (opAt L k).fl = fl at *
        generalize (opAt L k).wd = wd at *
        generalize (opAt L k).ht = ht at *
        go_upto_region 10 with fail
        go_region_with (go_at_call 12; (with_reducible refine (CSK _ (bd (Below.refl _ _))).mono ?_); rintro e w5 ⟨rfl, b5⟩; have HB5 := hide (bt (bd HB.out) b5))
        all_goals
          go_wp2
          go_roundw
          case rel => exact ⟨k + 1, by omega, by go_num, HB5.out⟩
          case measure => simp [intOf]; omega
      · obtain rfl : k = n := by omega
        have HRK := hide (HR3.out.below hb)
        go_wp2_with (go_at_call 15; (with_reducible refine (CR _ (bt B3.out HB.out) _ _ HRK.out).mono ?_); rintro e w6 ⟨rfl, b6⟩)
        exact bodyPost_ret (v := .bool true) (by simp [results, Tryd.results4, go_sem]) rfl ⟨rfl, bt (bt B3.out HB.out) b6⟩
end Go.Proofs.YtlknopmpbkepjaaDoor

/- Operations as texts: the two laws on texts. -/
namespace Go.Proofs.YtlknopmpbkepjaaDoor
open Go.RowKit

theorem law_RecipeParses (s : ByteArray) (w : World) (hk : KP w) (_ : s.size ≤ maxLen) :
    Calls Tryd.prog 4 #[.string s] w fun e w' => e = .returned (.bool true) ∧ Below w.heap.size w w' := rparses_main s w hk
theorem law_RecipePrints (L : List Opr) (ad : Option Addr) (cap : Nat) (w : World) (hk : KP w) (hr : OpsBoth13 w ad L) (h1 : L.length ≤ maxLen) (_ : ad = none → cap = 0) :
    Calls Tryd.prog 3 #[.slice ad L.length cap] w fun e w' => e = .returned (.bool true) ∧ Below w.heap.size w w' := by
  cases h : fewB L L.length with
  | false => exact prints_no L _ rfl h1 ad cap w hk.1 hr.1 h
  | true => exact prints_yes L _ rfl h1 ad cap w hk hr.1 (small_of hr.2 h) (few_iff h).1 h
end Go.Proofs.YtlknopmpbkepjaaDoor
