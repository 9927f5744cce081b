/- Parts, joined. -/
import Derived.Test.YtaafhjngnjjcmaaGreatDoorJ22
import Derived.Test.YtaafhjngnjjcmaaGreatDoorJ26
import Derived.Test.YtaafhjngnjjcmaaGreatDoorJ16
import Derived.Test.YtaafhjngnjjcmaaGreatDoorJ21
import Derived.Deep.RegionHeld3
import Derived.Deep.DeepCutAuto
import Derived.BigQuiet
/- What comes out: what a column, a row, takes. Written by gen_XS15Q.py. -/
namespace Go.Proofs.YtaafhjngnjjcmaaGreatDoor
open Go.RowKit

/-- A line of a table, also of one that there isn't. -/
theorem lineI_any {w : World} {v : Value} {n : Int} {L : List (Int × List Int)} (h : Tab w v n L) (i : Int) (i0 : -9223372036854775808 ≤ i) (i1 : i ≤ 9223372036854775807) (m : Nat) (hm : (lnI L i).2.length = m) :
    Calls Tryz.prog 80 #[v, .int .i64 i] w fun e w' => (∃ ad cap, e = .returned (.agg #[.int .i64 (lnI L i).1, .slice ad m cap]) ∧ RowAt .i64 w' ad (lnI L i).2 ∧ FarRow w.heap.size ad (lnI L i).2) ∧ Below w.heap.size w w' := by
  by_cases g : i < 0 ∨ (L.length : Int) ≤ i
  · rw [lnI_out g] at hm ⊢
    subst hm
    refine (tab_noline h i i0 i1 g).mono ?_
    rintro e w' ⟨ad, cap, rfl, b⟩
    exact ⟨⟨ad, cap, rfl, .inl rfl, .inl rfl⟩, b⟩
  · obtain ⟨j, rfl⟩ := Int.eq_ofNat_of_zero_le (show 0 ≤ i by omega)
    rw [lnI_at] at hm ⊢
    refine (tab_line h j (by omega)).mono ?_
    rintro e w' ⟨u, rfl, own, b⟩
    by_cases h0 : m = 0
    · obtain ⟨ad, cap, rfl, r⟩ := own.formn hm
      exact ⟨⟨ad, cap, rfl, r.1, .inl (List.length_eq_zero_iff.1 (by omega))⟩, b⟩
    · obtain ⟨b1, cap, rfl, hb, _, r, _, _⟩ := own_row own hm (by omega)
      exact ⟨⟨some ⟨b1, 0, none⟩, cap, rfl, r, .inr ⟨b1, 0, rfl, hb⟩⟩, b⟩
theorem lnI_in {L : List (Int × List Int)} (h : LinesOk L) (i : Int) : -1099511627776 ≤ (lnI L i).1 ∧ (lnI L i).1 ≤ 1099511627776 ∧ (lnI L i).2.length ≤ 1048576 := by
  by_cases g : i < 0 ∨ (L.length : Int) ≤ i
  · rw [lnI_out g]
    exact ⟨by decide, by decide, by decide⟩
  · obtain ⟨j, rfl⟩ := Int.eq_ofNat_of_zero_le (show 0 ≤ i by omega)
    rw [lnI_at]
    have := h j (by omega)
    exact ⟨this.1, this.2.1, this.2.2.2.1⟩
theorem lnI_small {L : List (Int × List Int)} (h : SmallL L) (i : Int) : SmallT (lnI L i).2 := by
  unfold lnI
  split
  · exact small_at h _
  · exact small_nil
theorem sumI_out {I : Im} {S : Stg} {x y c : Int} (h : (inB (S.lx.length : Int) x && inB (S.ly.length : Int) y && inB I.ic c) = false) : sumI I S x y c = 0 := by
  by_cases hx : x < 0 ∨ (S.lx.length : Int) ≤ x
  · unfold sumI; rw [lnI_out hx]; rfl
  by_cases hy : y < 0 ∨ (S.ly.length : Int) ≤ y
  · unfold sumI; rw [lnI_out (L := S.ly) hy]; exact tapS_zero _ _
  have hc : ¬(0 ≤ c ∧ c < I.ic) := by
    intro q
    simp only [Bool.and_eq_false_iff] at h
    unfold inB at h
    simp at h
    omega
  have e : ∀ a b, imAt I a b c = 0 := by
    intro a b
    unfold imAt
    rw [if_neg]
    rw [hasF_iff]
    omega
  unfold sumI
  rw [tapS_congr (g := fun _ => 0) (fun i _ => ?_)]
  · exact tapS_zero _ _
  · rw [tapS_congr (g := fun _ => 0) (fun k _ => e _ _)]
    exact tapS_zero _ _
set_option maxHeartbeats 4000000 in
set_option maxRecDepth 100000 in
theorem column_any {w : World} {xv yv : Value} {S : Stg} (hT : Tab w xv S.fx S.lx) (hs : SmallL S.lx) (s0 : 0 ≤ S.sb) (s1 : S.sb ≤ 2) (i : Int) (i0 : -9223372036854775808 ≤ i) (i1 : i ≤ 9223372036854775807) :
    Calls Tryz.prog 56 #[.agg #[xv, yv, .int .i64 S.sb], .int .i64 i] w fun e w' => GathAt w' w.heap.size e S.sb (lnI S.lx i).1 S.fx (lnI S.lx i).2 ∧ Below w.heap.size w w' := by
  obtain ⟨hok, _, _, n0, n1⟩ := hT.ok
  obtain ⟨f0, f1, hl⟩ := lnI_in hok i
  have sm := lnI_small hs i
  obtain ⟨n, hn⟩ : ∃ n : Nat, S.fx = (n : Int) := ⟨S.fx.toNat, by omega⟩
  obtain ⟨m, hm⟩ : ∃ m, (lnI S.lx i).2.length = m := ⟨_, rfl⟩
  have CL := fun w' (b' : Below w.heap.size w w') => lineI_any (hT.below b') i i0 i1 m hm
  have CF := fun w' (b' : Below w.heap.size w w') => tab_from (hT.below b')
  rw [hn] at n0 n1 CF ⊢
  obtain ⟨f, hf⟩ : ∃ f, (lnI S.lx i).1 = f := ⟨_, rfl⟩
  obtain ⟨ts, hts⟩ : ∃ ts, (lnI S.lx i).2 = ts := ⟨_, rfl⟩
  rw [hts] at hm hl sm CL ⊢
  rw [hf] at f0 f1 CL ⊢
  have CG := fun ad cap w' (hr : RowAt .i64 w' ad ts) B hB hf => gather_any S.sb f n ts m hm ad cap w' hr B hB hf s0 s1 (by omega) (by omega) f0 f1 sm (by omega)
  generalize S.sb = sb at *
  obtain ⟨W0, hW0⟩ : ∃ W0, (w.alloc (.cells #[xv, yv, .int .i64 sb] 44)).alloc (.cells #[.slice none 0 0, .slice none 0 0] 92) = W0 := ⟨_, rfl⟩
  have B0 := hide (show Below w.heap.size w W0 by rw [← hW0]; exact ba (below1 _ _) _)
  have C0 := hide (show W0.cell? ⟨w.heap.size, 0, none⟩ = some xv ∧ W0.cell? ⟨w.heap.size, 2, none⟩ = some (.int .i64 sb) by rw [← hW0]; constructor <;> simp)
  have R0 := hide (show (W0.cell? ⟨w.heap.size + 1, 0, none⟩ = some (.slice none 0 0) ∧ W0.frozen? ⟨w.heap.size + 1, 0, none⟩ = false) ∧ W0.cell? ⟨w.heap.size + 1, 1, none⟩ = some (.slice none 0 0) ∧ W0.frozen? ⟨w.heap.size + 1, 1, none⟩ = false by rw [← hW0]; simp)
  have Z0 := hide (show W0.heap.size = w.heap.size + 1 + 1 by rw [← hW0]; simp)
  obtain ⟨av, rfl⟩ := hT.ptr
  clear hT hok hs hn hts hf s0 s1 f0 f1 hl sm n0 n1
  go_enter Tryz.func56, Tryz.ntmps56
  go_upto_region 1 with fail
  clear hW0
  obtain ⟨q0, q1⟩ := C0.out
  go_upto_region 2 with (go_at_call 80; (with_reducible refine (CL _ B0.out).mono ?_); rintro e w2 ⟨⟨ad, cap, rfl, hr, hfr⟩, b2⟩; have K2 := hide b2; have H2 := hide hr; have HFR := hide hfr; clear hr b2 hfr)
  obtain ⟨W2, hW2⟩ : ∃ W2, w2.alloc (.cells #[.int .i64 f, .slice ad m cap] 127) = W2 := ⟨_, rfl⟩
  have B2 := hide (show Below W0.heap.size W0 W2 by rw [← hW2]; exact ba K2.out _)
  have D2 := hide (show W2.cell? ⟨w2.heap.size, 0, none⟩ = some (.int .i64 f) ∧ W2.cell? ⟨w2.heap.size, 1, none⟩ = some (.slice ad m cap) by rw [← hW2]; constructor <;> simp)
  have H3 := hide (show RowAt .i64 W2 ad ts by rw [← hW2]; exact H2.out.below (below1 _ _))
  have Z2 := hide (show w2.heap.size < W2.heap.size ∧ W0.heap.size ≤ w2.heap.size by rw [← hW2]; exact ⟨by simp, K2.out.size⟩)
  obtain ⟨RB, hRB⟩ : ∃ RB, w2.heap.size = RB := ⟨_, rfl⟩
  rw [hW2, hRB]
  rw [hRB] at D2 Z2
  clear hW2 hRB K2 H2 q0 q1
  obtain ⟨d0, d1⟩ := D2.out
  have z0 := Z0.out
  obtain ⟨z1, z2⟩ := Z2.out
  have q0 := cb B2.out (by omega) C0.out.1
  have q1 := cb B2.out (by omega) C0.out.2
  have R2 := hide (show (W2.cell? ⟨w.heap.size + 1, 0, none⟩ = some (.slice none 0 0) ∧ W2.frozen? ⟨w.heap.size + 1, 0, none⟩ = false) ∧ W2.cell? ⟨w.heap.size + 1, 1, none⟩ = some (.slice none 0 0) ∧ W2.frozen? ⟨w.heap.size + 1, 1, none⟩ = false from ⟨⟨cb B2.out (by omega) R0.out.1.1, fb B2.out (by omega) R0.out.1.2⟩, cb B2.out (by omega) R0.out.2.1, fb B2.out (by omega) R0.out.2.2⟩)
  have E2 := hide (bt B0.out B2.out)
  have HSZ := hide (fun (w' : World) (b' : Below W2.heap.size W2 w') => show W0.heap.size ≤ w'.heap.size by have := b'.size; have := B2.out.size; omega)
  clear R0 C0 CL B2 Z0 Z2 D2
  have n1 : w.heap.size + 1 ≠ RB := by omega
  have n2 : w.heap.size + 1 ≠ w.heap.size := by omega
  go_region_held3 (fun w' => w'.cell? ⟨w.heap.size, 0, none⟩ = some (.pointer (some av)) ∧ w'.cell? ⟨w.heap.size, 2, none⟩ = some (.int .i64 sb) ∧ w'.cell? ⟨RB, 0, none⟩ = some (.int .i64 f) ∧ w'.cell? ⟨RB, 1, none⟩ = some (.slice ad m cap)) (first | with_reducible assumption | (with_reducible exact ⟨q0, q1, d0, d1⟩) | (with_reducible exact ⟨x0, x1, x2, x3⟩) | (with_reducible exact ⟨y0, y1, y2, y3⟩) | (simp only [set_apart (Or.inl n1), set_apart (Or.inl n2), y0, y1, y2, y3, and_self]; done) | go_keep)
    (first
      | (go_at_call 53; (with_reducible refine (CF _ (bt E2.out (by repeat (first | exact Below.refl _ _ | (with_reducible refine bdN ?_ _) | with_reducible refine bd ?_)))).mono ?_); rintro e w3 ⟨rfl, b3⟩; have D3 : Below W2.heap.size W2 w3 := bt (by repeat (first | exact Below.refl _ _ | (with_reducible refine bdN ?_ _) | with_reducible refine bd ?_)) b3; have K3 := hide D3; have x0 := cb D3 (by omega) q0; have x1 := cb D3 (by omega) q1; have x2 := cb D3 (by omega) d0; have x3 := cb D3 (by omega) d1; clear D3)
      | (go_at_call 83; (with_reducible refine (CG _ _ _ (H3.out.below (bt K3.out (by repeat (first | exact Below.refl _ _ | (with_reducible refine bdN ?_ _) | with_reducible refine bd ?_)))) W0.heap.size (HSZ.out _ (bt K3.out (by repeat (first | exact Below.refl _ _ | (with_reducible refine bdN ?_ _) | with_reducible refine bd ?_)))) HFR.out).mono ?_); rintro e w4 ⟨⟨P, W, N, u, v, cu, cv, rfl, hP, hW, rp, rw', fp, fw, hg⟩, b4⟩; have K4 := hide (show Below W2.heap.size W2 w4 from bt (bt K3.out (by repeat (first | exact Below.refl _ _ | (with_reducible refine bdN ?_ _) | with_reducible refine bd ?_))) b4); have G4 := hide (show GathAt w4 W0.heap.size (.returned (.agg #[.slice u N cu, .slice v N cv])) sb f (n : Int) ts from ⟨P, W, N, u, v, cu, cv, rfl, hP, hW, rp, rw', fp, fw, hg⟩); have y0 := cb K4.out (by omega) q0; have y1 := cb K4.out (by omega) q1; have y2 := cb K4.out (by omega) d0; have y3 := cb K4.out (by omega) d1; obtain ⟨⟨p0, p1⟩, p2, p3⟩ := R2.out; have p0 := cb K4.out (by omega) p0; have p1 := fb K4.out (by omega) p1; have p2 := cb K4.out (by omega) p2; have p3 := fb K4.out (by omega) p3; clear hP hW rp rw' fp fw hg b4))
  all_goals
    go_wp2_with fail
    have GS := hide (G4.out.stored ((grown_set w4 (w.heap.size + 1) 0 (.slice u N cu)).trans (grown_set _ (w.heap.size + 1) 1 (.slice v N cv))) (by omega))
    have BS := hide (bs (bs (bt E2.out K4.out) (b := w.heap.size + 1) (o := 0) (Nat.le_succ _) (.slice u N cu)) (b := w.heap.size + 1) (o := 1) (Nat.le_succ _) (.slice v N cv))
    obtain ⟨P1, W1, N1, u1, v1, cu1, cv1, he, hP, hW, ru, rv, fu, fv, hg⟩ := GS.out
    exact bodyPost_ret (v := .agg #[.slice u N cu, .slice v N cv]) (by simp [results, Tryz.results56, go_sem, p0, p2]) rfl ⟨⟨P1, W1, N1, u1, v1, cu1, cv1, he, hP, hW, ru, rv, fu.mono (by omega), fv.mono (by omega), hg⟩, BS.out⟩
set_option maxHeartbeats 4000000 in
set_option maxRecDepth 100000 in
theorem row_any {w : World} {xv yv : Value} {S : Stg} (hT : Tab w yv S.fy S.ly) (hs : SmallL S.ly) (s0 : 0 ≤ S.sb) (s1 : S.sb ≤ 2) (i : Int) (i0 : -9223372036854775808 ≤ i) (i1 : i ≤ 9223372036854775807) :
    Calls Tryz.prog 49 #[.agg #[xv, yv, .int .i64 S.sb], .int .i64 i] w fun e w' => GathAt w' w.heap.size e S.sb (lnI S.ly i).1 S.fy (lnI S.ly i).2 ∧ Below w.heap.size w w' := by
  obtain ⟨hok, _, _, n0, n1⟩ := hT.ok
  obtain ⟨f0, f1, hl⟩ := lnI_in hok i
  have sm := lnI_small hs i
  obtain ⟨n, hn⟩ : ∃ n : Nat, S.fy = (n : Int) := ⟨S.fy.toNat, by omega⟩
  obtain ⟨m, hm⟩ : ∃ m, (lnI S.ly i).2.length = m := ⟨_, rfl⟩
  have CL := fun w' (b' : Below w.heap.size w w') => lineI_any (hT.below b') i i0 i1 m hm
  have CF := fun w' (b' : Below w.heap.size w w') => tab_from (hT.below b')
  rw [hn] at n0 n1 CF ⊢
  obtain ⟨f, hf⟩ : ∃ f, (lnI S.ly i).1 = f := ⟨_, rfl⟩
  obtain ⟨ts, hts⟩ : ∃ ts, (lnI S.ly i).2 = ts := ⟨_, rfl⟩
  rw [hts] at hm hl sm CL ⊢
  rw [hf] at f0 f1 CL ⊢
  have CG := fun ad cap w' (hr : RowAt .i64 w' ad ts) B hB hf => gather_any S.sb f n ts m hm ad cap w' hr B hB hf s0 s1 (by omega) (by omega) f0 f1 sm (by omega)
  generalize S.sb = sb at *
  obtain ⟨W0, hW0⟩ : ∃ W0, (w.alloc (.cells #[xv, yv, .int .i64 sb] 44)).alloc (.cells #[.slice none 0 0, .slice none 0 0] 92) = W0 := ⟨_, rfl⟩
  have B0 := hide (show Below w.heap.size w W0 by rw [← hW0]; exact ba (below1 _ _) _)
  have C0 := hide (show W0.cell? ⟨w.heap.size, 1, none⟩ = some yv ∧ W0.cell? ⟨w.heap.size, 2, none⟩ = some (.int .i64 sb) by rw [← hW0]; constructor <;> simp)
  have R0 := hide (show (W0.cell? ⟨w.heap.size + 1, 0, none⟩ = some (.slice none 0 0) ∧ W0.frozen? ⟨w.heap.size + 1, 0, none⟩ = false) ∧ W0.cell? ⟨w.heap.size + 1, 1, none⟩ = some (.slice none 0 0) ∧ W0.frozen? ⟨w.heap.size + 1, 1, none⟩ = false by rw [← hW0]; simp)
  have Z0 := hide (show W0.heap.size = w.heap.size + 1 + 1 by rw [← hW0]; simp)
  obtain ⟨av, rfl⟩ := hT.ptr
  clear hT hok hs hn hts hf s0 s1 f0 f1 hl sm n0 n1
  go_enter Tryz.func49, Tryz.ntmps49
  go_upto_region 1 with fail
  clear hW0
  obtain ⟨q0, q1⟩ := C0.out
  go_upto_region 2 with (go_at_call 80; (with_reducible refine (CL _ B0.out).mono ?_); rintro e w2 ⟨⟨ad, cap, rfl, hr, hfr⟩, b2⟩; have K2 := hide b2; have H2 := hide hr; have HFR := hide hfr; clear hr b2 hfr)
  obtain ⟨W2, hW2⟩ : ∃ W2, w2.alloc (.cells #[.int .i64 f, .slice ad m cap] 127) = W2 := ⟨_, rfl⟩
  have B2 := hide (show Below W0.heap.size W0 W2 by rw [← hW2]; exact ba K2.out _)
  have D2 := hide (show W2.cell? ⟨w2.heap.size, 0, none⟩ = some (.int .i64 f) ∧ W2.cell? ⟨w2.heap.size, 1, none⟩ = some (.slice ad m cap) by rw [← hW2]; constructor <;> simp)
  have H3 := hide (show RowAt .i64 W2 ad ts by rw [← hW2]; exact H2.out.below (below1 _ _))
  have Z2 := hide (show w2.heap.size < W2.heap.size ∧ W0.heap.size ≤ w2.heap.size by rw [← hW2]; exact ⟨by simp, K2.out.size⟩)
  obtain ⟨RB, hRB⟩ : ∃ RB, w2.heap.size = RB := ⟨_, rfl⟩
  rw [hW2, hRB]
  rw [hRB] at D2 Z2
  clear hW2 hRB K2 H2 q0 q1
  obtain ⟨d0, d1⟩ := D2.out
  have z0 := Z0.out
  obtain ⟨z1, z2⟩ := Z2.out
  have q0 := cb B2.out (by omega) C0.out.1
  have q1 := cb B2.out (by omega) C0.out.2
  have R2 := hide (show (W2.cell? ⟨w.heap.size + 1, 0, none⟩ = some (.slice none 0 0) ∧ W2.frozen? ⟨w.heap.size + 1, 0, none⟩ = false) ∧ W2.cell? ⟨w.heap.size + 1, 1, none⟩ = some (.slice none 0 0) ∧ W2.frozen? ⟨w.heap.size + 1, 1, none⟩ = false from ⟨⟨cb B2.out (by omega) R0.out.1.1, fb B2.out (by omega) R0.out.1.2⟩, cb B2.out (by omega) R0.out.2.1, fb B2.out (by omega) R0.out.2.2⟩)
  have E2 := hide (bt B0.out B2.out)
  have HSZ := hide (fun (w' : World) (b' : Below W2.heap.size W2 w') => show W0.heap.size ≤ w'.heap.size by have := b'.size; have := B2.out.size; omega)
  clear R0 C0 CL B2 Z0 Z2 D2
  have n1 : w.heap.size + 1 ≠ RB := by omega
  have n2 : w.heap.size + 1 ≠ w.heap.size := by omega
  go_region_held3 (fun w' => w'.cell? ⟨w.heap.size, 1, none⟩ = some (.pointer (some av)) ∧ w'.cell? ⟨w.heap.size, 2, none⟩ = some (.int .i64 sb) ∧ w'.cell? ⟨RB, 0, none⟩ = some (.int .i64 f) ∧ w'.cell? ⟨RB, 1, none⟩ = some (.slice ad m cap)) (first | with_reducible assumption | (with_reducible exact ⟨q0, q1, d0, d1⟩) | (with_reducible exact ⟨x0, x1, x2, x3⟩) | (with_reducible exact ⟨y0, y1, y2, y3⟩) | (simp only [set_apart (Or.inl n1), set_apart (Or.inl n2), y0, y1, y2, y3, and_self]; done) | go_keep)
    (first
      | (go_at_call 53; (with_reducible refine (CF _ (bt E2.out (by repeat (first | exact Below.refl _ _ | (with_reducible refine bdN ?_ _) | with_reducible refine bd ?_)))).mono ?_); rintro e w3 ⟨rfl, b3⟩; have D3 : Below W2.heap.size W2 w3 := bt (by repeat (first | exact Below.refl _ _ | (with_reducible refine bdN ?_ _) | with_reducible refine bd ?_)) b3; have K3 := hide D3; have x0 := cb D3 (by omega) q0; have x1 := cb D3 (by omega) q1; have x2 := cb D3 (by omega) d0; have x3 := cb D3 (by omega) d1; clear D3)
      | (go_at_call 83; (with_reducible refine (CG _ _ _ (H3.out.below (bt K3.out (by repeat (first | exact Below.refl _ _ | (with_reducible refine bdN ?_ _) | with_reducible refine bd ?_)))) W0.heap.size (HSZ.out _ (bt K3.out (by repeat (first | exact Below.refl _ _ | (with_reducible refine bdN ?_ _) | with_reducible refine bd ?_)))) HFR.out).mono ?_); rintro e w4 ⟨⟨P, W, N, u, v, cu, cv, rfl, hP, hW, rp, rw', fp, fw, hg⟩, b4⟩; have K4 := hide (show Below W2.heap.size W2 w4 from bt (bt K3.out (by repeat (first | exact Below.refl _ _ | (with_reducible refine bdN ?_ _) | with_reducible refine bd ?_))) b4); have G4 := hide (show GathAt w4 W0.heap.size (.returned (.agg #[.slice u N cu, .slice v N cv])) sb f (n : Int) ts from ⟨P, W, N, u, v, cu, cv, rfl, hP, hW, rp, rw', fp, fw, hg⟩); have y0 := cb K4.out (by omega) q0; have y1 := cb K4.out (by omega) q1; have y2 := cb K4.out (by omega) d0; have y3 := cb K4.out (by omega) d1; obtain ⟨⟨p0, p1⟩, p2, p3⟩ := R2.out; have p0 := cb K4.out (by omega) p0; have p1 := fb K4.out (by omega) p1; have p2 := cb K4.out (by omega) p2; have p3 := fb K4.out (by omega) p3; clear hP hW rp rw' fp fw hg b4))
  all_goals
    go_wp2_with fail
    have GS := hide (G4.out.stored ((grown_set w4 (w.heap.size + 1) 0 (.slice u N cu)).trans (grown_set _ (w.heap.size + 1) 1 (.slice v N cv))) (by omega))
    have BS := hide (bs (bs (bt E2.out K4.out) (b := w.heap.size + 1) (o := 0) (Nat.le_succ _) (.slice u N cu)) (b := w.heap.size + 1) (o := 1) (Nat.le_succ _) (.slice v N cv))
    obtain ⟨P1, W1, N1, u1, v1, cu1, cv1, he, hP, hW, ru, rv, fu, fv, hg⟩ := GS.out
    exact bodyPost_ret (v := .agg #[.slice u N cu, .slice v N cv]) (by simp [results, Tryz.results49, go_sem, p0, p2]) rfl ⟨⟨P1, W1, N1, u1, v1, cu1, cv1, he, hP, hW, ru, rv, fu.mono (by omega), fv.mono (by omega), hg⟩, BS.out⟩
end Go.Proofs.YtaafhjngnjjcmaaGreatDoor

/- Images in memory: the record g, the samples h. No number of the program stands in it. -/
namespace Go.Proofs.YtaafhjngnjjcmaaGreatDoor
open Go.RowKit


/-- The record g and the samples h hold this image. -/
def ImgAt (w : World) (g h : Nat) (I : Im) : Prop :=
  ∃ cap, w.cell? ⟨g, 0, none⟩ = some (.int .i64 I.iw) ∧ w.cell? ⟨g, 1, none⟩ = some (.int .i64 I.ih) ∧ w.cell? ⟨g, 2, none⟩ = some (.int .i64 I.ic) ∧ w.cell? ⟨g, 3, none⟩ = some (.int .i64 I.it) ∧
    w.cell? ⟨g, 4, none⟩ = some (.slice (some ⟨h, 0, none⟩) I.il.length cap) ∧ RowAt .u16 w (some ⟨h, 0, none⟩) I.il ∧ (∀ j, j < I.il.length → w.frozen? ⟨h, j, none⟩ = false) ∧ I.il.length ≤ cap ∧ g ≠ h ∧ ImOk I
theorem ImgAt.ok {w : World} {g h : Nat} {I : Im} (H : ImgAt w g h I) : ImOk I := by
  obtain ⟨_, _, _, _, _, _, _, _, _, _, k⟩ := H
  exact k
theorem ImgAt.ne {w : World} {g h : Nat} {I : Im} (H : ImgAt w g h I) : g ≠ h := by
  obtain ⟨_, _, _, _, _, _, _, _, _, k, _⟩ := H
  exact k
theorem ImgAt.lt {w : World} {g h : Nat} {I : Im} (H : ImgAt w g h I) : g < w.heap.size ∧ h < w.heap.size := by
  obtain ⟨_, c0, _, _, _, _, r, _, _, _, k⟩ := H
  exact ⟨cell_ltL c0, cell_ltL (r.at (imOk_len k).1)⟩
theorem ImgAt.below {w w' : World} {g h : Nat} {I : Im} (H : ImgAt w g h I) (hb : Below w.heap.size w w') : ImgAt w' g h I := by
  have hl := H.lt
  obtain ⟨cap, c0, c1, c2, c3, c4, r, z, hc, hne, k⟩ := H
  exact ⟨cap, cb hb hl.1 c0, cb hb hl.1 c1, cb hb hl.1 c2, cb hb hl.1 c3, cb hb hl.1 c4, r.below hb, fun j hj => fb hb hl.2 (z j hj), hc, hne, k⟩
theorem ImgAt.grown {w w' : World} {g h : Nat} {I : Im} {row : Option Nat} (H : ImgAt w g h I) (hg : w.grownBy w' row) (n1 : some g ≠ row) (n2 : some h ≠ row) : ImgAt w' g h I := by
  obtain ⟨cap, c0, c1, c2, c3, c4, r, z, hc, hne, k⟩ := H
  exact ⟨cap, cg hg n1 c0, cg hg n1 c1, cg hg n1 c2, cg hg n1 c3, cg hg n1 c4, r.grown hg n2, fun j hj => fg hg n2 (by have := r.at hj; rw [Nat.zero_add] at this; exact this) (z j hj), hc, hne, k⟩
/-- A sample is set. -/
theorem ImgAt.put {w : World} {g h : Nat} {I : Im} (H : ImgAt w g h I) {x y z v : Int} (v0 : 0 ≤ v) (hs : setOk I x y z v = true) : ImgAt (w.setCell ⟨h, (imPlace I x y z).toNat, none⟩ (.int .u16 v)) g h (imSet I x y z v) := by
  have hg := grown_set w h (imPlace I x y z).toNat (.int .u16 v)
  obtain ⟨cap, c0, c1, c2, c3, c4, r, zz, hc, hne, k⟩ := H
  have k' := imSet_ok (x := x) (y := y) (z := z) k v0
  have hh : hasF I x y z = true := by unfold setOk at hs; exact (Bool.and_eq_true .. ▸ hs).1
  obtain ⟨_, hp, _, _⟩ := imPlace_in k hh
  have r' := r.put _ hp v
  rw [Nat.zero_add] at r'
  have e : imSet I x y z v = { I with il := I.il.set (imPlace I x y z).toNat v } := by unfold imSet; rw [if_pos hs]
  rw [e] at k' ⊢
  have n1 : some g ≠ some h := fun e => hne (Option.some.inj e)
  refine ⟨cap, cg hg n1 c0, cg hg n1 c1, cg hg n1 c2, cg hg n1 c3, ?_, r', fun j hj => ?_, ?_, hne, k'⟩
  · rw [List.length_set]; exact cg hg n1 c4
  · rw [World.frozen?_setCell]
    exact zz j (by simpa using hj)
  · rw [List.length_set]; exact hc
/-- A new image: its samples are made, its record is laid. -/
theorem ImgAt.new {w : World} {h cap : Nat} {I : Im} {T : TypeId} (hr : RowAt .u16 w (some ⟨h, 0, none⟩) I.il) (hz : ∀ j, w.frozen? ⟨h, j, none⟩ = false) (hc : I.il.length ≤ cap) (k : ImOk I) :
    ImgAt (w.alloc (.cells #[.int .i64 I.iw, .int .i64 I.ih, .int .i64 I.ic, .int .i64 I.it, .slice (some ⟨h, 0, none⟩) I.il.length cap] T)) w.heap.size h I := by
  have hl := cell_ltL (hr.at (imOk_len k).1)
  exact ⟨cap, by simp, by simp, by simp, by simp, by simp, hr.below (below1 _ _), fun j hj => fb (below1 _ _) hl (hz j), hc, Nat.ne_of_gt hl, k⟩
/-- What a call answers that makes an image. -/
def ImgNew (B : Nat) (w : World) (v : Value) (I : Im) : Prop := ∃ g h, v = .pointer (some ⟨g, 0, none⟩) ∧ B ≤ g ∧ B ≤ h ∧ ImgAt w g h I
theorem allU {xs : List Int} (h : AllK .u16 xs) : ∀ x ∈ xs, 0 ≤ x ∧ x ≤ 65535 := fun x hx => by simpa [Lit.wf, IntKind.min, IntKind.max, IntKind.signed, IntKind.bits] using h x hx
end Go.Proofs.YtaafhjngnjjcmaaGreatDoor

/- Images: which sizes may be; the program's and the document's. -/
namespace Go.Proofs.YtaafhjngnjjcmaaGreatDoor
open Go.RowKit


theorem rside_yes (n : Int) (n0 : 1 ≤ n) (n1 : n ≤ 65536) (w : World) :
    Calls Tryz.prog 104 #[.int .i64 n] w fun e w' => e = .returned (.bool true) ∧ w = w' := by
  go_enter Tryz.func104, Tryz.ntmps104
  go_wp2
  go_ret
  first | exact ⟨rfl, rfl⟩ | exact ⟨ret_bool (decide_eq_true (by omega)), rfl⟩
theorem rside_no (n : Int) (h : ¬(1 ≤ n ∧ n ≤ 65536)) (w : World) :
    Calls Tryz.prog 104 #[.int .i64 n] w fun e w' => e = .returned (.bool false) ∧ w = w' := by
  rcases (show n < 1 ∨ 65536 < n by omega) with h' | h'
  all_goals
    clear h
    go_enter Tryz.func104, Tryz.ntmps104
    go_wp2
    go_ret
    first | exact ⟨rfl, rfl⟩ | exact ⟨ret_bool (decide_eq_false (by omega)), rfl⟩
theorem rmay_yes (c : Int) (h : c = 1 ∨ c = 3) (w : World) :
    Calls Tryz.prog 96 #[.int .i64 c] w fun e w' => e = .returned (.bool true) ∧ w = w' := by
  rcases h with rfl | rfl
  all_goals
    go_enter Tryz.func96, Tryz.ntmps96
    go_wp2
    go_ret
    exact ⟨rfl, rfl⟩
theorem rmay_no (c : Int) (h : ¬(c = 1 ∨ c = 3)) (w : World) :
    Calls Tryz.prog 96 #[.int .i64 c] w fun e w' => e = .returned (.bool false) ∧ w = w' := by
  have e1 : (c == 1) = false := beq_eq_false_iff_ne.2 (by omega)
  have e3 : (c == 3) = false := beq_eq_false_iff_ne.2 (by omega)
  clear h
  go_enter Tryz.func96, Tryz.ntmps96
  go_wp2
  go_ret
  exact ⟨rfl, rfl⟩
theorem fitsF_no {a b c : Int} (h : ¬(1 ≤ a ∧ a ≤ 65536) ∨ ¬(1 ≤ b ∧ b ≤ 65536) ∨ ¬(c = 1 ∨ c = 3)) : fitsF a b c = false := by
  cases e : fitsF a b c with
  | false => rfl
  | true =>
    have := fitsF_iff.1 e
    omega
theorem fitsF_is {a b c : Int} (ha : 1 ≤ a ∧ a ≤ 65536) (hb : 1 ≤ b ∧ b ≤ 65536) (hc : c = 1 ∨ c = 3) : fitsF a b c = decide (a * b * c ≤ 268435456) := by
  unfold fitsF
  exact decide_eq_decide.2 ⟨fun h => h.2.2.2.2.2, fun h => ⟨ha.1, ha.2, hb.1, hb.2, hc, h⟩⟩
theorem rfits_any (a b c : Int) (w : World) :
    Calls Tryz.prog 73 #[.int .i64 a, .int .i64 b, .int .i64 c] w fun e w' => e = .returned (.bool (fitsF a b c)) ∧ w = w' := by
  by_cases ha : 1 ≤ a ∧ a ≤ 65536
  · have S1 := rside_yes a ha.1 ha.2
    by_cases hb : 1 ≤ b ∧ b ≤ 65536
    · have S2 := rside_yes b hb.1 hb.2
      by_cases hc : c = 1 ∨ c = 3
      · have S3 := rmay_yes c hc
        rw [fitsF_is ha hb hc]
        obtain ⟨m0, m1⟩ := side_mul ha.1 ha.2 hb.1 hb.2
        obtain ⟨p0, p1⟩ := side_mul3 ha.1 ha.2 hb.1 hb.2 hc
        clear ha hb hc
        go_enter Tryz.func73, Tryz.ntmps73
        go_wp2_with (first
          | (go_at_call 104; (with_reducible refine (S1 _).mono ?_); rintro e w1 ⟨rfl, rfl⟩)
          | (go_at_call 104; (with_reducible refine (S2 _).mono ?_); rintro e w1 ⟨rfl, rfl⟩)
          | (go_at_call 96; (with_reducible refine (S3 _).mono ?_); rintro e w1 ⟨rfl, rfl⟩))
        go_ret
        exact ⟨rfl, rfl⟩
      · have S3 := rmay_no c hc
        rw [fitsF_no (.inr (.inr hc))]
        clear ha hb hc
        go_enter Tryz.func73, Tryz.ntmps73
        go_wp2_with (first
          | (go_at_call 104; (with_reducible refine (S1 _).mono ?_); rintro e w1 ⟨rfl, rfl⟩)
          | (go_at_call 104; (with_reducible refine (S2 _).mono ?_); rintro e w1 ⟨rfl, rfl⟩)
          | (go_at_call 96; (with_reducible refine (S3 _).mono ?_); rintro e w1 ⟨rfl, rfl⟩))
        go_ret
        exact ⟨rfl, rfl⟩
    · have S2 := rside_no b hb
      rw [fitsF_no (.inr (.inl hb))]
      clear ha hb
      go_enter Tryz.func73, Tryz.ntmps73
      go_wp2_with (first
        | (go_at_call 104; (with_reducible refine (S1 _).mono ?_); rintro e w1 ⟨rfl, rfl⟩)
        | (go_at_call 104; (with_reducible refine (S2 _).mono ?_); rintro e w1 ⟨rfl, rfl⟩))
      go_ret
      exact ⟨rfl, rfl⟩
  · have S1 := rside_no a ha
    rw [fitsF_no (.inl ha)]
    clear ha
    go_enter Tryz.func73, Tryz.ntmps73
    go_wp2_with (go_at_call 104; (with_reducible refine (S1 _).mono ?_); rintro e w1 ⟨rfl, rfl⟩)
    go_ret
    exact ⟨rfl, rfl⟩
theorem codeF_t {a b c t : Int} (h : t < 1 ∨ 65535 < t) : codeF a b c t = 2 := by unfold codeF; rw [if_pos (by omega)]
theorem codeF_c {a b c t : Int} (h : ¬(c = 1 ∨ c = 3)) : codeF a b c t = 2 := by unfold codeF; rw [if_pos (.inr (.inr h))]
theorem codeF_f {a b c t : Int} (h : ¬(t < 1 ∨ 65535 < t)) (hc : c = 1 ∨ c = 3) : codeF a b c t = if fitsF a b c = true then 0 else 5 := by
  unfold codeF
  rw [if_neg (by omega)]
theorem rcheck_any (a b c t : Int) (w : World) :
    Calls Tryz.prog 66 #[.int .i64 a, .int .i64 b, .int .i64 c, .int .i64 t] w fun e w' => e = .returned (.int .i64 (codeF a b c t)) ∧ w = w' := by
  by_cases ht : t < 1 ∨ 65535 < t
  · rw [codeF_t ht]
    rcases ht with ht | ht
    all_goals
      go_enter Tryz.func66, Tryz.ntmps66
      go_wp2
      go_ret
      exact ⟨rfl, rfl⟩
  · have t0 : 1 ≤ t := by omega
    have t1 : t ≤ 65535 := by omega
    by_cases hc : c = 1 ∨ c = 3
    · have S3 := rmay_yes c hc
      have S4 := rfits_any a b c
      rw [codeF_f ht hc]
      cases hf : fitsF a b c with
      | true =>
        rw [hf] at S4
        rw [if_pos rfl]
        clear hf ht hc
        go_enter Tryz.func66, Tryz.ntmps66
        go_wp2_with (first
          | (go_at_call 96; (with_reducible refine (S3 _).mono ?_); rintro e w1 ⟨rfl, rfl⟩)
          | (go_at_call 73; (with_reducible refine (S4 _).mono ?_); rintro e w1 ⟨rfl, rfl⟩))
        go_ret
        exact ⟨rfl, rfl⟩
      | false =>
        rw [hf] at S4
        rw [if_neg (by decide)]
        clear hf ht hc
        go_enter Tryz.func66, Tryz.ntmps66
        go_wp2_with (first
          | (go_at_call 96; (with_reducible refine (S3 _).mono ?_); rintro e w1 ⟨rfl, rfl⟩)
          | (go_at_call 73; (with_reducible refine (S4 _).mono ?_); rintro e w1 ⟨rfl, rfl⟩))
        go_ret
        exact ⟨rfl, rfl⟩
    · have S3 := rmay_no c hc
      rw [codeF_c hc]
      clear hc ht
      go_enter Tryz.func66, Tryz.ntmps66
      go_wp2_with (go_at_call 96; (with_reducible refine (S3 _).mono ?_); rintro e w1 ⟨rfl, rfl⟩)
      go_ret
      exact ⟨rfl, rfl⟩
/-! ### The document's -/
theorem dfits_any (a b c : Int) (w : World) :
    Calls Tryz.prog 32 #[.int .i64 a, .int .i64 b, .int .i64 c] w fun e w' => e = .returned (.bool (fitsF a b c)) ∧ w = w' := by
  by_cases ha : 1 ≤ a ∧ a ≤ 65536
  · obtain ⟨a0, a1⟩ := ha
    by_cases hb : 1 ≤ b ∧ b ≤ 65536
    · obtain ⟨b0, b1⟩ := hb
      by_cases hc : c = 1 ∨ c = 3
      · rw [fitsF_is ⟨a0, a1⟩ ⟨b0, b1⟩ hc]
        obtain ⟨m0, m1⟩ := side_mul a0 a1 b0 b1
        rcases hc with rfl | rfl
        all_goals
          go_enter Tryz.func32, Tryz.ntmps32
          go_wp2
          go_ret
          exact ⟨ret_bool (decide_eq_decide.2 (by omega)), rfl⟩
      · rw [fitsF_no (.inr (.inr hc))]
        have e1 : (c != 1) = true := bne_iff_ne.2 (by omega)
        have e3 : (c != 3) = true := bne_iff_ne.2 (by omega)
        clear hc
        go_enter Tryz.func32, Tryz.ntmps32
        go_wp2
        go_ret
        exact ⟨rfl, rfl⟩
    · rw [fitsF_no (.inr (.inl hb))]
      rcases (show b < 1 ∨ 65536 < b by omega) with h' | h'
      all_goals
        clear hb
        go_enter Tryz.func32, Tryz.ntmps32
        go_wp2
        go_ret
        exact ⟨rfl, rfl⟩
  · rw [fitsF_no (.inl ha)]
    rcases (show a < 1 ∨ 65536 < a by omega) with h' | h'
    all_goals
      clear ha
      go_enter Tryz.func32, Tryz.ntmps32
      go_wp2
      go_ret
      exact ⟨rfl, rfl⟩
end Go.Proofs.YtaafhjngnjjcmaaGreatDoor
