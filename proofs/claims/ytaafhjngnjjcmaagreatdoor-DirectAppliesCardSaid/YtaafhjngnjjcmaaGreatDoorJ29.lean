/- Parts, joined. -/
import Derived.Test.YtaafhjngnjjcmaaGreatDoorJ28
import Derived.Deep.LoopGhost
import Derived.Deep.RegionHeld3
import Derived.Deep.QuietTactic
import Derived.Deep.RegionWith
/- What comes out: what all columns take: the walk. -/
namespace Go.Proofs.YtaafhjngnjjcmaaGreatDoor
open Go.RowKit

set_option maxHeartbeats 8000000 in
set_option maxRecDepth 100000 in
theorem dir_columns {w : World} {xv yv : Value} {S : Stg} (hT : Tab w xv S.fx S.lx) (hs : NearL S.lx) (N : Nat) (hN : S.lx.length = N) :
    Calls Tryz.prog 47 #[.agg #[xv, yv, .int .i64 S.sb]] w fun e w' => (∃ h, e = .returned (.slice (some ⟨h, 0, none⟩) N N) ∧ w.heap.size ≤ h ∧ ∀ i, i < N → ColAt w' w.heap.size h S i) ∧ Below w.heap.size w w' := by
  obtain ⟨hok, l0, l1, n0, n1⟩ := hT.ok
  rw [hN] at l0 l1
  obtain ⟨lo, hlo⟩ : ∃ lo, (reachF S.lx 0 (N : Int)).1 = lo := ⟨_, rfl⟩
  obtain ⟨hi, hhi⟩ : ∃ hi, (reachF S.lx 0 (N : Int)).2.1 = hi := ⟨_, rfl⟩
  have hcov : ∀ j, j < N → lo ≤ (lnAt S.lx j).1 ∧ (lnAt S.lx j).1 + ((lnAt S.lx j).2.length : Int) ≤ hi := by
    intro j hj
    have := (reach_all S.lx (N : Int) N (Int.le_refl _)).2 j hj
    rw [show reachTo S.lx 0 (N : Int) N = reachF S.lx 0 (N : Int) by unfold reachF; rw [hN], hlo, hhi] at this
    exact this
  have hnear : -1048576 ≤ lo ∧ hi ≤ 2097152 := by
    have := reach_near hs (N : Int) N (by omega)
    rw [show reachTo S.lx 0 (N : Int) N = reachF S.lx 0 (N : Int) by unfold reachF; rw [hN], hlo, hhi] at this
    exact this
  obtain ⟨r0, r1⟩ := hnear
  have h00 := hcov 0 (by omega)
  have h01 := (hok 0 (by omega)).2.2.1
  obtain ⟨c, hc⟩ : ∃ c : Nat, hi - lo = (c : Int) := ⟨(hi - lo).toNat, by omega⟩
  have CT := fun w' (b : Below w.heap.size w w') => tab_to (hT.below b)
  have CR := fun w' (b : Below w.heap.size w w') => tab_reach (hT.below b) 0 (N : Int) (by omega) (by omega) (by omega) (by omega)
  have CF := fun w' (b : Below w.heap.size w w') => tab_from (hT.below b)
  have CL := hide (fun w' (b : Below w.heap.size w w') (j : Nat) (hj : j < N) => tab_line (hT.below b) j (by omega))
  simp only [hN] at CT
  simp only [hlo, hhi, hc] at CR
  have CS := fun w' => span_wide S.sb lo S.fx c (by omega) (by omega) (by omega) (by omega) w'
  have HSL := hide (spanTo_len S.sb lo S.fx c)
  have HCOV := hide hcov
  have HOK := hide (fun (j : Nat) (hj : j < N) => hok j (by omega))
  have c0 : 1 ≤ c := by omega
  have c1 : c ≤ 3145728 := by omega
  have HHI := hide hc
  obtain ⟨zs, MK, MO⟩ := makeCol N (by omega)
  have HMO := hide MO
  obtain ⟨av, rfl⟩ := hT.ptr
  obtain ⟨W0, hW0⟩ : ∃ W0, w.alloc (.cells #[.pointer (some av), yv, .int .i64 S.sb] 44) = W0 := ⟨_, rfl⟩
  have B0 := hide (show Below w.heap.size w W0 by rw [← hW0]; exact below1 _ _)
  have C0 := hide (show W0.cell? ⟨w.heap.size, 0, none⟩ = some (.pointer (some av)) ∧ W0.cell? ⟨w.heap.size, 2, none⟩ = some (.int .i64 S.sb) by rw [← hW0]; constructor <;> simp)
  have Z0 := hide (show w.heap.size < W0.heap.size by rw [← hW0]; simp)
  clear hT hs hok hcov h00 h01 hlo hhi hc MO
  have HPL := hide (fun (d m : Nat) (h : d + m ≤ c) => span_part S.sb lo S.fx h)
  obtain ⟨sb, hsb⟩ : ∃ sb, S.sb = sb := ⟨_, rfl⟩
  obtain ⟨fx, hfx⟩ : ∃ fx, S.fx = fx := ⟨_, rfl⟩
  obtain ⟨PL, hPL⟩ : ∃ PL, spanTo S.sb lo S.fx c = PL := ⟨_, rfl⟩
  rw [hPL] at CS HSL
  simp only [hPL] at HPL
  rw [hsb, hfx] at CS
  rw [hsb] at C0 hW0 ⊢
  rw [hfx] at CF
  clear hPL hsb hfx
  have z0 := Z0.out
  go_enter Tryz.func47, Tryz.ntmps47
  go_upto_region 1 with fail
  clear hW0
  obtain ⟨q0, q1⟩ := C0.out
  go_cut [3, 4] (fun a b wx => a = .int .i64 lo ∧ b = .int .i64 (c : Int) ∧ Below W0.heap.size W0 wx)
  case first =>
    go_region_held3 (fun w' => w'.cell? ⟨w.heap.size, 0, none⟩ = some (.pointer (some av))) (first | with_reducible assumption | go_keep)
      (first
        | (go_at_call 18; (with_reducible refine (CT _ (bt B0.out (by repeat (first | exact Below.refl _ _ | (with_reducible refine bdN ?_ _) | with_reducible refine bd ?_)))).mono ?_); rintro e w3 ⟨rfl, b3⟩; have D3 : Below W0.heap.size W0 w3 := bt (by repeat (first | exact Below.refl _ _ | (with_reducible refine bdN ?_ _) | with_reducible refine bd ?_)) b3; have K3 := hide D3; have x0 := cb D3 z0 q0; clear D3 b3)
        | (go_at_call 78; (with_reducible refine (CR _ (bt B0.out (bt K3.out (by repeat (first | exact Below.refl _ _ | (with_reducible refine bdN ?_ _) | with_reducible refine bd ?_))))).mono ?_); rintro e w4 ⟨rfl, b4⟩; have D4 : Below W0.heap.size W0 w4 := bt (bt K3.out (by repeat (first | exact Below.refl _ _ | (with_reducible refine bdN ?_ _) | with_reducible refine bd ?_))) b4; have K4 := hide D4; have y0 := cb D4 z0 q0; clear D4 b4))
    all_goals
      go_wp2_with fail
      go_meet
      exact ⟨rfl, rfl, by repeat (first | exact K4.out | (with_reducible refine bdN ?_ _) | with_reducible refine bd ?_)⟩
  case rest =>
    obtain ⟨rfl, rfl, hb⟩ := hcut
    have H1 := hide hb
    clear hb
    go_upto_region 2 with fail
    have q0 := cb H1.out z0 C0.out.1
    have q1 := cb H1.out z0 C0.out.2
    have zx : W0.heap.size ≤ wc.heap.size := H1.out.size
    have HZX := hide zx
    go_cut [3, 5] (fun a p wx => a = .int .i64 lo ∧ (∃ pb pc, p = .slice (some ⟨pb, 0, none⟩) c pc ∧ W0.heap.size ≤ pb ∧ pb < wx.heap.size ∧ c ≤ pc ∧ RowAt .i64 wx (some ⟨pb, 0, none⟩) PL) ∧ Below W0.heap.size W0 wx)
    case first =>
      go_region_held3 (fun w' => w'.cell? ⟨w.heap.size, 0, none⟩ = some (.pointer (some av)) ∧ w'.cell? ⟨w.heap.size, 2, none⟩ = some (.int .i64 sb)) (first | with_reducible assumption | (with_reducible exact ⟨q0, q1⟩) | (with_reducible exact ⟨x0, x1⟩) | (with_reducible exact ⟨y0, y1⟩) | go_keep)
        (first
          | (go_at_call 53; (with_reducible refine (CF _ (bt B0.out (bt H1.out (by repeat (first | exact Below.refl _ _ | (with_reducible refine bdN ?_ _) | with_reducible refine bd ?_))))).mono ?_); rintro e w3 ⟨rfl, b3⟩; have D3 : Below W0.heap.size W0 w3 := bt (bt H1.out (by repeat (first | exact Below.refl _ _ | (with_reducible refine bdN ?_ _) | with_reducible refine bd ?_))) b3; have K3 := hide D3; have x0 := cb D3 z0 C0.out.1; have x1 := cb D3 z0 C0.out.2; clear D3 b3)
          | (go_at_call 79; (with_reducible refine (CS _).mono ?_); rintro e w4 ⟨v, rfl, own, b4⟩; have D4 : Below W0.heap.size W0 w4 := bt (bt K3.out (by repeat (first | exact Below.refl _ _ | (with_reducible refine bdN ?_ _) | with_reducible refine bd ?_))) b4; have K4 := hide D4; obtain ⟨pb, pc, rfl, hpb, hpl, hrow, hcap, _⟩ := own_row own HSL.out c0; have KP := hide (And.intro hpb (And.intro hpl (And.intro hrow hcap))); have KS := hide K3.out.size; have y0 := cb D4 z0 C0.out.1; have y1 := cb D4 z0 C0.out.2; clear D4 b4 own hpb hpl hrow hcap))
      all_goals
        go_wp2_with fail
        go_meet
        obtain ⟨k0, k1, k2, k3⟩ := KP.out
        have ks := KS.out
        exact ⟨rfl, ⟨pb, pc, rfl, by omega, k1, k3, k2⟩, by repeat (first | exact K4.out | (with_reducible refine bdN ?_ _) | with_reducible refine bd ?_)⟩
    case rest =>
      obtain ⟨rfl, ⟨pb, pc, rfl, hpb, hpl, hpc, hrow⟩, hb⟩ := hcut
      have H2 := hide hb
      have HROW := hide hrow
      have HSL2 := HSL
      clear hb hrow CS HSL q0 q1
      have q0 := cb H2.out z0 C0.out.1
      go_wp2_with (go_at_call 18; (with_reducible refine (CT _ (bt B0.out H2.out)).mono ?_); rintro e w5 ⟨rfl, b5⟩; have H5 := hide (bt H2.out b5); have HROW5 := hide (HROW.out.below b5); have HS5 := hide b5.size; clear b5)
      have HF := hide (HMO.out w5 w.heap.size S)
      have HB5 := hide (ba (Below.refl w5.heap.size w5) (.cells zs 92))
      clear MK HMO q0
      generalize w5.alloc (.cells zs 92) = w6 at *
      obtain ⟨h, hh⟩ : ∃ h, w5.heap.size = h := ⟨_, rfl⟩
      have HHH := hide hh
      have hs5 := HS5.out
      have hph : pb < h := by omega
      have hwh : w.heap.size < h := by have := H5.out.size; omega
      rw [hh] at HF
      simp only [hh]
      clear hh hs5
      go_loopg [7, 33] N (fun r t i wr => ∃ k : Nat, k + r = N ∧ i = .int .i64 (k : Int) ∧ (∃ ad T m cp, t = .slice ad m cp ∧ T.length = m ∧ RowAt .i64 wr ad T ∧ FarRow (h + 1) ad T ∧ m ≤ 1048576) ∧ ColFill wr w.heap.size h N S k ∧ Below w5.heap.size w5 wr)
      case atStart => exact ⟨0, by omega, rfl, ⟨none, [], 0, 0, rfl, rfl, .inl rfl, .inl rfl, by decide⟩, HF.out, HB5.out⟩
      case round =>
        clear HF HB5
        obtain ⟨k, hk, rfl, ⟨ad, T, m0, cp, rfl, hT0, hrT, hfT, hm0⟩, hfill, hb⟩ := hrel
        have HK := hide hk
        have HT0 := hide hT0
        have HRT := hide hrT
        have HFT := hide hfT
        have HFI := hide hfill
        have HB := hide hb
        clear hk hT0 hrT hfT hfill hb
        by_cases hlt : k < N
        · have LK := HOK.out k hlt
          have cov := HCOV.out k hlt
          have CL1 := CL.out wr (bt B0.out (bt H5.out HB.out)) k hlt
          obtain ⟨f, ts, he⟩ : ∃ f ts, lnAt S.lx k = (f, ts) := ⟨_, _, rfl⟩
          rw [he] at LK cov CL1
          obtain ⟨_, _, m1, m2, _⟩ := LK
          obtain ⟨v0, v1⟩ := cov
          have m1 : 1 ≤ ts.length := m1
          have m2 : ts.length ≤ 1048576 := m2
          have v0 : lo ≤ f := v0
          have v1 : f + (ts.length : Int) ≤ hi := v1
          obtain ⟨m, hm⟩ : ∃ m, ts.length = m := ⟨_, rfl⟩
          rw [hm] at m1 m2 v1
          obtain ⟨d, hd⟩ : ∃ d : Nat, f - lo = (d : Int) := ⟨(f - lo).toNat, by omega⟩
          have hhi := HHI.out
          have g1 : 0 ≤ f - lo := by omega
          have g2 : f - lo ≤ (c : Int) := by omega
          have g3 : (f - lo).toNat = d := by omega
          have dm : d + m ≤ c := by omega
          have HSPN := hide (HPL.out d m dm)
          have HFE := hide (show lo + (d : Int) = f by omega)
          have HE := hide he
          have HM := hide hm
          have x0 := cb HB.out (by have := HHH.out; omega) (cb H5.out z0 C0.out.1)
          have np : ¬ pc = d := by omega
          have g4 : m ≤ pc - d := by omega
          have hwr := HB.out.size
          clear he hm hd hhi v0 v1
          by_cases hE : ts = T
          · subst hE
            obtain rfl : m = m0 := by rw [← HM.out, HT0.out]
            have CE : ∀ w' ad' cap' bd cap'' (_ : RowAt .i64 w' ad' ts) (_ : RowAt .i64 w' bd ts), Calls Tryz.prog 81 #[.slice ad' m cap', .slice bd m cap''] w' fun e w'' => e = .returned (.bool true) ∧ Below w'.heap.size w' w'' := fun w' ad' cap' bd cap'' h1 h2 =>
              (equal64 ts ts m m HM.out HM.out ad' bd cap' cap'' (by omega) w' h1 h2).mono fun e w'' q => ⟨by rw [q.1, decide_eq_true rfl], q.2.below⟩
            obtain ⟨wb, wo, rfl, hwb⟩ : ∃ b o, ad = some ⟨b, o, none⟩ ∧ h + 1 ≤ b := by
              rcases HFT.out with e | ⟨b, o, e, l⟩
              · exact absurd (congrArg List.length e) (by rw [HM.out]; exact fun q => by simp at q; omega)
              · exact ⟨b, o, e, l⟩
            go_wp2_with (first
              | (go_at_call 80; (with_reducible refine CL1.mono ?_); rintro e w3 ⟨u, rfl, own, b3⟩; obtain ⟨tb, tc, rfl, htb, _, hr, _, _⟩ := own_row own HM.out m1; have K3 := hide b3; have HR3 := hide hr; have HRT3 := hide (HRT.out.below b3); have FI3 := hide (HFI.out.below b3); clear own hr b3)
              | (go_at_call 81; (with_reducible refine (CE _ _ _ _ _ (HR3.out.below (below1 _ _)) (HRT3.out.below (below1 _ _))).mono ?_); rintro e w4 ⟨rfl, b4⟩; have g0 := cb b4 (b := w3.heap.size) (o := 0) (v := .int .i64 f) (by simp) (by simp); have g1 := cb b4 (b := w3.heap.size) (o := 1) (v := .slice (some ⟨tb, 0, none⟩) m tc) (by simp) (by simp); have FI4 := hide ((FI3.out.below (below1 _ (.cells #[.int .i64 f, .slice (some ⟨tb, 0, none⟩) m tc] 127))).below b4); have HRT4 := hide ((HRT3.out.below (below1 _ (.cells #[.int .i64 f, .slice (some ⟨tb, 0, none⟩) m tc] 127))).below b4); have K4 := hide (bt (ba K3.out (.cells #[.int .i64 f, .slice (some ⟨tb, 0, none⟩) m tc] 127)) b4); obtain ⟨⟨va, ka⟩, fa⟩ := FI4.out.1 (k * 2) (by omega); obtain ⟨⟨vb, kb⟩, fb'⟩ := FI4.out.1 (k * 2 + 1) (by omega)))
            have PR := ((HROW5.out.below (show Below w5.heap.size w5 w4 from bt HB.out K4.out)).part d m (by rw [HSL2.out]; exact dm))
            rw [HSPN.out, HFE.out, Nat.zero_add] at PR
            have PE : RowAt .i64 w4 (some ⟨pb, d, none⟩) (spanTo S.sb (lnAt S.lx k).1 S.fx m) := by rw [HE.out]; exact PR
            have TE : RowAt .i64 w4 (some ⟨wb, wo, none⟩) (lnAt S.lx k).2 := by rw [HE.out]; exact HRT4.out
            have PUT := hide (FI4.out.put hlt (pc := pc - d) (wc := cp) (m := m) (by rw [HE.out]; exact HM.out) PE TE (by omega) (by omega) (by omega) (by omega))
            have GR := (grown_set w4 h (k * 2) (.slice (some ⟨pb, d, none⟩) m (pc - d))).trans (grown_set _ h (k * 2 + 1) (.slice (some ⟨wb, wo, none⟩) m cp))
            have NR := hide (HRT4.out.grown GR (fun e => by have := Option.some.inj e; omega))
            have NB := hide ((bt HB.out K4.out).grown GR (by have := HB.out.size; have := K4.out.size; omega) (fun j hj => by have := Option.some.inj hj; have := HHH.out; omega))
            go_roundg (gk - 1)
            case measure => have := HK.out; omega
            case rel => exact ⟨k + 1, by have := HK.out; omega, by go_num, ⟨_, ts, m, cp, rfl, HM.out, NR.out, .inr ⟨wb, wo, rfl, by omega⟩, m2⟩, PUT.out, NB.out⟩
          · have CE : ∀ w' ad' cap' bd cap'' (_ : RowAt .i64 w' ad' ts) (_ : RowAt .i64 w' bd T), Calls Tryz.prog 81 #[.slice ad' m cap', .slice bd m0 cap''] w' fun e w'' => e = .returned (.bool false) ∧ Below w'.heap.size w' w'' := fun w' ad' cap' bd cap'' h1 h2 =>
              (equal64 ts T m m0 HM.out HT0.out ad' bd cap' cap'' (by omega) w' h1 h2).mono fun e w'' q => ⟨by rw [q.1, decide_eq_false hE], q.2.below⟩
            clear hE
            go_wp2_with (first
              | (go_at_call 80; (with_reducible refine CL1.mono ?_); rintro e w3 ⟨u, rfl, own, b3⟩; obtain ⟨tb, tc, rfl, htb, _, hr, _, _⟩ := own_row own HM.out m1; have K3 := hide b3; have HR3 := hide hr; have HTB := hide htb; have HRT3 := hide (HRT.out.below b3); have FI3 := hide (HFI.out.below b3); clear own hr b3 htb)
              | (go_at_call 81; (with_reducible refine (CE _ _ _ _ _ (HR3.out.below (below1 _ _)) (HRT3.out.below (below1 _ _))).mono ?_); rintro e w4 ⟨rfl, b4⟩; have g0 := cb b4 (b := w3.heap.size) (o := 0) (v := .int .i64 f) (by simp) (by simp); have g1 := cb b4 (b := w3.heap.size) (o := 1) (v := .slice (some ⟨tb, 0, none⟩) m tc) (by simp) (by simp); have FI4 := hide ((FI3.out.below (below1 _ (.cells #[.int .i64 f, .slice (some ⟨tb, 0, none⟩) m tc] 127))).below b4); have HRT4 := hide ((HR3.out.below (below1 _ (.cells #[.int .i64 f, .slice (some ⟨tb, 0, none⟩) m tc] 127))).below b4); have K4 := hide (bt (ba K3.out (.cells #[.int .i64 f, .slice (some ⟨tb, 0, none⟩) m tc] 127)) b4); obtain ⟨⟨va, ka⟩, fa⟩ := FI4.out.1 (k * 2) (by omega); obtain ⟨⟨vb, kb⟩, fb'⟩ := FI4.out.1 (k * 2 + 1) (by omega)))
            have hh1 : h + 1 ≤ tb := by
              obtain ⟨⟨v9, k9⟩, _⟩ := HFI.out.1 0 (by omega)
              have := HTB.out
              have := cell_ltL k9
              omega
            have PR := ((HROW5.out.below (show Below w5.heap.size w5 w4 from bt HB.out K4.out)).part d m (by rw [HSL2.out]; exact dm))
            rw [HSPN.out, HFE.out, Nat.zero_add] at PR
            have PE : RowAt .i64 w4 (some ⟨pb, d, none⟩) (spanTo S.sb (lnAt S.lx k).1 S.fx m) := by rw [HE.out]; exact PR
            have TE : RowAt .i64 w4 (some ⟨tb, 0, none⟩) (lnAt S.lx k).2 := by rw [HE.out]; exact HRT4.out
            have PUT := hide (FI4.out.put hlt (pc := pc - d) (wc := tc) (m := m) (by rw [HE.out]; exact HM.out) PE TE (by omega) (by omega) (by omega) (by omega))
            have GR := (grown_set w4 h (k * 2) (.slice (some ⟨pb, d, none⟩) m (pc - d))).trans (grown_set _ h (k * 2 + 1) (.slice (some ⟨tb, 0, none⟩) m tc))
            have NR := hide (HRT4.out.grown GR (fun e => by have := Option.some.inj e; omega))
            have NB := hide ((bt HB.out K4.out).grown GR (by have := HB.out.size; have := K4.out.size; omega) (fun j hj => by have := Option.some.inj hj; have := HHH.out; omega))
            go_roundg (gk - 1)
            case measure => have := HK.out; omega
            case rel => exact ⟨k + 1, by have := HK.out; omega, by go_num, ⟨_, ts, m, tc, rfl, HM.out, NR.out, .inr ⟨tb, 0, rfl, by omega⟩, m2⟩, PUT.out, NB.out⟩
        · obtain rfl : N = k := by have := HK.out; omega
          clear hlt
          go_wp2
          go_ret
          exact ⟨⟨h, rfl, by omega, HFI.out.2⟩, bt B0.out (bt H5.out HB.out)⟩
end Go.Proofs.YtaafhjngnjjcmaaGreatDoor

/- The program's images: New, Of. -/
namespace Go.Proofs.YtaafhjngnjjcmaaGreatDoor
open Go.RowKit


theorem rep_ok {a b c t : Int} (h : codeF a b c t = 0) : ImOk ⟨a, b, c, t, List.replicate (a * b * c).toNat 0⟩ ∧ (((a * b * c).toNat : Nat) : Int) = a * b * c ∧ (a * b * c).toNat ≤ 268435456 := by
  obtain ⟨t0, t1, a0, a1, b0, b1, hc, hm⟩ := codeF_zero h
  have := side_mul3 a0 a1 b0 b1 hc
  refine ⟨⟨a0, a1, b0, b1, hc, t0, t1, hm, ?_, fun x hx => ?_⟩, by omega, by omega⟩
  · show ((List.replicate (a * b * c).toNat (0 : Int)).length : Int) = a * b * c
    rw [List.length_replicate]; omega
  · show 0 ≤ x ∧ x ≤ t
    obtain ⟨_, rfl⟩ := List.mem_replicate.1 hx
    omega
theorem new_yes (a b c t : Int) (h : codeF a b c t = 0) (w : World) :
    Calls Tryz.prog 46 #[.int .i64 a, .int .i64 b, .int .i64 c, .int .i64 t] w fun e w' => ∃ v, e = .returned (.tuple #[v, .int .i64 0]) ∧ ImgNew w.heap.size w' v ⟨a, b, c, t, List.replicate (a * b * c).toNat 0⟩ ∧ Below w.heap.size w w' := by
  obtain ⟨hok, hn, hl⟩ := rep_ok h
  obtain ⟨t0, t1, a0, a1, b0, b1, hc, hm⟩ := codeF_zero h
  obtain ⟨m0, m1⟩ := side_mul a0 a1 b0 b1
  obtain ⟨p0, p1⟩ := side_mul3 a0 a1 b0 b1 hc
  have CC := rcheck_any a b c t
  rw [h] at CC
  obtain ⟨zs, MK, MO⟩ := make16 (a * b * c).toNat hl
  have HMO := hide MO
  have HOK := hide hok
  rw [hn] at MK
  have n0 : 1 ≤ (a * b * c).toNat := by omega
  generalize (a * b * c).toNat = n at *
  have HL := hide (List.length_replicate (n := n) (a := (0 : Int)))
  clear MO hok hn hc h
  go_enter Tryz.func46, Tryz.ntmps46
  go_wp2_with (go_at_call 66; (with_reducible refine (CC _).mono ?_); rintro e w1 ⟨rfl, rfl⟩)
  obtain ⟨g, cp, hv, hg, hlt, hr, _, hz⟩ := own_row (HMO.out w w.heap.size (Nat.le_refl _)) HL.out n0
  simp only [Value.slice.injEq, Option.some.injEq, Addr.mk.injEq, and_true, true_and] at hv
  obtain ⟨rfl, rfl⟩ := hv
  have hi := ImgAt.new (T := 84) hr hz (by rw [HL.out]; exact Nat.le_refl _) HOK.out
  rw [HL.out] at hi
  have HI := hide hi
  clear hi hr hz
  exact bodyPost_ret (v := .tuple #[.pointer (some ⟨w.heap.size + 1, 0, none⟩), .int .i64 0]) (by simp [results, Tryz.results46, go_sem]) rfl ⟨_, rfl, ⟨w.heap.size + 1, w.heap.size, rfl, by omega, Nat.le_refl _, by simpa using HI.out⟩, ba (below1 _ _) _⟩
theorem new_no (a b c t : Int) (h : codeF a b c t ≠ 0) (w : World) :
    Calls Tryz.prog 46 #[.int .i64 a, .int .i64 b, .int .i64 c, .int .i64 t] w fun e w' => e = .returned (.tuple #[.pointer none, .int .i64 (codeF a b c t)]) ∧ w = w' := by
  have CC := rcheck_any a b c t
  generalize codeF a b c t = k at *
  have hk : (k != 0) = true := bne_iff_ne.2 h
  clear h
  go_enter Tryz.func46, Tryz.ntmps46
  go_wp2_with (go_at_call 66; (with_reducible refine (CC _).mono ?_); rintro e w1 ⟨rfl, rfl⟩)
  exact bodyPost_ret (v := .tuple #[.pointer none, .int .i64 k]) (by simp [results, Tryz.results46, go_sem]) rfl ⟨rfl, rfl⟩
theorem of_yes (a b c t : Int) (h : codeF a b c t = 0) (xs : List Int) (n : Nat) (hx : xs.length = n) (ad : Option Addr) (cap : Nat) (hn : (n : Int) = a * b * c) (hb : ∀ x ∈ xs, 0 ≤ x ∧ x ≤ 65535) (ht : mxTo xs n ≤ t) (w : World) (hr : RowAt .u16 w ad xs) :
    Calls Tryz.prog 33 #[.int .i64 a, .int .i64 b, .int .i64 c, .int .i64 t, .slice ad n cap] w fun e w' => ∃ v, e = .returned (.tuple #[v, .int .i64 0]) ∧ ImgNew w.heap.size w' v ⟨a, b, c, t, xs⟩ ∧ Below w.heap.size w w' := by
  obtain ⟨t0, t1, a0, a1, b0, b1, hc, hm⟩ := codeF_zero h
  obtain ⟨m0, m1⟩ := side_mul a0 a1 b0 b1
  obtain ⟨p0, p1⟩ := side_mul3 a0 a1 b0 b1 hc
  have CC := rcheck_any a b c t
  rw [h] at CC
  have hk : ((n : Int) != a * b * c) = false := by rw [hn]; simp
  have CM := fun w hr => max16 xs n hx ad cap (by omega) (by omega) hb w hr
  obtain ⟨x0, x1⟩ := mxTo_in hb (by omega) n (by omega)
  have HOK := hide (show ImOk ⟨a, b, c, t, xs⟩ from ⟨a0, a1, b0, b1, hc, t0, t1, hm, by rw [hx]; exact hn, fun x hx' => ⟨(hb x hx').1, (mx_all (xs := xs) (by omega)).1 (by rw [hx]; exact ht) x hx'⟩⟩)
  have HR := hide hr
  have n0 : 1 ≤ n := by omega
  have n1 : n ≤ 268435456 := by omega
  have HX := hide hx
  obtain ⟨bl, off, rfl, _⟩ := hr.get (show 0 < xs.length by omega)
  have CD := fun w hr => clone16 xs n hx bl off cap n1 w hr
  generalize mxTo xs n = x at *
  clear h hn hc hb hr hx
  go_enter Tryz.func33, Tryz.ntmps33
  go_wp2_with (first
    | (go_at_call 66; (with_reducible refine (CC _).mono ?_); rintro e w1 ⟨rfl, rfl⟩)
    | (go_at_call 67; (with_reducible refine (CM _ HR.out).mono ?_); rintro e w1 ⟨rfl, rfl⟩)
    | (go_at_call 44; (with_reducible refine (CD _ HR.out).mono ?_); rintro e w2 ⟨v, rfl, own, b2⟩; obtain ⟨g, cp, rfl, hg, hlt, hr, hcp, hz⟩ := own_row own HX.out n0; clear own))
  have hi := ImgAt.new (T := 84) hr hz (by rw [HX.out]; exact hcp) HOK.out
  have s2 := b2.size
  replace hi : ImgAt (w2.alloc (.cells #[.int .i64 a, .int .i64 b, .int .i64 c, .int .i64 t, .slice (some ⟨g, 0, none⟩) xs.length cp] 84)) w2.heap.size g ⟨a, b, c, t, xs⟩ := hi
  rw [HX.out] at hi
  exact bodyPost_ret (v := .tuple #[.pointer (some ⟨w2.heap.size, 0, none⟩), .int .i64 0]) (by simp [results, Tryz.results33, go_sem]) rfl ⟨_, rfl, ⟨w2.heap.size, g, rfl, s2, hg, hi⟩, ba b2 _⟩
end Go.Proofs.YtaafhjngnjjcmaaGreatDoor

/- The program's images: what is asked of them. -/
namespace Go.Proofs.YtaafhjngnjjcmaaGreatDoor
open Go.RowKit


theorem img_width {w : World} {g h : Nat} {I : Im} (H : ImgAt w g h I) : Calls Tryz.prog 17 #[.pointer (some ⟨g, 0, none⟩)] w fun e w' => e = .returned (.int .i64 I.iw) ∧ w = w' := by
  obtain ⟨cap, c0, -⟩ := H
  generalize I.iw = a at *
  go_enter Tryz.func17, Tryz.ntmps17
  go_wp2
  go_ret
  exact ⟨rfl, rfl⟩
theorem img_height {w : World} {g h : Nat} {I : Im} (H : ImgAt w g h I) : Calls Tryz.prog 19 #[.pointer (some ⟨g, 0, none⟩)] w fun e w' => e = .returned (.int .i64 I.ih) ∧ w = w' := by
  obtain ⟨cap, _, c0, -⟩ := H
  generalize I.ih = a at *
  go_enter Tryz.func19, Tryz.ntmps19
  go_wp2
  go_ret
  exact ⟨rfl, rfl⟩
theorem img_channels {w : World} {g h : Nat} {I : Im} (H : ImgAt w g h I) : Calls Tryz.prog 29 #[.pointer (some ⟨g, 0, none⟩)] w fun e w' => e = .returned (.int .i64 I.ic) ∧ w = w' := by
  obtain ⟨cap, _, _, c0, -⟩ := H
  generalize I.ic = a at *
  go_enter Tryz.func29, Tryz.ntmps29
  go_wp2
  go_ret
  exact ⟨rfl, rfl⟩
theorem img_most {w : World} {g h : Nat} {I : Im} (H : ImgAt w g h I) : Calls Tryz.prog 13 #[.pointer (some ⟨g, 0, none⟩)] w fun e w' => e = .returned (.int .i64 I.it) ∧ w = w' := by
  obtain ⟨cap, _, _, _, c0, -⟩ := H
  generalize I.it = a at *
  go_enter Tryz.func13, Tryz.ntmps13
  go_wp2
  go_ret
  exact ⟨rfl, rfl⟩
theorem img_samples {w : World} {g h : Nat} {I : Im} (H : ImgAt w g h I) : Calls Tryz.prog 14 #[.pointer (some ⟨g, 0, none⟩)] w fun e w' => ∃ v, e = .returned v ∧ OwnI .u16 22 w' w.heap.size v I.il ∧ Below w.heap.size w w' := by
  obtain ⟨l0, l1⟩ := imOk_len H.ok
  obtain ⟨cap, _, _, _, _, c4, hr, -⟩ := H
  have CC := fun w hr => clone16 I.il I.il.length rfl h 0 cap l1 w hr
  have HR := hide hr
  generalize I.il.length = n at *
  clear hr
  go_enter Tryz.func14, Tryz.ntmps14
  go_wp2_with (go_at_call 44; (with_reducible refine (CC _ HR.out).mono ?_); rintro e w2 ⟨v, rfl, own, b2⟩)
  go_ret
  exact ⟨_, rfl, own, b2⟩
theorem img_has {w : World} {g h : Nat} {I : Im} (H : ImgAt w g h I) (x y z : Int) : Calls Tryz.prog 62 #[.pointer (some ⟨g, 0, none⟩), .int .i64 x, .int .i64 y, .int .i64 z] w fun e w' => e = .returned (.bool (hasF I x y z)) ∧ w = w' := by
  obtain ⟨cap, c0, c1, c2, -⟩ := H
  obtain ⟨b, hb⟩ : ∃ b, hasF I x y z = b := ⟨_, rfl⟩
  have HB := hide hb
  unfold hasF at hb
  rw [show hasF I x y z = b from HB.out]
  generalize I.iw = a at *
  generalize I.ih = a2 at *
  generalize I.ic = a3 at *
  by_cases h0 : 0 ≤ x
  · by_cases h1 : x < a
    · by_cases h2 : 0 ≤ y
      · by_cases h3 : y < a2
        · by_cases h4 : 0 ≤ z
          · by_cases h5 : z < a3
            · obtain rfl : b = true := by rw [← hb]; exact decide_eq_true (by omega)
              clear hb HB
              go_enter Tryz.func62, Tryz.ntmps62
              go_wp2
              go_ret
              exact ⟨rfl, rfl⟩
            · obtain rfl : b = false := by rw [← hb]; exact decide_eq_false (by omega)
              clear hb HB
              go_enter Tryz.func62, Tryz.ntmps62
              go_wp2
              go_ret
              exact ⟨rfl, rfl⟩
          · obtain rfl : b = false := by rw [← hb]; exact decide_eq_false (by omega)
            clear hb HB
            go_enter Tryz.func62, Tryz.ntmps62
            go_wp2
            go_ret
            exact ⟨rfl, rfl⟩
        · obtain rfl : b = false := by rw [← hb]; exact decide_eq_false (by omega)
          clear hb HB
          go_enter Tryz.func62, Tryz.ntmps62
          go_wp2
          go_ret
          exact ⟨rfl, rfl⟩
      · obtain rfl : b = false := by rw [← hb]; exact decide_eq_false (by omega)
        clear hb HB
        go_enter Tryz.func62, Tryz.ntmps62
        go_wp2
        go_ret
        exact ⟨rfl, rfl⟩
    · obtain rfl : b = false := by rw [← hb]; exact decide_eq_false (by omega)
      clear hb HB
      go_enter Tryz.func62, Tryz.ntmps62
      go_wp2
      go_ret
      exact ⟨rfl, rfl⟩
  · obtain rfl : b = false := by rw [← hb]; exact decide_eq_false (by omega)
    clear hb HB
    go_enter Tryz.func62, Tryz.ntmps62
    go_wp2
    go_ret
    exact ⟨rfl, rfl⟩
theorem img_place {w : World} {g h : Nat} {I : Im} (H : ImgAt w g h I) {x y z : Int} (hh : hasF I x y z = true) : Calls Tryz.prog 63 #[.pointer (some ⟨g, 0, none⟩), .int .i64 x, .int .i64 y, .int .i64 z] w fun e w' => e = .returned (.int .i64 (imPlace I x y z)) ∧ Drew w w' := by
  have hk := H.ok
  obtain ⟨a0, a1, b0, b1, hc, _, _, hm, _, _⟩ := hk
  obtain ⟨x0, x1, y0, y1, z0, z1⟩ := hasF_iff.1 hh
  obtain ⟨p0, p1, p2, p3, p4, p5⟩ := place_in x0 x1 y0 y1 z0 z1
  obtain ⟨m0, m1⟩ := side_mul a0 a1 b0 b1
  obtain ⟨cap, c0, c1, c2, -⟩ := H
  unfold imPlace
  have HP := hide (show placeF I.iw I.ic x y z = (y * I.iw + x) * I.ic + z from rfl)
  rw [HP.out] at p4 p5 ⊢
  clear hh HP
  generalize I.iw = a at *
  generalize I.ih = b at *
  generalize I.ic = c at *
  go_enter Tryz.func63, Tryz.ntmps63
  go_wp2_with fail
  go_quiet (fail)
  go_wp2
  go_ret
  exact ⟨rfl, (Drew.refl _).more _⟩
theorem img_at {w : World} {g h : Nat} {I : Im} (H : ImgAt w g h I) (x y z : Int) : Calls Tryz.prog 37 #[.pointer (some ⟨g, 0, none⟩), .int .i64 x, .int .i64 y, .int .i64 z] w fun e w' => e = .returned (.int .u16 (imAt I x y z)) ∧ Drew w w' := by
  have CH := img_has H x y z
  unfold imAt
  cases hh : hasF I x y z with
  | false =>
    rw [hh] at CH
    rw [if_neg (by decide)]
    clear H hh
    go_enter Tryz.func37, Tryz.ntmps37
    go_wp2_with (go_at_call 62; (with_reducible refine CH.mono ?_); rintro e w1 ⟨rfl, rfl⟩)
    go_ret
    exact ⟨rfl, Drew.refl _⟩
  | true =>
    rw [hh] at CH
    rw [if_pos rfl]
    have CP := fun n => img_place (H.below (bdN (Below.refl _ _) n)) hh
    obtain ⟨p0, p1, p2, p3⟩ := imPlace_in H.ok hh
    obtain ⟨l0, l1⟩ := imOk_len H.ok
    obtain ⟨cap, c0, c1, c2, c3, c4, hr, -⟩ := H
    have hc := hr.at p1
    rw [Nat.zero_add] at hc
    rw [← p2] at CP
    generalize (imPlace I x y z).toNat = k at *
    generalize I.il.getD k 0 = v at *
    generalize I.il.length = n at *
    clear hh hr c0 c1 c2 c3 p2 p0 p3
    go_enter Tryz.func37, Tryz.ntmps37
    go_wp2_with (go_at_call 62; (with_reducible refine CH.mono ?_); rintro e w1 ⟨rfl, rfl⟩)
    go_quiet ((go_at_call 63; with_reducible exact calmD (CP _)))
    go_wp2
    go_ret
    exact ⟨rfl, (Drew.refl _).more _⟩
theorem img_set_no {w : World} {g h : Nat} {I : Im} (H : ImgAt w g h I) (x y z v : Int) (v0 : 0 ≤ v) (v1 : v ≤ 65535) (hs : setOk I x y z v = false) : Calls Tryz.prog 30 #[.pointer (some ⟨g, 0, none⟩), .int .i64 x, .int .i64 y, .int .i64 z, .int .u16 v] w fun e w' => e = .returned (.bool false) ∧ w = w' := by
  have CH := img_has H x y z
  cases hh : hasF I x y z with
  | false =>
    rw [hh] at CH
    clear H hh hs
    go_enter Tryz.func30, Tryz.ntmps30
    go_wp2_with (go_at_call 62; (with_reducible refine CH.mono ?_); rintro e w1 ⟨rfl, rfl⟩)
    go_ret
    exact ⟨rfl, rfl⟩
  | true =>
    rw [hh] at CH
    have ht : I.it < v := by
      unfold setOk at hs
      rw [hh, Bool.true_and, decide_eq_false_iff_not] at hs
      omega
    obtain ⟨cap, c0, c1, c2, c3, -⟩ := H
    generalize I.it = t at *
    clear hh hs c0 c1 c2
    go_enter Tryz.func30, Tryz.ntmps30
    go_wp2_with (go_at_call 62; (with_reducible refine CH.mono ?_); rintro e w1 ⟨rfl, rfl⟩)
    go_ret
    exact ⟨rfl, rfl⟩
theorem img_set_yes {w : World} {g h : Nat} {I : Im} (H : ImgAt w g h I) (x y z v : Int) (v0 : 0 ≤ v) (v1 : v ≤ 65535) (hs : setOk I x y z v = true) : Calls Tryz.prog 30 #[.pointer (some ⟨g, 0, none⟩), .int .i64 x, .int .i64 y, .int .i64 z, .int .u16 v] w fun e w' => e = .returned (.bool true) ∧ ImgAt w' g h (imSet I x y z v) ∧ w.grownBy w' (some h) := by
  have CH := img_has H x y z
  have hs' := hs
  unfold setOk at hs'
  rw [Bool.and_eq_true, decide_eq_true_iff] at hs'
  obtain ⟨hh, ht⟩ := hs'
  rw [hh] at CH
  have CP := img_place (H.below (bd (Below.refl _ _))) hh
  have HF := hide (fun n => (H.below (bdN (Below.refl _ _) n)).put v0 hs)
  obtain ⟨p0, p1, p2, p3⟩ := imPlace_in H.ok hh
  obtain ⟨l0, l1⟩ := imOk_len H.ok
  obtain ⟨cap, c0, c1, c2, c3, c4, hr, hz, -⟩ := H
  have hc := hr.at p1
  rw [Nat.zero_add] at hc
  have hz := hz _ p1
  rw [← p2] at CP
  generalize (imPlace I x y z).toNat = k at *
  generalize I.il.getD k 0 = u at *
  generalize I.il.length = n at *
  generalize I.it = t at *
  clear hh hr c0 c1 c2 p2 p0 p3 hs
  go_enter Tryz.func30, Tryz.ntmps30
  go_upto_region 3 with (go_at_call 62; (with_reducible refine CH.mono ?_); rintro e w1 ⟨rfl, rfl⟩)
  go_region_with (go_at_call 63; (with_reducible refine CP.mono ?_); rintro e w2 ⟨rfl, m, rfl⟩)
  all_goals go_wp2
  all_goals go_ret
  all_goals exact ⟨rfl, HF.out _, (grown_drewN w _ _).trans (grown_set _ _ _ _)⟩
end Go.Proofs.YtaafhjngnjjcmaaGreatDoor

/- The program's images: a row. -/
namespace Go.Proofs.YtaafhjngnjjcmaaGreatDoor
open Go.RowKit


theorem img_row_no {w : World} {g h : Nat} {I : Im} (H : ImgAt w g h I) (y : Int) (hy : y < 0 ∨ I.ih ≤ y) : Calls Tryz.prog 82 #[.pointer (some ⟨g, 0, none⟩), .int .i64 y] w fun e w' => e = .returned (.slice none 0 0) ∧ w = w' := by
  obtain ⟨cap, _, c1, -⟩ := H
  generalize I.ih = b at *
  rcases (show y < 0 ∨ (0 ≤ y ∧ b ≤ y) by omega) with h0 | ⟨h0, h1⟩
  all_goals
    clear hy
    go_enter Tryz.func82, Tryz.ntmps82
    go_wp2
    go_ret
    exact ⟨rfl, rfl⟩
set_option maxHeartbeats 4000000 in
theorem img_row_yes {w : World} {g h : Nat} {I : Im} (H : ImgAt w g h I) (y : Int) (y0 : 0 ≤ y) (y1 : y < I.ih) : Calls Tryz.prog 82 #[.pointer (some ⟨g, 0, none⟩), .int .i64 y] w fun e w' => ∃ v, e = .returned v ∧ OwnI .u16 22 w' w.heap.size v (imRow I y) ∧ Below w.heap.size w w' := by
  have hk := H.ok
  obtain ⟨l0, l1⟩ := imOk_len hk
  obtain ⟨r0, r1, r2, r3, r4, r5⟩ := row_in hk y0 y1
  have hl := imRow_len hk y0 y1
  have CP := img_place H (x := 0) (y := y) (z := 0) (hasF_iff.2 (by obtain ⟨a0, _, _, _, hc, _⟩ := hk; omega))
  rw [show imPlace I 0 y 0 = y * I.iw * I.ic by unfold imPlace placeF; rw [Int.add_zero, Int.add_zero]] at CP
  obtain ⟨cap, c0, c1, c2, c3, c4, hr, hz, hcap, -⟩ := H
  obtain ⟨k, hkk⟩ : ∃ k : Nat, (k : Int) = y * I.iw * I.ic := ⟨_, Int.toNat_of_nonneg r2⟩
  obtain ⟨n, hn⟩ : ∃ n : Nat, (n : Int) = I.iw * I.ic := ⟨_, Int.toNat_of_nonneg (by omega)⟩
  have hpart := hr.part k n (by omega)
  have HP := hide hpart
  have e1 : imRow I y = (I.il.drop k).take n := by unfold imRow; rw [← hkk, ← hn, Int.toNat_natCast, Int.toNat_natCast]
  rw [← hn, Int.toNat_natCast] at hl
  rw [← e1, Nat.zero_add] at hpart
  have HR := hide hpart
  have CC := fun cap w hr => clone16 (imRow I y) n hl h k cap (by omega) w hr
  rw [← hkk] at CP r2 r3
  rw [← hn] at r0 r1 r3
  have hm : I.iw * I.ic = (n : Int) := hn.symm
  generalize imRow I y = xs at *
  generalize I.il.length = m at *
  generalize I.iw = a at *
  generalize I.ih = b at *
  generalize I.ic = c at *
  clear hpart HP e1 hr hz hk hkk hn c3 r4 r5
  have hw1 : IntKind.i64.wrap (a * c) = (n : Int) := by rw [hm]; exact IntWalk.i64_in _ (by omega)
  have hw2 : IntKind.i64.wrap ((k : Int) + (n : Int)) = (k : Int) + (n : Int) := IntWalk.i64_in _ (by omega)
  clear hm
  go_enter Tryz.func82, Tryz.ntmps82
  go_upto_region 4 with (go_at_call 63; (with_reducible refine CP.mono ?_); rintro e w1 ⟨rfl, q, rfl⟩)
  go_region_with (go_at_call 44; (with_reducible refine (CC _ _ (HR.out.below (by repeat (first | exact Below.refl _ _ | (with_reducible refine bdN ?_ _) | (with_reducible refine bd ?_))))).mono ?_); rintro e w2 ⟨v, rfl, own, b2⟩)
  all_goals go_wp2
  all_goals go_ret
  all_goals exact ⟨_, rfl, own, bt (bdN (Below.refl _ _) _) b2⟩
end Go.Proofs.YtaafhjngnjjcmaaGreatDoor
