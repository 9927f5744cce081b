/- Parts, joined. -/
import Derived.Test.YtdpkigdfhfippaaGreatDoorJ28
import Derived.Test.YtdpkigdfhfippaaGreatDoorJ22
import Derived.Test.YtdpkigdfhfippaaGreatDoorJ21
import Derived.Laws.OwnMore
import Derived.Deep.LoopGhost
/- The program's table: a resize. -/
namespace Go.Proofs.YtdpkigdfhfippaaGreatDoor
open Go.RowKit


theorem name_some (f : Int) (f0 : 0 ≤ f) (f1 : f ≤ 2) : ∃ s, nameF f = .string s ∧ s.toList.isEmpty = false := by
  unfold nameF
  by_cases h0 : f = 0
  · rw [if_pos h0]; exact ⟨_, rfl, by decide +kernel⟩
  by_cases h1 : f = 1
  · rw [if_neg h0, if_pos h1]; exact ⟨_, rfl, by decide +kernel⟩
  · rw [if_neg h0, if_neg h1, if_pos (by omega)]; exact ⟨_, rfl, by decide +kernel⟩
theorem own_some {k : IntKind} {T : TypeId} {w : World} {base n : Nat} {v : Value} {xs : List Int} (h : OwnI k T w base v xs) (hn : xs.length = n) (h0 : 1 ≤ n) :
    ∃ b cap, v = .slice (some ⟨b, 0, none⟩) n cap ∧ base ≤ b ∧ RowAt k w (some ⟨b, 0, none⟩) xs := by
  subst hn
  obtain ⟨ad, cap, rfl, hr, hz, hs, _⟩ := h.form
  rcases ad with _ | a
  · have := (hz rfl).1
    rw [this] at h0
    exact absurd h0 (by decide)
  · obtain ⟨g, rfl, hb, _⟩ := hs a rfl
    exact ⟨g, cap, rfl, hb, hr⟩
set_option maxHeartbeats 4000000 in
set_option maxRecDepth 100000 in
theorem resize_walk (f n : Int) (m : Nat) (f0 : 0 ≤ f) (f1 : f ≤ 2) (n0 : 1 ≤ n) (n1 : n ≤ 65536) (m0 : 1 ≤ m) (m1 : m ≤ 65536) (w : World) (hk : Kinds w) :
    Calls Tryz.prog 51 #[.int .i64 f, .int .i64 n, .int .i64 (m : Int)] w fun e w' => ∃ v, e = .returned (.tuple #[v, .int .i64 (firstCode f n m m)]) ∧ (firstCode f n m m = 0 → TabM w' v n (linesTo f n m m)) ∧ (firstCode f n m m ≠ 0 → v = .pointer none) ∧ Below w.heap.size w w' := by
  have S1 := tside_yes n n0 n1
  have S2 := tside_yes (m : Int) (by omega) (by omega)
  have CN := fun w hk => name_any f (by unfold I64; omega) w hk
  obtain ⟨s, hs, s0⟩ := name_some f f0 f1
  rw [hs] at CN
  obtain ⟨i0, hi, hz0, hz1, hz2⟩ := info_parts infoLnT
  obtain ⟨cm, hcd⟩ : ∃ cm, firstCode f n m m = cm := ⟨_, rfl⟩
  rw [hcd]
  have HCD := hide hcd
  have HK := hide (fun (w' : World) (b : Below w.heap.size w w') => kinds_below hk b)
  clear hcd hs
  go_enter Tryz.func51, Tryz.ntmps51
  go_upto_region 3 with (first
    | (go_at_call 50; (with_reducible refine (CN _ hk).mono ?_); rintro e w0 ⟨rfl, b0⟩)
    | (go_at_call 64; (with_reducible refine (S1 _).mono ?_); rintro e w1 ⟨rfl, rfl⟩)
    | (go_at_call 64; (with_reducible refine (S2 _).mono ?_); rintro e w1 ⟨rfl, rfl⟩))
  clear S1 S2 CN
  go_wp2_with (at_make; refine wpList_make_full _ rfl _ _ 81 rfl w.heap.size 63 i0 (.agg #[.int .i64 0, .slice none 0 0]) 2 Tryz.underlying81 hi hz0 hz1 .i64 .i64 (m : Int) (m : Int) m rfl rfl rfl rfl (by rw [hz2]; omega) (by unfold maxLen; omega) (by have := b0.size; omega) ?_; intro w2 hown hgrow)
  have B2 : Below w.heap.size w w2 := b0.grown hgrow b0.size (fun j hj => by cases hj)
  have hlt := (World.ownsRow.lt hown w0.heap.size rfl).2
  have F0 := hide (Fill.start (g := w2.heap.size) (hown.alloc (.cells #[.int .i64 n, .slice (some ⟨w0.heap.size, 0, none⟩) m m, .int .i64 0, .int .i64 0] 83)) (Nat.ne_of_lt hlt))
  have BA := hide (ba B2 (.cells #[.int .i64 n, .slice (some ⟨w0.heap.size, 0, none⟩) m m, .int .i64 0, .int .i64 0] 83))
  have hgB : w.heap.size ≤ w2.heap.size := B2.size
  have hhB : w.heap.size ≤ w0.heap.size := b0.size
  clear hown hgrow b0 B2 hk
  obtain ⟨h, hh⟩ : ∃ h, w0.heap.size = h := ⟨_, rfl⟩
  rw [hh] at F0 BA hhB hlt
  obtain ⟨g, hg⟩ : ∃ g, w2.heap.size = g := ⟨_, rfl⟩
  have HG := hide hg
  rw [hg] at F0 hgB hlt
  have hne : h ≠ g := Nat.ne_of_lt hlt
  have hne2 : g ≠ h := fun e => hne e.symm
  simp only [hh]
  simp only [hg]
  clear hh
  go_loopw [37] (fun i wr => ∃ k : Nat, k ≤ m ∧ i = .int .i64 (k : Int) ∧ Hid (firstCode f n m k = 0) ∧ Hid (Fill wr g h m (linesTo f n m k)) ∧ wr.cell? ⟨g, 0, none⟩ = some (.int .i64 n) ∧ wr.cell? ⟨g, 1, none⟩ = some (.slice (some ⟨h, 0, none⟩) m m) ∧ wr.cell? ⟨g, 2, none⟩ = some (.int .i64 (mostF (linesTo f n m k))) ∧ wr.cell? ⟨g, 3, none⟩ = some (.int .i64 (sizeF (linesTo f n m k))) ∧ wr.frozen? ⟨g, 2, none⟩ = false ∧ wr.frozen? ⟨g, 3, none⟩ = false ∧ Below w.heap.size w wr) (fun i _ => m - (intOf i).toNat)
  case atStart =>
    subst hg
    exact ⟨0, by omega, rfl, rfl, F0, by simp, by simp, by simp; rfl, by simp; rfl, by simp, by simp, BA.out⟩
  case round =>
    obtain ⟨k, hkm, rfl, hf, HF, c0, c1, c2, c3, z2, z3, hb⟩ := hrel
    have HB := hide hb
    have gl := cell_ltL c0
    clear hb F0 BA HG hg hlt
    have hll := linesTo_len f n m k
    by_cases hkl : k < m
    · have hM : MayP f n m k := ⟨f0, f1, n0, n1, by omega, by omega, by omega, by omega⟩
      have CR := prow_line f n m k hM
      obtain ⟨s0, s1, b0, b1⟩ := row_ends hM
      clear hM
      have hx := rowI_64 f n m k
      have hln := rowI_len f n m k
      have hc1 : firstCode f n m (k + 1) = appCode (rowI f n m k) := if_pos hf.out
      have hsn := linesTo_snoc f n m k
      have hlr : lineR f n m k = (startR f n m k, appR (rowI f n m k)) := rfl
      rw [hlr] at hsn
      have HM1 := hide ((congrArg mostF hsn).trans (most_snoc _ _))
      have HS1 := hide ((congrArg sizeF hsn).trans (size_snoc _ _))
      have HSN := hide hsn
      clear hlr hsn
      obtain ⟨st, cn, xs, cd, e1, e2, e3, e4⟩ := line_more f n m k
      rw [e1, e3] at CR HSN HM1 HS1
      rw [e1] at s0 s1
      rw [e2] at b0 b1 hln
      rw [e3] at hx hln hc1
      rw [e4] at hc1
      have CA : ∀ (ad : Option Addr) (cap : Nat) (w : World), RowAt .i64 w ad xs → Calls Tryz.prog 66 #[.slice ad cn cap] w fun e w' => ∃ v, e = .returned (.tuple #[v, .int .i64 cd]) ∧ (cd = 0 → OwnI .i64 2 w' w.heap.size v (appR xs)) ∧ Below w.heap.size w w' := by
        intro ad cap w hr
        have := papp_own_n cn xs hln ad cap w hr hx (by omega)
        rw [e4] at this
        exact this
      have hal : (appR xs).length = cn := by rw [appR_length]; exact hln
      have HLN := hide hln
      have HAL := hide hal
      have HC1 := hide hc1
      have HLL := hide hll
      by_cases hz : cd = 0
      · have hfit : Fits xs := appCode_fits.1 (e4.trans hz)
        have HX := hide (appR_64 hfit)
        subst hz
        obtain ⟨ts, hts⟩ : ∃ ts, appR xs = ts := ⟨_, rfl⟩
        rw [hts] at CA HX HAL HSN HM1 HS1
        obtain ⟨so, hso⟩ : ∃ so, sizeF (linesTo f n m k) = so := ⟨_, rfl⟩
        obtain ⟨mo, hmo⟩ : ∃ mo, mostF (linesTo f n m k) = mo := ⟨_, rfl⟩
        rw [hso] at HS1 c3
        rw [hmo] at HM1 c2
        obtain ⟨sz, hsz⟩ : ∃ sz, sizeH ts = sz := ⟨_, rfl⟩
        have HS2 := hide (show sizeF (linesTo f n m (k + 1)) = max so sz by rw [← hsz]; exact HS1.out)
        have HM2 := hide (show mostF (linesTo f n m (k + 1)) = max mo (cn : Int) by rw [← HAL.out]; exact HM1.out)
        have CS := fun w ad cap hr => tsize_n cn ts HAL.out ad cap w hr HX.out (by omega)
        rw [hsz] at CS
        clear e1 e2 e3 e4 hx hln hc1 hal hts hso hmo hsz hfit HX HS1 HM1 hll
        go_upto_region 13 with (first
          | (go_at_call 65; (with_reducible refine (CR _ (HK.out _ HB.out)).mono ?_); rintro e w2 ⟨v, rfl, ho1, b2⟩; obtain ⟨ad, cap, rfl, hrow, _⟩ := ho1.formn HLN.out)
          | (go_at_call 66; (with_reducible refine (CA _ _ _ hrow).mono ?_); rintro e w3 ⟨v2, rfl, ho2, b3⟩; obtain ⟨b, cap2, rfl, hbb, hrt⟩ := own_some (ho2 (by trivial)) HAL.out b0; clear ho2; have b23 := bt b2 b3; have F3 := HF.out.below b23; obtain ⟨⟨v0, r0⟩, y0, ⟨v1, r1⟩, y1⟩ := F3.room hkl; have d0 := cb b23 gl c0; have d1 := cb b23 gl c1; have d2 := cb b23 gl c2; have d3 := cb b23 gl c3; have x2 := fb b23 gl z2; have x3 := fb b23 gl z3))
        have hl2 := cell_ltL (HF.out.room hkl).1.choose_spec
        have s2 := b2.size
        obtain ⟨F4, R4, p0, p1, p2, p3, w2', w3'⟩ := fill_step (cap := cap2) F3 HLL.out hkl st ts HAL.out (show b ≠ g by omega) (show b ≠ h by omega) hrt d0 d1 d2 d3 x2 x3 (.int .i64 (max mo (cn : Int))) rfl
        have B4 := bs (bs (bs (bt HB.out b23) hhB (b := h) (o := k * 2) (.int .i64 st)) hhB (b := h) (o := k * 2 + 1) (.slice (some ⟨b, 0, none⟩) cn cap2)) hgB (b := g) (o := 2) (.int .i64 (max mo (cn : Int)))
        have HF4 := hide F4
        have HR4 := hide R4
        have HB4 := hide B4
        clear F4 R4 B4 F3 b23 b2 b3 hrt d0 d1 d2 d3 x2 x3 c0 c1 c2 c3 z2 z3 r0 y0 r1 y1 hbb ho1 hrow CA CR HF HB
        generalize ((w3.setCell ⟨h, k * 2, none⟩ (.int .i64 st)).setCell ⟨h, k * 2 + 1, none⟩ (.slice (some ⟨b, 0, none⟩) cn cap2)).setCell ⟨g, 2, none⟩ (.int .i64 (max mo (cn : Int))) = W at *
        obtain ⟨F5, q0, q1, q2, q3, o2, o3⟩ := fill_last (W := W.drew.setCell ⟨g, 3, none⟩ (.int .i64 (max so sz))) HF4.out p0 p1 p2 p3 w2' w3' (.int .i64 (max so sz)) rfl
        have B5 : Below w.heap.size w (W.drew.setCell ⟨g, 3, none⟩ (.int .i64 (max so sz))) := bs (bd HB4.out) hgB (b := g) (o := 3) _
        rw [← HSN.out] at F5
        have H5 := hide (And.intro F5 (And.intro q0 (And.intro q1 (And.intro q2 (And.intro q3 (And.intro o2 (And.intro o3 B5)))))))
        clear F5 B5 q0 q1 q2 q3 o2 o3
        go_region_with (go_at_call 67; (with_reducible refine (CS _ _ _ (HR4.out.below (by first | exact Below.refl _ _ | exact bd (Below.refl _ _)))).mono ?_); rintro e w4 ⟨rfl, rfl⟩)
        all_goals
          go_wp2
          go_roundw
          case rel =>
            obtain ⟨F5, q0, q1, q2, q3, o2, o3, B5⟩ := H5.out
            exact ⟨k + 1, by omega, by go_num, HC1, F5, q0, q1, (by rw [HM2.out]; exact q2), (by rw [HS2.out]; exact q3), o2, o3, B5⟩
          case measure => simp [intOf]; omega
      · have hend : firstCode f n m m = cd := (firstCode_stays (by rw [hc1]; exact hz) (show k + 1 ≤ m by omega)).trans hc1
        have hcc : cm = cd := HCD.out.symm.trans hend
        subst hcc
        have hzb : (cm != 0) = true := by simpa using hz
        have HZ := hide hz
        clear e1 e2 e3 e4 hx hln hc1 hal hend hz HC1 HSN HS1 HM1 hll
        go_wp2_with (first
          | (go_at_call 65; (with_reducible refine (CR _ (HK.out _ HB.out)).mono ?_); rintro e w2 ⟨v, rfl, ho1, b2⟩; obtain ⟨ad, cap, rfl, hrow, _⟩ := ho1.formn HLN.out)
          | (go_at_call 66; (with_reducible refine (CA _ _ _ hrow).mono ?_); rintro e w3 ⟨v2, rfl, ho2, b3⟩))
        exact bodyPost_ret (v := .tuple #[.pointer none, .int .i64 cm]) (by simp [results, Tryz.results51, go_sem]) rfl (by
          have B9 := bt (bt HB.out b2) b3
          first | exact ⟨.pointer none, rfl, (fun g => absurd g HZ.out), (fun _ => rfl), B9⟩ | exact ⟨.pointer none, rfl, (fun g => absurd g HZ.out), trivial, B9⟩)
    · obtain rfl : k = m := by omega
      have hcc : cm = 0 := HCD.out.symm.trans hf.out
      subst hcc
      have hT := hide (show TabM wr (.pointer (some ⟨g, 0, none⟩)) n (linesTo f n k k) from ⟨g, h, k, rfl, c0, by rw [hll]; exact c1, c2, c3, HF.out.heads⟩)
      clear HCD hf hkl hkm HF c0 c1 c2 c3
      go_wp2
      exact bodyPost_ret (v := .tuple #[.pointer (some ⟨g, 0, none⟩), .int .i64 0]) (by simp [results, Tryz.results51, go_sem]) rfl (by first | exact ⟨_, rfl, hT.out, HB.out⟩ | exact ⟨_, rfl, (fun _ => hT.out), (fun g => absurd rfl g), HB.out⟩)
theorem resize_none (f n m : Int) (h : resB f n m = false) (hf : I64 f) (w : World) (hk : Kinds w) :
    Calls Tryz.prog 51 #[.int .i64 f, .int .i64 n, .int .i64 m] w fun e w' => e = .returned (.tuple #[.pointer none, .int .i64 6]) ∧ Below w.heap.size w w' := by
  have hb := fun g => Bool.false_ne_true (h.symm.trans ((resB_iff f n m).2 g))
  clear h
  have CN := fun w hk => name_any f hf w hk
  by_cases hfr : 0 ≤ f ∧ f ≤ 2
  · obtain ⟨s, hs, s0⟩ := name_some f hfr.1 hfr.2
    rw [hs] at CN
    clear hs
    by_cases hn : 1 ≤ n ∧ n ≤ 65536
    · have S1 := tside_yes n hn.1 hn.2
      have S2 := tside_no m (by
        by_cases q : m < 1
        · exact Or.inl q
        · refine Or.inr ?_
          by_cases q2 : 65536 < m
          · exact q2
          · exact absurd ⟨hfr.1, hfr.2, hn, by omega, by omega⟩ hb)
      clear hb hn hfr
      go_enter Tryz.func51, Tryz.ntmps51
      go_wp2_with (first
        | (go_at_call 50; (with_reducible refine (CN _ hk).mono ?_); rintro e w0 ⟨rfl, b0⟩)
        | (go_at_call 64; (with_reducible refine (S1 _).mono ?_); rintro e w1 ⟨rfl, rfl⟩)
        | (go_at_call 64; (with_reducible refine (S2 _).mono ?_); rintro e w1 ⟨rfl, rfl⟩))
      exact bodyPost_ret (v := .tuple #[.pointer none, .int .i64 6]) (by simp [results, Tryz.results51, go_sem]) rfl ⟨rfl, b0⟩
    · have S1 := tside_no n (by omega)
      clear hb hn hfr
      go_enter Tryz.func51, Tryz.ntmps51
      go_wp2_with (first
        | (go_at_call 50; (with_reducible refine (CN _ hk).mono ?_); rintro e w0 ⟨rfl, b0⟩)
        | (go_at_call 64; (with_reducible refine (S1 _).mono ?_); rintro e w1 ⟨rfl, rfl⟩))
      exact bodyPost_ret (v := .tuple #[.pointer none, .int .i64 6]) (by simp [results, Tryz.results51, go_sem]) rfl ⟨rfl, b0⟩
  · rw [show nameF f = .string ⟨#[]⟩ by unfold nameF; rw [if_neg (by omega), if_neg (by omega), if_neg (by omega)]] at CN
    clear hb hfr
    go_enter Tryz.func51, Tryz.ntmps51
    go_wp2_with (go_at_call 50; (with_reducible refine (CN _ hk).mono ?_); rintro e w0 ⟨rfl, b0⟩)
    exact bodyPost_ret (v := .tuple #[.pointer none, .int .i64 6]) (by simp [results, Tryz.results51, go_sem]) rfl ⟨rfl, b0⟩
theorem resize_c : ResizeC Kinds Tab := by
  intro f n m f0 f1 n0 n1 m0 m1 w hk
  cases hB : resB f n m with
  | false =>
    have e : resCode f n m = 6 := by unfold resCode; rw [hB]; rfl
    rw [e]
    refine (resize_none f n m hB ⟨f0, f1⟩ w hk).mono ?_
    rintro e w1 ⟨rfl, b⟩
    exact ⟨_, rfl, (fun g => absurd g (by decide)), (fun _ => rfl), b⟩
  | true =>
    obtain ⟨a0, a1, ⟨b0, b1⟩, c0, c1⟩ := (resB_iff f n m).1 hB
    obtain ⟨k, rfl⟩ : ∃ k : Nat, m = (k : Int) := ⟨m.toNat, by omega⟩
    have e : resCode f n k = firstCode f n k k := by unfold resCode; rw [hB, if_pos rfl, Int.toNat_natCast]
    have HE := hide e
    rw [Int.toNat_natCast]
    refine (resize_walk f n k a0 a1 b0 b1 (by omega) (by omega) w hk).mono ?_
    rintro e w1 ⟨v, rfl, hT, hN, b⟩
    rw [HE.out]
    refine ⟨v, rfl, fun g => (hT g).tab (lines_ok (HE.out.trans g) hB) (moves_lines a0 a1 b0 b1 (by omega)) (by rw [linesTo_len]; omega) (by rw [linesTo_len]; omega) b0 b1, hN, b⟩
end Go.Proofs.YtdpkigdfhfippaaGreatDoor

/- The program's table: the same taps for all outputs. -/
namespace Go.Proofs.YtdpkigdfhfippaaGreatDoor
open Go.RowKit


def halfL (ts : List Int) : Nat := ts.length / 2
def aroundTo (ts : List Int) (k : Nat) : List (Int × List Int) := (List.range k).map fun i : Nat => ((i : Int) - (halfL ts : Int), ts)
theorem aroundTo_len (ts : List Int) (k : Nat) : (aroundTo ts k).length = k := by unfold aroundTo; rw [List.length_map, List.length_range]
theorem aroundTo_at {ts : List Int} {k j : Nat} (h : j < k) : lnAt (aroundTo ts k) j = ((j : Int) - (halfL ts : Int), ts) := lnAt_map _ h
theorem aroundTo_snoc (ts : List Int) (k : Nat) : aroundTo ts (k + 1) = aroundTo ts k ++ [((k : Int) - (halfL ts : Int), ts)] := by unfold aroundTo; rw [List.range_succ, List.map_append]; rfl
theorem around_fil (xs : List Int) (k : Nat) : filTo xs k = aroundTo (appR xs) k := by
  unfold filTo aroundTo halfL
  rw [appR_length]
  rfl
theorem around_most (ts : List Int) {k : Nat} (h : 1 ≤ k) : mostF (aroundTo ts k) = (ts.length : Int) ∧ sizeF (aroundTo ts k) = sizeH ts :=
  most_all (L := aroundTo ts k) (ts := ts) (fun j hj => by rw [aroundTo_len] at hj; rw [aroundTo_at hj]) (by rw [aroundTo_len]; exact h)
set_option maxHeartbeats 4000000 in
set_option maxRecDepth 100000 in
theorem around_any (ts : List Int) (l : Nat) (hl : ts.length = l) (l0 : 1 ≤ l) (l1 : l ≤ 1048576) (hx : All64 ts) (n : Nat) (n0 : 1 ≤ n) (n1 : n ≤ 65536) (b cap : Nat) (w : World) (hr : RowAt .i64 w (some ⟨b, 0, none⟩) ts) :
    Calls Tryz.prog 71 #[.slice (some ⟨b, 0, none⟩) l cap, .int .i64 (n : Int)] w fun e w' => ∃ v, e = .returned v ∧ TabM w' v n (aroundTo ts n) ∧ Below w.heap.size w w' := by
  obtain ⟨zs, MK, MO⟩ := makeLn n (by omega)
  have CS := fun w hr => tsize_n l ts hl (some ⟨b, 0, none⟩) cap w hr hx (by omega)
  have blt : b < w.heap.size := by
    obtain ⟨b', off, e, c⟩ := hr.get (show 0 < ts.length by omega)
    simp only [Option.some.injEq, Addr.mk.injEq, and_true] at e
    obtain ⟨rfl, rfl⟩ := e
    exact cell_ltL c
  have HR := hide hr
  have HL := hide hl
  have HX := hide hx
  have HMO := hide MO
  have SI := (sizeH_in ts)
  obtain ⟨s, hs⟩ : ∃ s, sizeH ts = s := ⟨_, rfl⟩
  have HS := hide hs
  rw [hs] at CS SI
  obtain ⟨HF, hHF⟩ : ∃ q, l / 2 = q := ⟨_, rfl⟩
  have HH := hide (show halfL ts = HF by unfold halfL; rw [hl, hHF])
  clear hr hx hl MO hs
  go_enter Tryz.func71, Tryz.ntmps71
  go_upto_region 1 with fail
  go_cut [5] (fun t wx => t = .pointer (some ⟨w.heap.size + 1, 0, none⟩) ∧ wx = ((w.alloc (.cells zs 63)).alloc (.cells #[.int .i64 (n : Int), .slice (some ⟨w.heap.size, 0, none⟩) n n, .int .i64 (l : Int), .int .i64 s] 83)).drew)
  case first =>
    go_region_with (go_at_call 67; (with_reducible refine (CS _ (HR.out.below (by repeat (first | exact Below.refl _ _ | (with_reducible refine bt ?_ (by assumption)) | with_reducible refine bd ?_ | with_reducible refine ba ?_ _)))).mono ?_); rintro e w4 ⟨rfl, rfl⟩)
    all_goals (go_wp2_with fail; go_meet)
    all_goals exact ⟨rfl, rfl⟩
  case rest =>
    obtain ⟨rfl, hcut⟩ := hcut
    have F0 := Fill.start (g := w.heap.size + 1) ((HMO.out w w.heap.size (Nat.le_refl _)).alloc (.cells #[.int .i64 (n : Int), .slice (some ⟨w.heap.size, 0, none⟩) n n, .int .i64 (l : Int), .int .i64 s] 83)) (by omega)
    have F1 := hide (show Fill wc (w.heap.size + 1) w.heap.size n [] by rw [hcut]; exact F0.below (bd (Below.refl _ _)))
    have BA := hide (show Below w.heap.size w wc by rw [hcut]; exact bd (ba (ba (Below.refl _ _) _) _))
    have c0 : wc.cell? ⟨w.heap.size + 1, 0, none⟩ = some (.int .i64 (n : Int)) := by rw [hcut]; simp
    have c1 : wc.cell? ⟨w.heap.size + 1, 1, none⟩ = some (.slice (some ⟨w.heap.size, 0, none⟩) n n) := by rw [hcut]; simp
    have c2 : wc.cell? ⟨w.heap.size + 1, 2, none⟩ = some (.int .i64 (l : Int)) := by rw [hcut]; simp
    have c3 : wc.cell? ⟨w.heap.size + 1, 3, none⟩ = some (.int .i64 s) := by rw [hcut]; simp
    clear F0 hcut MK HMO CS
    obtain ⟨h, hh⟩ : ∃ h, w.heap.size = h := ⟨_, rfl⟩
    rw [hh] at F1 c0 c1 c2 c3 blt
    simp only [hh]
    obtain ⟨g, hg⟩ : ∃ g, h + 1 = g := ⟨_, rfl⟩
    rw [hg] at F1 c0 c1 c2 c3
    simp only [hg]
    have hgB : w.heap.size ≤ g := by omega
    have hhB : w.heap.size ≤ h := by omega
    have hne : h ≠ g := by omega
    have hne2 : g ≠ h := by omega
    have hbg : b ≠ g := by omega
    have hbh : b ≠ h := by omega
    have hhalf : (l : Int) / 2 = (HF : Int) := by omega
    have h0 : (HF : Int) ≤ 524288 := by omega
    have h1 : 0 ≤ (HF : Int) := by omega
    have HHH := hide hh
    clear hh hg hHF blt
    go_wp2
    clear hhalf
    go_loopw [25] (fun i wr => ∃ k : Nat, k ≤ n ∧ i = .int .i64 (k : Int) ∧ Hid (Fill wr g h n (aroundTo ts k)) ∧ wr.cell? ⟨g, 0, none⟩ = some (.int .i64 (n : Int)) ∧ wr.cell? ⟨g, 1, none⟩ = some (.slice (some ⟨h, 0, none⟩) n n) ∧ wr.cell? ⟨g, 2, none⟩ = some (.int .i64 (l : Int)) ∧ wr.cell? ⟨g, 3, none⟩ = some (.int .i64 s) ∧ Below w.heap.size w wr) (fun i _ => n - (intOf i).toNat)
    case atStart => exact ⟨0, by omega, rfl, F1, c0, c1, c2, c3, BA.out⟩
    case round =>
      clear F1 BA c0 c1 c2 c3
      obtain ⟨k, hkn, rfl, HF1, c0, c1, c2, c3, hb⟩ := hrel
      have HB := hide hb
      clear hb
      by_cases hkl : k < n
      · obtain ⟨⟨v0, r0⟩, y0, ⟨v1, r1⟩, y1⟩ := HF1.out.room hkl
        have F4 := HF1.out.more (aroundTo_len ts k) hkl ((k : Int) - (HF : Int)) ts HL.out hbg hbh (HR.out.below HB.out) (cap := cap)
        have es := aroundTo_snoc ts k
        rw [HH.out] at es
        rw [← es] at F4
        have B4 := bs (bs HB.out hhB (b := h) (o := k * 2) (.int .i64 ((k : Int) - (HF : Int)))) hhB (b := h) (o := k * 2 + 1) (.slice (some ⟨b, 0, none⟩) l cap)
        have E : ∀ j, ((wr.setCell ⟨h, k * 2, none⟩ (.int .i64 ((k : Int) - (HF : Int)))).setCell ⟨h, k * 2 + 1, none⟩ (.slice (some ⟨b, 0, none⟩) l cap)).cell? ⟨g, j, none⟩ = wr.cell? ⟨g, j, none⟩ := fun j => (set_apart (Or.inl hne)).trans (set_apart (Or.inl hne))
        have H4 := hide (And.intro F4 (And.intro ((E 0).trans c0) (And.intro ((E 1).trans c1) (And.intro ((E 2).trans c2) (And.intro ((E 3).trans c3) B4)))))
        clear F4 es B4 E HF1 c0 c2 c3
        go_wp2
        go_roundw
        case rel =>
          obtain ⟨F4, q0, q1, q2, q3, B4⟩ := H4.out
          exact ⟨k + 1, by omega, by go_num, F4, q0, q1, q2, q3, B4⟩
        case measure => simp [intOf]; omega
      · obtain rfl : k = n := by omega
        obtain ⟨em, es⟩ := around_most ts (k := k) n0
        rw [HL.out] at em
        rw [HS.out] at es
        have hT := hide (show TabM wr (.pointer (some ⟨g, 0, none⟩)) k (aroundTo ts k) from ⟨g, h, k, rfl, c0, by rw [aroundTo_len]; exact c1, by rw [em]; exact c2, by rw [es]; exact c3, HF1.out.heads⟩)
        clear em es HF1 c0 c1 c2 c3 hkl hkn
        go_wp2
        go_ret
        exact ⟨_, rfl, hT.out, HB.out⟩
end Go.Proofs.YtdpkigdfhfippaaGreatDoor

/- The program's table: a filter. -/
namespace Go.Proofs.YtdpkigdfhfippaaGreatDoor
open Go.RowKit


theorem filter_six (xs : List Int) (ad : Option Addr) (cap : Nat) (n : Int) (h : sideB n = false) (w : World) :
    Calls Tryz.prog 53 #[.slice ad xs.length cap, .int .i64 n] w fun e w' => e = .returned (.tuple #[.pointer none, .int .i64 6]) ∧ w = w' := by
  have S1 := tside_no n (by
    have q := fun g => Bool.false_ne_true (h.symm.trans ((sideB_iff n).2 g))
    by_cases q1 : n < 1
    · exact Or.inl q1
    · refine Or.inr ?_
      by_cases q2 : 65536 < n
      · exact q2
      · exact absurd ⟨by omega, by omega⟩ q)
  clear h
  generalize xs.length = l at *
  go_enter Tryz.func53, Tryz.ntmps53
  go_wp2_with (go_at_call 64; (with_reducible refine (S1 _).mono ?_); rintro e w1 ⟨rfl, rfl⟩)
  exact bodyPost_ret (v := .tuple #[.pointer none, .int .i64 6]) (by simp [results, Tryz.results53, go_sem]) rfl ⟨rfl, rfl⟩
theorem filter_seven (l : Nat) (ad : Option Addr) (cap : Nat) (n : Int) (n0 : 1 ≤ n) (n1 : n ≤ 65536) (h2 : l % 2 = 0) (hl : l ≤ 9223372036854775807) (w : World) :
    Calls Tryz.prog 53 #[.slice ad l cap, .int .i64 n] w fun e w' => e = .returned (.tuple #[.pointer none, .int .i64 7]) ∧ w = w' := by
  have S1 := tside_yes n n0 n1
  have h3 : (l : Int) % 2 = 0 := by omega
  go_enter Tryz.func53, Tryz.ntmps53
  go_wp2_with (go_at_call 64; (with_reducible refine (S1 _).mono ?_); rintro e w1 ⟨rfl, rfl⟩)
  exact bodyPost_ret (v := .tuple #[.pointer none, .int .i64 7]) (by simp [results, Tryz.results53, go_sem]) rfl ⟨rfl, rfl⟩
theorem filter_code (xs : List Int) (l : Nat) (hn : xs.length = l) (ad : Option Addr) (cap : Nat) (n : Int) (n0 : 1 ≤ n) (n1 : n ≤ 65536) (h2 : l % 2 = 1) (hl : l ≤ 9223372036854775807) (cd : Int) (hc : appCode xs = cd) (hz : cd ≠ 0) (w : World) (hr : RowAt .i64 w ad xs) (hx : All64 xs) :
    Calls Tryz.prog 53 #[.slice ad l cap, .int .i64 n] w fun e w' => e = .returned (.tuple #[.pointer none, .int .i64 cd]) ∧ Below w.heap.size w w' := by
  have S1 := tside_yes n n0 n1
  have CA := papp_own_n l xs hn ad cap w hr hx hl
  rw [hc] at CA
  have h3 : (l : Int) % 2 = 1 := by omega
  have hzb : (cd != 0) = true := by simpa using hz
  clear hr hx hc hn
  go_enter Tryz.func53, Tryz.ntmps53
  go_wp2_with (first
    | (go_at_call 64; (with_reducible refine (S1 _).mono ?_); rintro e w1 ⟨rfl, rfl⟩)
    | (go_at_call 66; (with_reducible refine CA.mono ?_); rintro e w2 ⟨v, rfl, _, b2⟩))
  exact bodyPost_ret (v := .tuple #[.pointer none, .int .i64 cd]) (by simp [results, Tryz.results53, go_sem]) rfl ⟨rfl, b2⟩
theorem filter_ok (xs : List Int) (l : Nat) (hn : xs.length = l) (ad : Option Addr) (cap : Nat) (n : Nat) (n0 : 1 ≤ n) (n1 : n ≤ 65536) (h2 : l % 2 = 1) (hc : appCode xs = 0) (w : World) (hr : RowAt .i64 w ad xs) (hx : All64 xs) :
    Calls Tryz.prog 53 #[.slice ad l cap, .int .i64 (n : Int)] w fun e w' => ∃ v, e = .returned (.tuple #[v, .int .i64 0]) ∧ Tab w' v n (filTo xs n) ∧ Below w.heap.size w w' := by
  have hf := appCode_fits.1 hc
  have l1 : l ≤ 1048576 := by
    obtain ⟨_, h1, _⟩ := hf
    omega
  have l0 : 1 ≤ l := by omega
  have S1 := tside_yes n (by omega) (by omega)
  have CA := papp_own_n l xs hn ad cap w hr hx (by omega)
  rw [hc] at CA
  have CR := fun b cap w hr => around_any (appR xs) l (by rw [appR_length]; exact hn) l0 l1 (appR_64 hf) n n0 n1 b cap w hr
  rw [← around_fil] at CR
  have CT : ∀ (w' : World) (v : Value), TabM w' v n (filTo xs n) → Tab w' v n (filTo xs n) := fun w' v h => h.tab (fil_ok hf n1) (fil_moves xs n) (by rw [filTo_len]; exact n0) (by rw [filTo_len]; exact n1) (by omega) (by omega)
  have HT := hide CT
  have h3 : (l : Int) % 2 = 1 := by omega
  have HA := hide (show (appR xs).length = l by rw [appR_length]; exact hn)
  clear CT hr hx hc hn hf
  generalize filTo xs n = L at *
  go_enter Tryz.func53, Tryz.ntmps53
  go_wp2_with (first
    | (go_at_call 64; (with_reducible refine (S1 _).mono ?_); rintro e w1 ⟨rfl, rfl⟩)
    | (go_at_call 66; (with_reducible refine CA.mono ?_); rintro e w2 ⟨v, rfl, ho, b2⟩; obtain ⟨b, cap2, rfl, _, hrt⟩ := own_some (ho (by trivial)) HA.out l0; clear ho)
    | (go_at_call 71; (with_reducible refine (CR _ _ _ hrt).mono ?_); rintro e w3 ⟨v, rfl, hm, b3⟩))
  exact bodyPost_ret (v := .tuple #[v, .int .i64 0]) (by simp [results, Tryz.results53, go_sem]) rfl ⟨_, rfl, HT.out _ _ hm, bt b2 b3⟩
theorem filter_c : FilterC Kinds Tab := by
  intro xs ad cap n w _ hr hx hl n0 n1
  cases hB : sideB n with
  | false =>
    have e : filCode xs n = 6 := by unfold filCode; rw [hB]; rfl
    rw [e]
    refine (filter_six xs ad cap n hB w).mono ?_
    rintro e w1 ⟨rfl, rfl⟩
    exact ⟨_, rfl, (fun g => absurd g (by decide)), (fun _ => rfl), Below.refl _ _⟩
  | true =>
    obtain ⟨a0, a1⟩ := (sideB_iff n).1 hB
    by_cases h2 : xs.length % 2 = 0
    · have e : filCode xs n = 7 := by unfold filCode; rw [hB, if_pos rfl, if_pos h2]
      rw [e]
      refine (filter_seven xs.length ad cap n a0 a1 h2 hl w).mono ?_
      rintro e w1 ⟨rfl, rfl⟩
      exact ⟨_, rfl, (fun g => absurd g (by decide)), (fun _ => rfl), Below.refl _ _⟩
    · have e : filCode xs n = appCode xs := by unfold filCode; rw [hB, if_pos rfl, if_neg h2]
      rw [e]
      by_cases hz : appCode xs = 0
      · obtain ⟨k, rfl⟩ : ∃ k : Nat, n = (k : Int) := ⟨n.toNat, by omega⟩
        rw [hz, Int.toNat_natCast]
        refine (filter_ok xs xs.length rfl ad cap k (by omega) (by omega) (by omega) hz w hr hx).mono ?_
        rintro e w1 ⟨v, rfl, hT, b⟩
        exact ⟨v, rfl, (fun _ => hT), (fun g => absurd rfl g), b⟩
      · have HZ := hide hz
        refine (filter_code xs xs.length rfl ad cap n a0 a1 (by omega) hl (appCode xs) rfl hz w hr hx).mono ?_
        rintro e w1 ⟨rfl, b⟩
        exact ⟨_, rfl, (fun g => absurd g HZ.out), (fun _ => rfl), b⟩
end Go.Proofs.YtdpkigdfhfippaaGreatDoor
