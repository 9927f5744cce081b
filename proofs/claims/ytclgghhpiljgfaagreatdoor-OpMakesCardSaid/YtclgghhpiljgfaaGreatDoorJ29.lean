/- Parts, joined. -/
import Derived.Test.YtclgghhpiljgfaaGreatDoorJ28
import Derived.Test.YtclgghhpiljgfaaGreatDoorJ23
import Derived.Test.YtclgghhpiljgfaaGreatDoorJ22
import Derived.Test.YtclgghhpiljgfaaGreatDoorJ27
import Derived.Test.YtclgghhpiljgfaaGreatDoorJ19
import Derived.Test.YtclgghhpiljgfaaGreatDoorJ20
import Derived.Test.YtclgghhpiljgfaaGreatDoorJ15
import Derived.Deep.LoopGhost
/- The program's table: the same taps for all outputs. -/
namespace Go.Proofs.YtclgghhpiljgfaaGreatDoor
open Go.RowKit


def halfL (ts : List Int) : Nat := ts.length / 2
def aroundTo (ts : List Int) (k : Nat) : List (Int × List Int) := (List.range k).map fun i : Nat => ((i : Int) - (halfL ts : Int), ts)
theorem aroundTo_len (ts : List Int) (k : Nat) : (aroundTo ts k).length = k := by unfold aroundTo; rw [List.length_map, List.length_range]
theorem aroundTo_at {ts : List Int} {k j : Nat} (h : j < k) : lnAt (aroundTo ts k) j = ((j : Int) - (halfL ts : Int), ts) := lnAt_map _ h
theorem aroundTo_snoc (ts : List Int) (k : Nat) : aroundTo ts (k + 1) = aroundTo ts k ++ [((k : Int) - (halfL ts : Int), ts)] := by unfold aroundTo; rw [List.range_succ, List.map_append]; rfl
theorem around_fil (xs : List Int) (k : Nat) : filTo xs k = aroundTo (appR xs) k := by
  unfold filTo aroundTo halfL
  rw [appR_length]
  rfl
theorem around_most (ts : List Int) {k : Nat} (h : 1 ≤ k) : mostF (aroundTo ts k) = (ts.length : Int) ∧ sizeF (aroundTo ts k) = sizeH ts :=
  most_all (L := aroundTo ts k) (ts := ts) (fun j hj => by rw [aroundTo_len] at hj; rw [aroundTo_at hj]) (by rw [aroundTo_len]; exact h)
set_option maxHeartbeats 4000000 in
set_option maxRecDepth 100000 in
theorem around_any (ts : List Int) (l : Nat) (hl : ts.length = l) (l0 : 1 ≤ l) (l1 : l ≤ 1048576) (hx : All64 ts) (n : Nat) (n0 : 1 ≤ n) (n1 : n ≤ 65536) (b cap : Nat) (w : World) (hr : RowAt .i64 w (some ⟨b, 0, none⟩) ts) :
    Calls Tryz.prog 66 #[.slice (some ⟨b, 0, none⟩) l cap, .int .i64 (n : Int)] w fun e w' => ∃ v, e = .returned v ∧ TabM w' v n (aroundTo ts n) ∧ Below w.heap.size w w' := by
  obtain ⟨zs, MK, MO⟩ := makeLn n (by omega)
  have CS := fun w hr => tsize_n l ts hl (some ⟨b, 0, none⟩) cap w hr hx (by omega)
  have blt : b < w.heap.size := by
    obtain ⟨b', off, e, c⟩ := hr.get (show 0 < ts.length by omega)
    simp only [Option.some.injEq, Addr.mk.injEq, and_true] at e
    obtain ⟨rfl, rfl⟩ := e
    exact cell_ltL c
  have HR := hide hr
  have HL := hide hl
  have HX := hide hx
  have HMO := hide MO
  have SI := (sizeH_in ts)
  obtain ⟨s, hs⟩ : ∃ s, sizeH ts = s := ⟨_, rfl⟩
  have HS := hide hs
  rw [hs] at CS SI
  obtain ⟨HF, hHF⟩ : ∃ q, l / 2 = q := ⟨_, rfl⟩
  have HH := hide (show halfL ts = HF by unfold halfL; rw [hl, hHF])
  clear hr hx hl MO hs
  go_enter Tryz.func66, Tryz.ntmps66
  go_upto_region 1 with fail
  go_cut [5] (fun t wx => t = .pointer (some ⟨w.heap.size + 1, 0, none⟩) ∧ wx = ((w.alloc (.cells zs 38)).alloc (.cells #[.int .i64 (n : Int), .slice (some ⟨w.heap.size, 0, none⟩) n n, .int .i64 (l : Int), .int .i64 s] 72)).drew)
  case first =>
    go_region_with (go_at_call 62; (with_reducible refine (CS _ (HR.out.below (by repeat (first | exact Below.refl _ _ | (with_reducible refine bt ?_ (by assumption)) | with_reducible refine bd ?_ | with_reducible refine ba ?_ _)))).mono ?_); rintro e w4 ⟨rfl, rfl⟩)
    all_goals (go_wp2_with fail; go_meet)
    all_goals exact ⟨rfl, rfl⟩
  case rest =>
    obtain ⟨rfl, hcut⟩ := hcut
    have F0 := Fill.start (g := w.heap.size + 1) ((HMO.out w w.heap.size (Nat.le_refl _)).alloc (.cells #[.int .i64 (n : Int), .slice (some ⟨w.heap.size, 0, none⟩) n n, .int .i64 (l : Int), .int .i64 s] 72)) (by omega)
    have F1 := hide (show Fill wc (w.heap.size + 1) w.heap.size n [] by rw [hcut]; exact F0.below (bd (Below.refl _ _)))
    have BA := hide (show Below w.heap.size w wc by rw [hcut]; exact bd (ba (ba (Below.refl _ _) _) _))
    have c0 : wc.cell? ⟨w.heap.size + 1, 0, none⟩ = some (.int .i64 (n : Int)) := by rw [hcut]; simp
    have c1 : wc.cell? ⟨w.heap.size + 1, 1, none⟩ = some (.slice (some ⟨w.heap.size, 0, none⟩) n n) := by rw [hcut]; simp
    have c2 : wc.cell? ⟨w.heap.size + 1, 2, none⟩ = some (.int .i64 (l : Int)) := by rw [hcut]; simp
    have c3 : wc.cell? ⟨w.heap.size + 1, 3, none⟩ = some (.int .i64 s) := by rw [hcut]; simp
    clear F0 hcut MK HMO CS
    obtain ⟨h, hh⟩ : ∃ h, w.heap.size = h := ⟨_, rfl⟩
    rw [hh] at F1 c0 c1 c2 c3 blt
    simp only [hh]
    obtain ⟨g, hg⟩ : ∃ g, h + 1 = g := ⟨_, rfl⟩
    rw [hg] at F1 c0 c1 c2 c3
    simp only [hg]
    have hgB : w.heap.size ≤ g := by omega
    have hhB : w.heap.size ≤ h := by omega
    have hne : h ≠ g := by omega
    have hne2 : g ≠ h := by omega
    have hbg : b ≠ g := by omega
    have hbh : b ≠ h := by omega
    have hhalf : (l : Int) / 2 = (HF : Int) := by omega
    have h0 : (HF : Int) ≤ 524288 := by omega
    have h1 : 0 ≤ (HF : Int) := by omega
    have HHH := hide hh
    clear hh hg hHF blt
    go_wp2
    clear hhalf
    go_loopw [25] (fun i wr => ∃ k : Nat, k ≤ n ∧ i = .int .i64 (k : Int) ∧ Hid (Fill wr g h n (aroundTo ts k)) ∧ wr.cell? ⟨g, 0, none⟩ = some (.int .i64 (n : Int)) ∧ wr.cell? ⟨g, 1, none⟩ = some (.slice (some ⟨h, 0, none⟩) n n) ∧ wr.cell? ⟨g, 2, none⟩ = some (.int .i64 (l : Int)) ∧ wr.cell? ⟨g, 3, none⟩ = some (.int .i64 s) ∧ Below w.heap.size w wr) (fun i _ => n - (intOf i).toNat)
    case atStart => exact ⟨0, by omega, rfl, F1, c0, c1, c2, c3, BA.out⟩
    case round =>
      clear F1 BA c0 c1 c2 c3
      obtain ⟨k, hkn, rfl, HF1, c0, c1, c2, c3, hb⟩ := hrel
      have HB := hide hb
      clear hb
      by_cases hkl : k < n
      · obtain ⟨⟨v0, r0⟩, y0, ⟨v1, r1⟩, y1⟩ := HF1.out.room hkl
        have F4 := HF1.out.more (aroundTo_len ts k) hkl ((k : Int) - (HF : Int)) ts HL.out hbg hbh (HR.out.below HB.out) (cap := cap)
        have es := aroundTo_snoc ts k
        rw [HH.out] at es
        rw [← es] at F4
        have B4 := bs (bs HB.out hhB (b := h) (o := k * 2) (.int .i64 ((k : Int) - (HF : Int)))) hhB (b := h) (o := k * 2 + 1) (.slice (some ⟨b, 0, none⟩) l cap)
        have E : ∀ j, ((wr.setCell ⟨h, k * 2, none⟩ (.int .i64 ((k : Int) - (HF : Int)))).setCell ⟨h, k * 2 + 1, none⟩ (.slice (some ⟨b, 0, none⟩) l cap)).cell? ⟨g, j, none⟩ = wr.cell? ⟨g, j, none⟩ := fun j => (set_apart (Or.inl hne)).trans (set_apart (Or.inl hne))
        have H4 := hide (And.intro F4 (And.intro ((E 0).trans c0) (And.intro ((E 1).trans c1) (And.intro ((E 2).trans c2) (And.intro ((E 3).trans c3) B4)))))
        clear F4 es B4 E HF1 c0 c2 c3
        go_wp2
        go_roundw
        case rel =>
          obtain ⟨F4, q0, q1, q2, q3, B4⟩ := H4.out
          exact ⟨k + 1, by omega, by go_num, F4, q0, q1, q2, q3, B4⟩
        case measure => simp [intOf]; omega
      · obtain rfl : k = n := by omega
        obtain ⟨em, es⟩ := around_most ts (k := k) n0
        rw [HL.out] at em
        rw [HS.out] at es
        have hT := hide (show TabM wr (.pointer (some ⟨g, 0, none⟩)) k (aroundTo ts k) from ⟨g, h, k, rfl, c0, by rw [aroundTo_len]; exact c1, by rw [em]; exact c2, by rw [es]; exact c3, HF1.out.heads⟩)
        clear em es HF1 c0 c1 c2 c3 hkl hkn
        go_wp2
        go_ret
        exact ⟨_, rfl, hT.out, HB.out⟩
end Go.Proofs.YtclgghhpiljgfaaGreatDoor

/- The program's table: a filter. -/
namespace Go.Proofs.YtclgghhpiljgfaaGreatDoor
open Go.RowKit


theorem filter_six (xs : List Int) (ad : Option Addr) (cap : Nat) (n : Int) (h : sideB n = false) (w : World) :
    Calls Tryz.prog 48 #[.slice ad xs.length cap, .int .i64 n] w fun e w' => e = .returned (.tuple #[.pointer none, .int .i64 6]) ∧ w = w' := by
  have S1 := tside_no n (by
    have q := fun g => Bool.false_ne_true (h.symm.trans ((sideB_iff n).2 g))
    by_cases q1 : n < 1
    · exact Or.inl q1
    · refine Or.inr ?_
      by_cases q2 : 65536 < n
      · exact q2
      · exact absurd ⟨by omega, by omega⟩ q)
  clear h
  generalize xs.length = l at *
  go_enter Tryz.func48, Tryz.ntmps48
  go_wp2_with (go_at_call 61; (with_reducible refine (S1 _).mono ?_); rintro e w1 ⟨rfl, rfl⟩)
  exact bodyPost_ret (v := .tuple #[.pointer none, .int .i64 6]) (by simp [results, Tryz.results48, go_sem]) rfl ⟨rfl, rfl⟩
theorem filter_seven (l : Nat) (ad : Option Addr) (cap : Nat) (n : Int) (n0 : 1 ≤ n) (n1 : n ≤ 65536) (h2 : l % 2 = 0) (hl : l ≤ 9223372036854775807) (w : World) :
    Calls Tryz.prog 48 #[.slice ad l cap, .int .i64 n] w fun e w' => e = .returned (.tuple #[.pointer none, .int .i64 7]) ∧ w = w' := by
  have S1 := tside_yes n n0 n1
  have h3 : (l : Int) % 2 = 0 := by omega
  go_enter Tryz.func48, Tryz.ntmps48
  go_wp2_with (go_at_call 61; (with_reducible refine (S1 _).mono ?_); rintro e w1 ⟨rfl, rfl⟩)
  exact bodyPost_ret (v := .tuple #[.pointer none, .int .i64 7]) (by simp [results, Tryz.results48, go_sem]) rfl ⟨rfl, rfl⟩
theorem filter_code (xs : List Int) (l : Nat) (hn : xs.length = l) (ad : Option Addr) (cap : Nat) (n : Int) (n0 : 1 ≤ n) (n1 : n ≤ 65536) (h2 : l % 2 = 1) (hl : l ≤ 9223372036854775807) (cd : Int) (hc : appCode xs = cd) (hz : cd ≠ 0) (w : World) (hr : RowAt .i64 w ad xs) (hx : All64 xs) :
    Calls Tryz.prog 48 #[.slice ad l cap, .int .i64 n] w fun e w' => e = .returned (.tuple #[.pointer none, .int .i64 cd]) ∧ Below w.heap.size w w' := by
  have S1 := tside_yes n n0 n1
  have CA := papp_own_n l xs hn ad cap w hr hx hl
  rw [hc] at CA
  have h3 : (l : Int) % 2 = 1 := by omega
  have hzb : (cd != 0) = true := by simpa using hz
  clear hr hx hc hn
  go_enter Tryz.func48, Tryz.ntmps48
  go_wp2_with (first
    | (go_at_call 61; (with_reducible refine (S1 _).mono ?_); rintro e w1 ⟨rfl, rfl⟩)
    | (go_at_call 59; (with_reducible refine CA.mono ?_); rintro e w2 ⟨v, rfl, _, b2⟩))
  exact bodyPost_ret (v := .tuple #[.pointer none, .int .i64 cd]) (by simp [results, Tryz.results48, go_sem]) rfl ⟨rfl, b2⟩
theorem filter_ok (xs : List Int) (l : Nat) (hn : xs.length = l) (ad : Option Addr) (cap : Nat) (n : Nat) (n0 : 1 ≤ n) (n1 : n ≤ 65536) (h2 : l % 2 = 1) (hc : appCode xs = 0) (w : World) (hr : RowAt .i64 w ad xs) (hx : All64 xs) :
    Calls Tryz.prog 48 #[.slice ad l cap, .int .i64 (n : Int)] w fun e w' => ∃ v, e = .returned (.tuple #[v, .int .i64 0]) ∧ Tab w' v n (filTo xs n) ∧ Below w.heap.size w w' := by
  have hf := appCode_fits.1 hc
  have l1 : l ≤ 1048576 := by
    obtain ⟨_, h1, _⟩ := hf
    omega
  have l0 : 1 ≤ l := by omega
  have S1 := tside_yes n (by omega) (by omega)
  have CA := papp_own_n l xs hn ad cap w hr hx (by omega)
  rw [hc] at CA
  have CR := fun b cap w hr => around_any (appR xs) l (by rw [appR_length]; exact hn) l0 l1 (appR_64 hf) n n0 n1 b cap w hr
  rw [← around_fil] at CR
  have CT : ∀ (w' : World) (v : Value), TabM w' v n (filTo xs n) → Tab w' v n (filTo xs n) := fun w' v h => h.tab (fil_ok hf n1) (fil_moves xs n) (by rw [filTo_len]; exact n0) (by rw [filTo_len]; exact n1) (by omega) (by omega)
  have HT := hide CT
  have h3 : (l : Int) % 2 = 1 := by omega
  have HA := hide (show (appR xs).length = l by rw [appR_length]; exact hn)
  clear CT hr hx hc hn hf
  generalize filTo xs n = L at *
  go_enter Tryz.func48, Tryz.ntmps48
  go_wp2_with (first
    | (go_at_call 61; (with_reducible refine (S1 _).mono ?_); rintro e w1 ⟨rfl, rfl⟩)
    | (go_at_call 59; (with_reducible refine CA.mono ?_); rintro e w2 ⟨v, rfl, ho, b2⟩; obtain ⟨b, cap2, rfl, _, hrt⟩ := own_some (ho (by trivial)) HA.out l0; clear ho)
    | (go_at_call 66; (with_reducible refine (CR _ _ _ hrt).mono ?_); rintro e w3 ⟨v, rfl, hm, b3⟩))
  exact bodyPost_ret (v := .tuple #[v, .int .i64 0]) (by simp [results, Tryz.results48, go_sem]) rfl ⟨_, rfl, HT.out _ _ hm, bt b2 b3⟩
theorem filter_c : FilterC Kinds Tab := by
  intro xs ad cap n w _ hr hx hl n0 n1
  cases hB : sideB n with
  | false =>
    have e : filCode xs n = 6 := by unfold filCode; rw [hB]; rfl
    rw [e]
    refine (filter_six xs ad cap n hB w).mono ?_
    rintro e w1 ⟨rfl, rfl⟩
    exact ⟨_, rfl, (fun g => absurd g (by decide)), (fun _ => rfl), Below.refl _ _⟩
  | true =>
    obtain ⟨a0, a1⟩ := (sideB_iff n).1 hB
    by_cases h2 : xs.length % 2 = 0
    · have e : filCode xs n = 7 := by unfold filCode; rw [hB, if_pos rfl, if_pos h2]
      rw [e]
      refine (filter_seven xs.length ad cap n a0 a1 h2 hl w).mono ?_
      rintro e w1 ⟨rfl, rfl⟩
      exact ⟨_, rfl, (fun g => absurd g (by decide)), (fun _ => rfl), Below.refl _ _⟩
    · have e : filCode xs n = appCode xs := by unfold filCode; rw [hB, if_pos rfl, if_neg h2]
      rw [e]
      by_cases hz : appCode xs = 0
      · obtain ⟨k, rfl⟩ : ∃ k : Nat, n = (k : Int) := ⟨n.toNat, by omega⟩
        rw [hz, Int.toNat_natCast]
        refine (filter_ok xs xs.length rfl ad cap k (by omega) (by omega) (by omega) hz w hr hx).mono ?_
        rintro e w1 ⟨v, rfl, hT, b⟩
        exact ⟨v, rfl, (fun _ => hT), (fun g => absurd rfl g), b⟩
      · have HZ := hide hz
        refine (filter_code xs xs.length rfl ad cap n a0 a1 (by omega) hl (appCode xs) rfl hz w hr hx).mono ?_
        rintro e w1 ⟨rfl, b⟩
        exact ⟨_, rfl, (fun g => absurd g HZ.out), (fun _ => rfl), b⟩
end Go.Proofs.YtclgghhpiljgfaaGreatDoor

/- Operations: the tables' example once more (without what only some seats have); the document's sizes of a side, and sizes that an operation leads to. -/
namespace Go.Proofs.YtclgghhpiljgfaaGreatDoor
open Go.RowKit


set_option maxRecDepth 100000 in
theorem lives8 : LiveC Kinds 24 := by
  intro w hk
  have C5 : ∀ w : World, Kinds w → Calls Tryz.prog 40 #[] w fun e w' => e = .returned (.bool true) ∧ Below w.heap.size w w' := fun w hk => rlives row_yes keysC w hk
  have C6 : ∀ w : World, Kinds w → Calls Tryz.prog 41 #[] w fun e w' => e = .returned (.bool true) ∧ Below w.heap.size w w' := fun w hk => tlives (K := Kinds) (fun _ _ h b => kinds_below h b) (fun xs ad cap w _ hr hx hl => apportion_any xs ad cap w hr hx hl) (fun s w _ _ _ => gaussian_any s w) w hk
  obtain ⟨e1, e2, e3⟩ := res_ex
  have CR1 := fun w hk => resize_c 0 4 2 (by omega) (by omega) (by omega) (by omega) (by omega) (by omega) w hk
  rw [e1, show (2 : Int).toNat = 2 from rfl, e2] at CR1
  have CK : ∀ w' : World, Below w.heap.size w w' → Kinds w' := fun w' b => kinds_below hk b
  have L1 : ∀ {w : World} {v : Value} {n : Int}, Tab w v n [(0, [8192, 8192]), (2, [8192, 8192])] → Calls Tryz.prog 11 #[v, .int .i64 1] w fun e w' => ∃ u, e = .returned (.agg #[.int .i64 2, u]) ∧ OwnI .i64 2 w' w.heap.size u [8192, 8192] ∧ Below w.heap.size w w' := fun h => tab_line h 1 (by decide)
  have L0 : ∀ {w : World} {v : Value} {n : Int}, Tab w v n [(0, [8192, 8192]), (2, [8192, 8192])] → Calls Tryz.prog 11 #[v, .int .i64 0] w fun e w' => ∃ u, e = .returned (.agg #[.int .i64 0, u]) ∧ OwnI .i64 2 w' w.heap.size u [8192, 8192] ∧ Below w.heap.size w w' := fun h => tab_line h 0 (by decide)
  have LR : ∀ {w : World} {v : Value} {n : Int}, Tab w v n [(0, [8192, 8192]), (2, [8192, 8192])] → Calls Tryz.prog 43 #[v, .int .i64 0, .int .i64 2] w fun e w' => e = .returned (.tuple #[.int .i64 0, .int .i64 4]) ∧ Below w.heap.size w w' := by
    intro w v n h
    have := tab_reach h 0 2 (by omega) (by omega) (by omega) (by omega)
    rw [e3] at this
    exact this
  clear e1 e2 e3 hk
  go_enter Tryz.func24, Tryz.ntmps24
  go_wp2_with (first
    | (go_at_call 40; (with_reducible refine (C5 _ (CK _ (by repeat (first | exact Below.refl _ _ | exact HB.out | (with_reducible refine bt ?_ (by assumption)) | with_reducible refine bd ?_ | with_reducible refine ba ?_ _)))).mono ?_); rintro e w1 ⟨rfl, b1⟩)
    | (go_at_call 41; (with_reducible refine (C6 _ (CK _ (by repeat (first | exact Below.refl _ _ | exact HB.out | (with_reducible refine bt ?_ (by assumption)) | with_reducible refine bd ?_ | with_reducible refine ba ?_ _)))).mono ?_); rintro e w2 ⟨rfl, b2⟩)
    | (go_at_call 42; (with_reducible refine (CR1 _ (CK _ (by repeat (first | exact Below.refl _ _ | exact HB.out | (with_reducible refine bt ?_ (by assumption)) | with_reducible refine bd ?_ | with_reducible refine ba ?_ _)))).mono ?_); rintro e w3 ⟨v, rfl, hT, _, b3⟩; have HT := hide (hT (by trivial)); clear hT; obtain ⟨a, rfl⟩ := Tab.ptr HT.out)
    | (go_at_call 11; (with_reducible refine (L1 HT.out).mono ?_); rintro e w4 ⟨u, rfl, ou, b4⟩; obtain ⟨ad, cap, rfl, ra, _⟩ := ou.formn (show [(8192 : Int), 8192].length = 2 from rfl))
    | (go_at_call 43; (with_reducible refine (LR (Tab.below HT.out (by repeat (first | exact Below.refl _ _ | exact HB.out | (with_reducible refine bt ?_ (by assumption)) | with_reducible refine bd ?_ | with_reducible refine ba ?_ _)))).mono ?_); rintro e w5 ⟨rfl, b5⟩; have q0 := cb b5 (b := w4.heap.size) (o := 0) (v := .int .i64 2) (by simp) (by simp); have q1 := cb b5 (b := w4.heap.size) (o := 1) (v := .slice ad 2 cap) (by simp) (by simp); have z5 : w4.heap.size < w5.heap.size := (by have := b5.size; simp at this; omega))
    | (go_at_call 11; (with_reducible refine (L0 (Tab.below HT.out (by repeat (first | exact Below.refl _ _ | exact HB.out | (with_reducible refine bt ?_ (by assumption)) | with_reducible refine bd ?_ | with_reducible refine ba ?_ _)))).mono ?_); rintro e w6 ⟨u6, rfl, ou6, b6⟩; obtain ⟨ad6, cap6, rfl, _, _⟩ := ou6.formn (show [(8192 : Int), 8192].length = 2 from rfl); have F0 := field_first 0 ad6 2 cap6; have y0 := cb b6 z5 q0; have y1 := cb b6 z5 q1)
    | (go_at_call 44; (with_reducible refine (same_n 2 [8192, 8192] rfl _ _ _ _ _ (ra.below (by repeat (first | exact Below.refl _ _ | exact HB.out | (with_reducible refine bt ?_ (by assumption)) | with_reducible refine bd ?_ | with_reducible refine ba ?_ _))) (lit2 _ _ _ _) (by omega)).mono ?_); rintro e w7 ⟨rfl, b7⟩))
  go_ret
  refine ⟨rfl, ?_⟩
  exact (by repeat (first | exact Below.refl _ _ | exact HB.out | (with_reducible refine bt ?_ (by assumption)) | with_reducible refine bd ?_ | with_reducible refine ba ?_ _))
theorem dside12_yes (n : Int) (h0 : 1 ≤ n) (h1 : n ≤ 65536) (w : World) :
    Calls Tryz.prog 31 #[.int .i64 n] w fun e w' => e = .returned (.bool true) ∧ w = w' := by
  go_enter Tryz.func31, Tryz.ntmps31
  go_wp2
  go_ret
  first | exact ⟨rfl, rfl⟩ | exact ⟨ret_bool (decide_eq_true (by omega)), rfl⟩
theorem dside12_no (n : Int) (h : n < 1 ∨ 65536 < n) (w : World) :
    Calls Tryz.prog 31 #[.int .i64 n] w fun e w' => e = .returned (.bool false) ∧ w = w' := by
  rcases h with h | h
  all_goals
    go_enter Tryz.func31, Tryz.ntmps31
    go_wp2
    go_ret
    first | exact ⟨rfl, rfl⟩ | exact ⟨ret_bool (decide_eq_false (by omega)), rfl⟩
/-- The document's sizes that an operation leads to. -/
theorem dsize12_any (o : Opr) (ax : Option Addr) (cx : Nat) (ay : Option Addr) (cy : Nat) (a b : Int) (w : World) :
    Calls Tryz.prog 16 #[opV o ax cx ay cy, .int .i64 a, .int .i64 b] w fun e w' => e = .returned (.tuple #[.int .i64 (toW o a), .int .i64 (toH o b)]) ∧ Below w.heap.size w w' := by
  unfold opV toW toH
  obtain ⟨kd, bd, sg, rd, xs, ys, fl, wd, ht⟩ := o
  simp only
  generalize xs.length = nx at *
  generalize ys.length = ny at *
  by_cases h : kd = 3
  · rw [if_pos h, if_pos h]
    subst h
    go_enter Tryz.func16, Tryz.ntmps16
    go_wp2
    go_quiet (fail)
    go_wp2
    exact bodyPost_ret (v := .tuple #[.int .i64 wd, .int .i64 ht]) (by simp [results, Tryz.results16, go_sem]) rfl ⟨rfl, by repeat (first | exact Below.refl _ _ | with_reducible refine bdN ?_ _ | with_reducible refine bd ?_ | with_reducible refine ba ?_ _)⟩
  · rw [if_neg h, if_neg h]
    have hq : (kd == 3) = false := by simpa using h
    clear h
    go_enter Tryz.func16, Tryz.ntmps16
    go_wp2
    exact bodyPost_ret (v := .tuple #[.int .i64 a, .int .i64 b]) (by simp [results, Tryz.results16, go_sem]) rfl ⟨rfl, by repeat (first | exact Below.refl _ _ | with_reducible refine bd ?_ | with_reducible refine ba ?_ _)⟩
end Go.Proofs.YtclgghhpiljgfaaGreatDoor
