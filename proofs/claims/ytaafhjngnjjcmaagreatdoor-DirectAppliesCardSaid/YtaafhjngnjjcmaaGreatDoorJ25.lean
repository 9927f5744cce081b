/- Parts, joined. -/
import Derived.Test.YtaafhjngnjjcmaaGreatDoorJ24
import Derived.Test.YtaafhjngnjjcmaaGreatDoorJ23
import Derived.Test.YtaafhjngnjjcmaaGreatDoorJ17
import Derived.Test.YtaafhjngnjjcmaaGreatDoorJ12
import Derived.Test.YtaafhjngnjjcmaaGreatDoorJ15
import Derived.Test.YtaafhjngnjjcmaaGreatDoorJ03
import Derived.Test.YtaafhjngnjjcmaaGreatDoorJ22
import Derived.Deep.LoopGhost
/- The program's table: the same taps for all outputs. -/
namespace Go.Proofs.YtaafhjngnjjcmaaGreatDoor
open Go.RowKit


def halfL (ts : List Int) : Nat := ts.length / 2
def aroundTo (ts : List Int) (k : Nat) : List (Int × List Int) := (List.range k).map fun i : Nat => ((i : Int) - (halfL ts : Int), ts)
theorem aroundTo_len (ts : List Int) (k : Nat) : (aroundTo ts k).length = k := by unfold aroundTo; rw [List.length_map, List.length_range]
theorem aroundTo_at {ts : List Int} {k j : Nat} (h : j < k) : lnAt (aroundTo ts k) j = ((j : Int) - (halfL ts : Int), ts) := lnAt_map _ h
theorem aroundTo_snoc (ts : List Int) (k : Nat) : aroundTo ts (k + 1) = aroundTo ts k ++ [((k : Int) - (halfL ts : Int), ts)] := by unfold aroundTo; rw [List.range_succ, List.map_append]; rfl
theorem around_fil (xs : List Int) (k : Nat) : filTo xs k = aroundTo (appR xs) k := by
  unfold filTo aroundTo halfL
  rw [appR_length]
  rfl
theorem around_same (k : Nat) : sameTo k = aroundTo [16384] k := by
  unfold sameTo aroundTo
  refine List.map_congr_left fun i _ => ?_
  show ((i : Int), [16384]) = ((i : Int) - ((1 / 2 : Nat) : Int), [16384])
  rw [show ((1 / 2 : Nat) : Int) = 0 from rfl, Int.sub_zero]
theorem around_most (ts : List Int) {k : Nat} (h : 1 ≤ k) : mostF (aroundTo ts k) = (ts.length : Int) ∧ sizeF (aroundTo ts k) = sizeH ts :=
  most_all (L := aroundTo ts k) (ts := ts) (fun j hj => by rw [aroundTo_len] at hj; rw [aroundTo_at hj]) (by rw [aroundTo_len]; exact h)
set_option maxHeartbeats 4000000 in
set_option maxRecDepth 100000 in
theorem around_any (ts : List Int) (l : Nat) (hl : ts.length = l) (l0 : 1 ≤ l) (l1 : l ≤ 1048576) (hx : All64 ts) (n : Nat) (n0 : 1 ≤ n) (n1 : n ≤ 65536) (b cap : Nat) (w : World) (hr : RowAt .i64 w (some ⟨b, 0, none⟩) ts) :
    Calls Tryz.prog 65 #[.slice (some ⟨b, 0, none⟩) l cap, .int .i64 (n : Int)] w fun e w' => ∃ v, e = .returned v ∧ TabM w' v n (aroundTo ts n) ∧ Below w.heap.size w w' := by
  obtain ⟨zs, MK, MO⟩ := makeLn n (by omega)
  have CS := fun w hr => tsize_n l ts hl (some ⟨b, 0, none⟩) cap w hr hx (by omega)
  have blt : b < w.heap.size := by
    obtain ⟨b', off, e, c⟩ := hr.get (show 0 < ts.length by omega)
    simp only [Option.some.injEq, Addr.mk.injEq, and_true] at e
    obtain ⟨rfl, rfl⟩ := e
    exact cell_ltL c
  have HR := hide hr
  have HL := hide hl
  have HX := hide hx
  have HMO := hide MO
  have SI := (sizeH_in ts)
  obtain ⟨s, hs⟩ : ∃ s, sizeH ts = s := ⟨_, rfl⟩
  have HS := hide hs
  rw [hs] at CS SI
  obtain ⟨HF, hHF⟩ : ∃ q, l / 2 = q := ⟨_, rfl⟩
  have HH := hide (show halfL ts = HF by unfold halfL; rw [hl, hHF])
  clear hr hx hl MO hs
  go_enter Tryz.func65, Tryz.ntmps65
  go_upto_region 1 with fail
  go_cut [5] (fun t wx => t = .pointer (some ⟨w.heap.size + 1, 0, none⟩) ∧ wx = ((w.alloc (.cells zs 127)).alloc (.cells #[.int .i64 (n : Int), .slice (some ⟨w.heap.size, 0, none⟩) n n, .int .i64 (l : Int), .int .i64 s] 97)).drew)
  case first =>
    go_region_with (go_at_call 95; (with_reducible refine (CS _ (HR.out.below (by repeat (first | exact Below.refl _ _ | (with_reducible refine bt ?_ (by assumption)) | with_reducible refine bd ?_ | with_reducible refine ba ?_ _)))).mono ?_); rintro e w4 ⟨rfl, rfl⟩)
    all_goals (go_wp2_with fail; go_meet)
    all_goals exact ⟨rfl, rfl⟩
  case rest =>
    obtain ⟨rfl, hcut⟩ := hcut
    have F0 := Fill.start (g := w.heap.size + 1) ((HMO.out w w.heap.size (Nat.le_refl _)).alloc (.cells #[.int .i64 (n : Int), .slice (some ⟨w.heap.size, 0, none⟩) n n, .int .i64 (l : Int), .int .i64 s] 97)) (by omega)
    have F1 := hide (show Fill wc (w.heap.size + 1) w.heap.size n [] by rw [hcut]; exact F0.below (bd (Below.refl _ _)))
    have BA := hide (show Below w.heap.size w wc by rw [hcut]; exact bd (ba (ba (Below.refl _ _) _) _))
    have c0 : wc.cell? ⟨w.heap.size + 1, 0, none⟩ = some (.int .i64 (n : Int)) := by rw [hcut]; simp
    have c1 : wc.cell? ⟨w.heap.size + 1, 1, none⟩ = some (.slice (some ⟨w.heap.size, 0, none⟩) n n) := by rw [hcut]; simp
    have c2 : wc.cell? ⟨w.heap.size + 1, 2, none⟩ = some (.int .i64 (l : Int)) := by rw [hcut]; simp
    have c3 : wc.cell? ⟨w.heap.size + 1, 3, none⟩ = some (.int .i64 s) := by rw [hcut]; simp
    clear F0 hcut MK HMO CS
    obtain ⟨h, hh⟩ : ∃ h, w.heap.size = h := ⟨_, rfl⟩
    rw [hh] at F1 c0 c1 c2 c3 blt
    simp only [hh]
    obtain ⟨g, hg⟩ : ∃ g, h + 1 = g := ⟨_, rfl⟩
    rw [hg] at F1 c0 c1 c2 c3
    simp only [hg]
    have hgB : w.heap.size ≤ g := by omega
    have hhB : w.heap.size ≤ h := by omega
    have hne : h ≠ g := by omega
    have hne2 : g ≠ h := by omega
    have hbg : b ≠ g := by omega
    have hbh : b ≠ h := by omega
    have hhalf : (l : Int) / 2 = (HF : Int) := by omega
    have h0 : (HF : Int) ≤ 524288 := by omega
    have h1 : 0 ≤ (HF : Int) := by omega
    have HHH := hide hh
    clear hh hg hHF blt
    go_wp2
    clear hhalf
    go_loopw [25] (fun i wr => ∃ k : Nat, k ≤ n ∧ i = .int .i64 (k : Int) ∧ Hid (Fill wr g h n (aroundTo ts k)) ∧ wr.cell? ⟨g, 0, none⟩ = some (.int .i64 (n : Int)) ∧ wr.cell? ⟨g, 1, none⟩ = some (.slice (some ⟨h, 0, none⟩) n n) ∧ wr.cell? ⟨g, 2, none⟩ = some (.int .i64 (l : Int)) ∧ wr.cell? ⟨g, 3, none⟩ = some (.int .i64 s) ∧ Below w.heap.size w wr) (fun i _ => n - (intOf i).toNat)
    case atStart => exact ⟨0, by omega, rfl, F1, c0, c1, c2, c3, BA.out⟩
    case round =>
      clear F1 BA c0 c1 c2 c3
      obtain ⟨k, hkn, rfl, HF1, c0, c1, c2, c3, hb⟩ := hrel
      have HB := hide hb
      clear hb
      by_cases hkl : k < n
      · obtain ⟨⟨v0, r0⟩, y0, ⟨v1, r1⟩, y1⟩ := HF1.out.room hkl
        have F4 := HF1.out.more (aroundTo_len ts k) hkl ((k : Int) - (HF : Int)) ts HL.out hbg hbh (HR.out.below HB.out) (cap := cap)
        have es := aroundTo_snoc ts k
        rw [HH.out] at es
        rw [← es] at F4
        have B4 := bs (bs HB.out hhB (b := h) (o := k * 2) (.int .i64 ((k : Int) - (HF : Int)))) hhB (b := h) (o := k * 2 + 1) (.slice (some ⟨b, 0, none⟩) l cap)
        have E : ∀ j, ((wr.setCell ⟨h, k * 2, none⟩ (.int .i64 ((k : Int) - (HF : Int)))).setCell ⟨h, k * 2 + 1, none⟩ (.slice (some ⟨b, 0, none⟩) l cap)).cell? ⟨g, j, none⟩ = wr.cell? ⟨g, j, none⟩ := fun j => (set_apart (Or.inl hne)).trans (set_apart (Or.inl hne))
        have H4 := hide (And.intro F4 (And.intro ((E 0).trans c0) (And.intro ((E 1).trans c1) (And.intro ((E 2).trans c2) (And.intro ((E 3).trans c3) B4)))))
        clear F4 es B4 E HF1 c0 c2 c3
        go_wp2
        go_roundw
        case rel =>
          obtain ⟨F4, q0, q1, q2, q3, B4⟩ := H4.out
          exact ⟨k + 1, by omega, by go_num, F4, q0, q1, q2, q3, B4⟩
        case measure => simp [intOf]; omega
      · obtain rfl : k = n := by omega
        obtain ⟨em, es⟩ := around_most ts (k := k) n0
        rw [HL.out] at em
        rw [HS.out] at es
        have hT := hide (show TabM wr (.pointer (some ⟨g, 0, none⟩)) k (aroundTo ts k) from ⟨g, h, k, rfl, c0, by rw [aroundTo_len]; exact c1, by rw [em]; exact c2, by rw [es]; exact c3, HF1.out.heads⟩)
        clear em es HF1 c0 c1 c2 c3 hkl hkn
        go_wp2
        go_ret
        exact ⟨_, rfl, hT.out, HB.out⟩
theorem lit1 (w : World) (a : Int) (t : TypeId) : RowAt .i64 (w.alloc (.cells #[.int .i64 a] t)) (some ⟨w.heap.size, 0, none⟩) [a] := by
  refine Or.inr ⟨w.heap.size, 0, rfl, fun j hj => ?_⟩
  match j, hj with
  | 0, _ => simp
theorem same_c : SameC Tab := by
  intro n w n0 n1
  have S1 := tside_yes n (by omega) (by omega)
  have CA := fun b cap w hr => around_any [16384] 1 rfl (by omega) (by omega) (by intro j hj; match j, hj with | 0, _ => exact ⟨by show _ ≤ (16384 : Int); omega, by show (16384 : Int) ≤ _; omega⟩) n n0 n1 b cap w hr
  rw [← around_same] at CA
  have CT : ∀ (w' : World) (v : Value), TabM w' v n (sameTo n) → Tab w' v n (sameTo n) := fun w' v h => h.tab (same_ok n1) (same_moves n) (by rw [sameTo_len]; exact n0) (by rw [sameTo_len]; exact n1) (by omega) (by omega)
  have HT := hide CT
  clear CT
  generalize sameTo n = L at *
  go_enter Tryz.func31, Tryz.ntmps31
  go_wp2_with (first
    | (go_at_call 64; (with_reducible refine (S1 _).mono ?_); rintro e w1 ⟨rfl, rfl⟩)
    | (go_at_call 65; (with_reducible refine (CA _ _ _ (lit1 _ _ _)).mono ?_); rintro e w2 ⟨v, rfl, hm, b2⟩))
  go_ret
  exact ⟨_, rfl, HT.out _ _ hm, bt (ba (Below.refl _ _) _) b2⟩
end Go.Proofs.YtaafhjngnjjcmaaGreatDoor

/- The program's table: a filter. -/
namespace Go.Proofs.YtaafhjngnjjcmaaGreatDoor
open Go.RowKit


theorem filter_six (xs : List Int) (ad : Option Addr) (cap : Nat) (n : Int) (h : sideB n = false) (w : World) :
    Calls Tryz.prog 100 #[.slice ad xs.length cap, .int .i64 n] w fun e w' => e = .returned (.tuple #[.pointer none, .int .i64 6]) ∧ w = w' := by
  have S1 := tside_no n (by
    have q := fun g => Bool.false_ne_true (h.symm.trans ((sideB_iff n).2 g))
    by_cases q1 : n < 1
    · exact Or.inl q1
    · refine Or.inr ?_
      by_cases q2 : 65536 < n
      · exact q2
      · exact absurd ⟨by omega, by omega⟩ q)
  clear h
  generalize xs.length = l at *
  go_enter Tryz.func100, Tryz.ntmps100
  go_wp2_with (go_at_call 64; (with_reducible refine (S1 _).mono ?_); rintro e w1 ⟨rfl, rfl⟩)
  exact bodyPost_ret (v := .tuple #[.pointer none, .int .i64 6]) (by simp [results, Tryz.results100, go_sem]) rfl ⟨rfl, rfl⟩
theorem filter_seven (l : Nat) (ad : Option Addr) (cap : Nat) (n : Int) (n0 : 1 ≤ n) (n1 : n ≤ 65536) (h2 : l % 2 = 0) (hl : l ≤ 9223372036854775807) (w : World) :
    Calls Tryz.prog 100 #[.slice ad l cap, .int .i64 n] w fun e w' => e = .returned (.tuple #[.pointer none, .int .i64 7]) ∧ w = w' := by
  have S1 := tside_yes n n0 n1
  have h3 : (l : Int) % 2 = 0 := by omega
  go_enter Tryz.func100, Tryz.ntmps100
  go_wp2_with (go_at_call 64; (with_reducible refine (S1 _).mono ?_); rintro e w1 ⟨rfl, rfl⟩)
  exact bodyPost_ret (v := .tuple #[.pointer none, .int .i64 7]) (by simp [results, Tryz.results100, go_sem]) rfl ⟨rfl, rfl⟩
theorem filter_code (xs : List Int) (l : Nat) (hn : xs.length = l) (ad : Option Addr) (cap : Nat) (n : Int) (n0 : 1 ≤ n) (n1 : n ≤ 65536) (h2 : l % 2 = 1) (hl : l ≤ 9223372036854775807) (cd : Int) (hc : appCode xs = cd) (hz : cd ≠ 0) (w : World) (hr : RowAt .i64 w ad xs) (hx : All64 xs) :
    Calls Tryz.prog 100 #[.slice ad l cap, .int .i64 n] w fun e w' => e = .returned (.tuple #[.pointer none, .int .i64 cd]) ∧ Below w.heap.size w w' := by
  have S1 := tside_yes n n0 n1
  have CA := papp_own_n l xs hn ad cap w hr hx hl
  rw [hc] at CA
  have h3 : (l : Int) % 2 = 1 := by omega
  have hzb : (cd != 0) = true := by simpa using hz
  clear hr hx hc hn
  go_enter Tryz.func100, Tryz.ntmps100
  go_wp2_with (first
    | (go_at_call 64; (with_reducible refine (S1 _).mono ?_); rintro e w1 ⟨rfl, rfl⟩)
    | (go_at_call 117; (with_reducible refine CA.mono ?_); rintro e w2 ⟨v, rfl, _, b2⟩))
  exact bodyPost_ret (v := .tuple #[.pointer none, .int .i64 cd]) (by simp [results, Tryz.results100, go_sem]) rfl ⟨rfl, b2⟩
theorem filter_ok (xs : List Int) (l : Nat) (hn : xs.length = l) (ad : Option Addr) (cap : Nat) (n : Nat) (n0 : 1 ≤ n) (n1 : n ≤ 65536) (h2 : l % 2 = 1) (hc : appCode xs = 0) (w : World) (hr : RowAt .i64 w ad xs) (hx : All64 xs) :
    Calls Tryz.prog 100 #[.slice ad l cap, .int .i64 (n : Int)] w fun e w' => ∃ v, e = .returned (.tuple #[v, .int .i64 0]) ∧ Tab w' v n (filTo xs n) ∧ Below w.heap.size w w' := by
  have hf := appCode_fits.1 hc
  have l1 : l ≤ 1048576 := by
    obtain ⟨_, h1, _⟩ := hf
    omega
  have l0 : 1 ≤ l := by omega
  have S1 := tside_yes n (by omega) (by omega)
  have CA := papp_own_n l xs hn ad cap w hr hx (by omega)
  rw [hc] at CA
  have CR := fun b cap w hr => around_any (appR xs) l (by rw [appR_length]; exact hn) l0 l1 (appR_64 hf) n n0 n1 b cap w hr
  rw [← around_fil] at CR
  have CT : ∀ (w' : World) (v : Value), TabM w' v n (filTo xs n) → Tab w' v n (filTo xs n) := fun w' v h => h.tab (fil_ok hf n1) (fil_moves xs n) (by rw [filTo_len]; exact n0) (by rw [filTo_len]; exact n1) (by omega) (by omega)
  have HT := hide CT
  have h3 : (l : Int) % 2 = 1 := by omega
  have HA := hide (show (appR xs).length = l by rw [appR_length]; exact hn)
  clear CT hr hx hc hn hf
  generalize filTo xs n = L at *
  go_enter Tryz.func100, Tryz.ntmps100
  go_wp2_with (first
    | (go_at_call 64; (with_reducible refine (S1 _).mono ?_); rintro e w1 ⟨rfl, rfl⟩)
    | (go_at_call 117; (with_reducible refine CA.mono ?_); rintro e w2 ⟨v, rfl, ho, b2⟩; obtain ⟨b, cap2, rfl, _, hrt⟩ := own_some (ho (by trivial)) HA.out l0; clear ho)
    | (go_at_call 65; (with_reducible refine (CR _ _ _ hrt).mono ?_); rintro e w3 ⟨v, rfl, hm, b3⟩))
  exact bodyPost_ret (v := .tuple #[v, .int .i64 0]) (by simp [results, Tryz.results100, go_sem]) rfl ⟨_, rfl, HT.out _ _ hm, bt b2 b3⟩
theorem filter_c : FilterC Kinds Tab := by
  intro xs ad cap n w _ hr hx hl n0 n1
  cases hB : sideB n with
  | false =>
    have e : filCode xs n = 6 := by unfold filCode; rw [hB]; rfl
    rw [e]
    refine (filter_six xs ad cap n hB w).mono ?_
    rintro e w1 ⟨rfl, rfl⟩
    exact ⟨_, rfl, (fun g => absurd g (by decide)), (fun _ => rfl), Below.refl _ _⟩
  | true =>
    obtain ⟨a0, a1⟩ := (sideB_iff n).1 hB
    by_cases h2 : xs.length % 2 = 0
    · have e : filCode xs n = 7 := by unfold filCode; rw [hB, if_pos rfl, if_pos h2]
      rw [e]
      refine (filter_seven xs.length ad cap n a0 a1 h2 hl w).mono ?_
      rintro e w1 ⟨rfl, rfl⟩
      exact ⟨_, rfl, (fun g => absurd g (by decide)), (fun _ => rfl), Below.refl _ _⟩
    · have e : filCode xs n = appCode xs := by unfold filCode; rw [hB, if_pos rfl, if_neg h2]
      rw [e]
      by_cases hz : appCode xs = 0
      · obtain ⟨k, rfl⟩ : ∃ k : Nat, n = (k : Int) := ⟨n.toNat, by omega⟩
        rw [hz, Int.toNat_natCast]
        refine (filter_ok xs xs.length rfl ad cap k (by omega) (by omega) (by omega) hz w hr hx).mono ?_
        rintro e w1 ⟨v, rfl, hT, b⟩
        exact ⟨v, rfl, (fun _ => hT), (fun g => absurd rfl g), b⟩
      · have HZ := hide hz
        refine (filter_code xs xs.length rfl ad cap n a0 a1 (by omega) hl (appCode xs) rfl hz w hr hx).mono ?_
        rintro e w1 ⟨rfl, b⟩
        exact ⟨_, rfl, (fun g => absurd g HZ.out), (fun _ => rfl), b⟩
end Go.Proofs.YtaafhjngnjjcmaaGreatDoor

/- Operations: the tables' example once more (without what only some seats have); the document's sizes of a side, and sizes that an operation leads to. -/
namespace Go.Proofs.YtaafhjngnjjcmaaGreatDoor
open Go.RowKit


set_option maxRecDepth 100000 in
theorem lives8 : LiveC Kinds 72 := by
  intro w hk
  have C5 : ∀ w : World, Kinds w → Calls Tryz.prog 101 #[] w fun e w' => e = .returned (.bool true) ∧ Below w.heap.size w w' := fun w hk => rlives row_yes keysC w hk
  have C6 : ∀ w : World, Kinds w → Calls Tryz.prog 102 #[] w fun e w' => e = .returned (.bool true) ∧ Below w.heap.size w w' := fun w hk => tlives (K := Kinds) (fun _ _ h b => kinds_below h b) (fun xs ad cap w _ hr hx hl => apportion_any xs ad cap w hr hx hl) (fun s w _ _ _ => gaussian_any s w) w hk
  obtain ⟨e1, e2, e3⟩ := res_ex
  have CR1 := fun w hk => resize_c 0 4 2 (by omega) (by omega) (by omega) (by omega) (by omega) (by omega) w hk
  rw [e1, show (2 : Int).toNat = 2 from rfl, e2] at CR1
  have CK : ∀ w' : World, Below w.heap.size w w' → Kinds w' := fun w' b => kinds_below hk b
  have L1 : ∀ {w : World} {v : Value} {n : Int}, Tab w v n [(0, [8192, 8192]), (2, [8192, 8192])] → Calls Tryz.prog 80 #[v, .int .i64 1] w fun e w' => ∃ u, e = .returned (.agg #[.int .i64 2, u]) ∧ OwnI .i64 2 w' w.heap.size u [8192, 8192] ∧ Below w.heap.size w w' := fun h => tab_line h 1 (by decide)
  have L0 : ∀ {w : World} {v : Value} {n : Int}, Tab w v n [(0, [8192, 8192]), (2, [8192, 8192])] → Calls Tryz.prog 80 #[v, .int .i64 0] w fun e w' => ∃ u, e = .returned (.agg #[.int .i64 0, u]) ∧ OwnI .i64 2 w' w.heap.size u [8192, 8192] ∧ Below w.heap.size w w' := fun h => tab_line h 0 (by decide)
  have LR : ∀ {w : World} {v : Value} {n : Int}, Tab w v n [(0, [8192, 8192]), (2, [8192, 8192])] → Calls Tryz.prog 78 #[v, .int .i64 0, .int .i64 2] w fun e w' => e = .returned (.tuple #[.int .i64 0, .int .i64 4]) ∧ Below w.heap.size w w' := by
    intro w v n h
    have := tab_reach h 0 2 (by omega) (by omega) (by omega) (by omega)
    rw [e3] at this
    exact this
  clear e1 e2 e3 hk
  go_enter Tryz.func72, Tryz.ntmps72
  go_wp2_with (first
    | (go_at_call 101; (with_reducible refine (C5 _ (CK _ (by repeat (first | exact Below.refl _ _ | exact HB.out | (with_reducible refine bt ?_ (by assumption)) | with_reducible refine bd ?_ | with_reducible refine ba ?_ _)))).mono ?_); rintro e w1 ⟨rfl, b1⟩)
    | (go_at_call 102; (with_reducible refine (C6 _ (CK _ (by repeat (first | exact Below.refl _ _ | exact HB.out | (with_reducible refine bt ?_ (by assumption)) | with_reducible refine bd ?_ | with_reducible refine ba ?_ _)))).mono ?_); rintro e w2 ⟨rfl, b2⟩)
    | (go_at_call 98; (with_reducible refine (CR1 _ (CK _ (by repeat (first | exact Below.refl _ _ | exact HB.out | (with_reducible refine bt ?_ (by assumption)) | with_reducible refine bd ?_ | with_reducible refine ba ?_ _)))).mono ?_); rintro e w3 ⟨v, rfl, hT, _, b3⟩; have HT := hide (hT (by trivial)); clear hT; obtain ⟨a, rfl⟩ := Tab.ptr HT.out)
    | (go_at_call 80; (with_reducible refine (L1 HT.out).mono ?_); rintro e w4 ⟨u, rfl, ou, b4⟩; obtain ⟨ad, cap, rfl, ra, _⟩ := ou.formn (show [(8192 : Int), 8192].length = 2 from rfl))
    | (go_at_call 78; (with_reducible refine (LR (Tab.below HT.out (by repeat (first | exact Below.refl _ _ | exact HB.out | (with_reducible refine bt ?_ (by assumption)) | with_reducible refine bd ?_ | with_reducible refine ba ?_ _)))).mono ?_); rintro e w5 ⟨rfl, b5⟩; have q0 := cb b5 (b := w4.heap.size) (o := 0) (v := .int .i64 2) (by simp) (by simp); have q1 := cb b5 (b := w4.heap.size) (o := 1) (v := .slice ad 2 cap) (by simp) (by simp); have z5 : w4.heap.size < w5.heap.size := (by have := b5.size; simp at this; omega))
    | (go_at_call 80; (with_reducible refine (L0 (Tab.below HT.out (by repeat (first | exact Below.refl _ _ | exact HB.out | (with_reducible refine bt ?_ (by assumption)) | with_reducible refine bd ?_ | with_reducible refine ba ?_ _)))).mono ?_); rintro e w6 ⟨u6, rfl, ou6, b6⟩; obtain ⟨ad6, cap6, rfl, _, _⟩ := ou6.formn (show [(8192 : Int), 8192].length = 2 from rfl); have F0 := field_first 0 ad6 2 cap6; have y0 := cb b6 z5 q0; have y1 := cb b6 z5 q1)
    | (go_at_call 103; (with_reducible refine (same_n 2 [8192, 8192] rfl _ _ _ _ _ (ra.below (by repeat (first | exact Below.refl _ _ | exact HB.out | (with_reducible refine bt ?_ (by assumption)) | with_reducible refine bd ?_ | with_reducible refine ba ?_ _))) (lit2 _ _ _ _) (by omega)).mono ?_); rintro e w7 ⟨rfl, b7⟩))
  go_ret
  refine ⟨rfl, ?_⟩
  exact (by repeat (first | exact Below.refl _ _ | exact HB.out | (with_reducible refine bt ?_ (by assumption)) | with_reducible refine bd ?_ | with_reducible refine ba ?_ _))
theorem dside12_yes (n : Int) (h0 : 1 ≤ n) (h1 : n ≤ 65536) (w : World) :
    Calls Tryz.prog 105 #[.int .i64 n] w fun e w' => e = .returned (.bool true) ∧ w = w' := by
  go_enter Tryz.func105, Tryz.ntmps105
  go_wp2
  go_ret
  first | exact ⟨rfl, rfl⟩ | exact ⟨ret_bool (decide_eq_true (by omega)), rfl⟩
theorem dside12_no (n : Int) (h : n < 1 ∨ 65536 < n) (w : World) :
    Calls Tryz.prog 105 #[.int .i64 n] w fun e w' => e = .returned (.bool false) ∧ w = w' := by
  rcases h with h | h
  all_goals
    go_enter Tryz.func105, Tryz.ntmps105
    go_wp2
    go_ret
    first | exact ⟨rfl, rfl⟩ | exact ⟨ret_bool (decide_eq_false (by omega)), rfl⟩
/-- The document's sizes that an operation leads to. -/
theorem dsize12_any (o : Opr) (ax : Option Addr) (cx : Nat) (ay : Option Addr) (cy : Nat) (a b : Int) (w : World) :
    Calls Tryz.prog 76 #[opV o ax cx ay cy, .int .i64 a, .int .i64 b] w fun e w' => e = .returned (.tuple #[.int .i64 (toW o a), .int .i64 (toH o b)]) ∧ Below w.heap.size w w' := by
  unfold opV toW toH
  obtain ⟨kd, bd, sg, rd, xs, ys, fl, wd, ht⟩ := o
  simp only
  generalize xs.length = nx at *
  generalize ys.length = ny at *
  by_cases h : kd = 3
  · rw [if_pos h, if_pos h]
    subst h
    go_enter Tryz.func76, Tryz.ntmps76
    go_wp2
    go_quiet (fail)
    go_wp2
    exact bodyPost_ret (v := .tuple #[.int .i64 wd, .int .i64 ht]) (by simp [results, Tryz.results76, go_sem]) rfl ⟨rfl, by repeat (first | exact Below.refl _ _ | with_reducible refine bdN ?_ _ | with_reducible refine bd ?_ | with_reducible refine ba ?_ _)⟩
  · rw [if_neg h, if_neg h]
    have hq : (kd == 3) = false := by simpa using h
    clear h
    go_enter Tryz.func76, Tryz.ntmps76
    go_wp2
    exact bodyPost_ret (v := .tuple #[.int .i64 a, .int .i64 b]) (by simp [results, Tryz.results76, go_sem]) rfl ⟨rfl, by repeat (first | exact Below.refl _ _ | with_reducible refine bd ?_ | with_reducible refine ba ?_ _)⟩
end Go.Proofs.YtaafhjngnjjcmaaGreatDoor

/- Operations: what the laws make of them: as the document has them; little ones. -/
namespace Go.Proofs.YtaafhjngnjjcmaaGreatDoor
open Go.RowKit


/-- One operation, as the document has it: the same cells. -/
theorem ref12_any (o : Opr) (ax : Option Addr) (cx : Nat) (ay : Option Addr) (cy : Nat) (w : World) :
    Calls Tryz.prog 77 #[opV o ax cx ay cy] w fun e w' => e = .returned (opV o ax cx ay cy) ∧ Below w.heap.size w w' := by
  unfold opV
  obtain ⟨kd, bd, sg, rd, xs, ys, fl, wd, ht⟩ := o
  simp only
  generalize xs.length = nx at *
  generalize ys.length = ny at *
  go_enter Tryz.func77, Tryz.ntmps77
  go_wp2
  exact bodyPost_ret (v := .agg #[.int .i64 kd, .int .i64 bd, .int .i64 sg, .int .i64 rd, .slice ax nx cx, .slice ay ny cy, .int .i64 fl, .int .i64 wd, .int .i64 ht]) (by simp [results, Tryz.results77, go_sem]) rfl ⟨rfl, ba (below1 _ _) _⟩
/-- What the laws don't play. -/
def BigO (s : Int) (o : Opr) : Prop := 40 < o.xs.length ∨ 40 < o.ys.length ∨ (262144 < o.sg ∧ o.sg ≤ 4194304) ∨ (20 < o.rd ∧ o.rd < 512) ∨ (s < o.wd ∧ o.wd ≤ 65536) ∨ (s < o.ht ∧ o.ht ≤ 65536)
def bigB (s : Int) (L : List Opr) : Nat → Bool
  | 0 => false
  | k + 1 => bigB s L k || (decide (40 < (opAt L k).xs.length) || decide (40 < (opAt L k).ys.length) || decide (262144 < (opAt L k).sg ∧ (opAt L k).sg ≤ 4194304) || decide (20 < (opAt L k).rd ∧ (opAt L k).rd < 512) || decide (s < (opAt L k).wd ∧ (opAt L k).wd ≤ 65536) || decide (s < (opAt L k).ht ∧ (opAt L k).ht ≤ 65536))
theorem bigB_step (s : Int) (L : List Opr) (k : Nat) : bigB s L (k + 1) = true ↔ bigB s L k = true ∨ BigO s (opAt L k) := by
  show (bigB s L k || _) = true ↔ _
  unfold BigO
  simp only [Bool.or_eq_true, decide_eq_true_eq, or_assoc]
theorem bigB_stays {s : Int} {L : List Opr} {k : Nat} (h : bigB s L k = true) {n : Nat} (hk : k ≤ n) : bigB s L n = true := by
  induction n with
  | zero => rw [← Nat.le_zero.1 hk]; exact h
  | succ n ih =>
    rcases Nat.lt_or_ge n k with q | q
    · rw [show n + 1 = k by omega]; exact h
    · exact (bigB_step s L n).2 (.inl (ih q))
theorem bigB_no {s : Int} {L : List Opr} {n : Nat} (h : bigB s L n = false) {k : Nat} (hk : k < n) : ¬ BigO s (opAt L k) := by
  intro q
  have := bigB_stays ((bigB_step s L k).2 (.inr q)) hk
  rw [h] at this
  cases this
theorem infoOpR : (Tryz.prog.info? 119).map (fun i => (i.zero, i.size, i.bytes)) = some (some (.agg #[.int .i64 0, .int .i64 0, .int .i64 0, .int .i64 0, .slice none 0 0, .slice none 0 0, .int .i64 0, .int .i64 0, .int .i64 0]), 9, 104) := by kernel_rfl
/-- The cells of an operation. -/
def opCells (o : Opr) (ax : Option Addr) (cx : Nat) (ay : Option Addr) (cy : Nat) : List Value :=
  [.int .i64 o.kd, .int .i64 o.bd, .int .i64 o.sg, .int .i64 o.rd, .slice ax o.xs.length cx, .slice ay o.ys.length cy, .int .i64 o.fl, .int .i64 o.wd, .int .i64 o.ht]
theorem opCells_one (o : Opr) (ax : Option Addr) (cx : Nat) (ay : Option Addr) (cy : Nat) : ∀ u ∈ opCells o ax cx ay cy, u.oneCell' = true := by
  intro u hu
  unfold opCells at hu
  simp only [List.mem_cons, List.not_mem_nil, or_false] at hu
  rcases hu with rfl | rfl | rfl | rfl | rfl | rfl | rfl | rfl | rfl <;> rfl
/-- Operations so far, in a row of the call's own. -/
def RefsSo (T : TypeId) (B : Nat) (w0 w : World) (L : List Opr) (k : Nat) (v : Value) : Prop :=
  ∃ us, us.length = k ∧ OwnRec T 9 w B v us ∧ ∀ j, j < k → ∃ ax cx ay cy, us.getD j [] = opCells (opAt L j) ax cx ay cy ∧ OpAt w0 (opAt L j) ax cx ay cy
theorem RefsSo.ops {T : TypeId} {B : Nat} {w0 w : World} {L : List Opr} {k : Nat} {v : Value} (h : RefsSo T B w0 w L k v) (hk : L.length = k) (hb : Below w0.heap.size w0 w) : ∃ ad cap, v = .slice ad k cap ∧ OpsAt w ad L ∧ (ad = none → cap = 0) := by
  obtain ⟨us, hu, ho, hc⟩ := h
  by_cases e : us = []
  · subst e
    obtain ⟨ad, cap, rfl, _, z⟩ := ho.form rfl
    have hk0 : k = 0 := by simpa using hu.symm
    subst hk0
    exact ⟨ad, cap, rfl, .inl (List.eq_nil_of_length_eq_zero hk), z⟩
  · obtain ⟨g, cap, rfl, _, _, _, hr⟩ := ho.read e
    rw [hu]
    refine ⟨_, cap, rfl, .inr ⟨g, 0, rfl, fun j hj => ?_⟩, fun e => by cases e⟩
    obtain ⟨ax, cx, ay, cy, hcell, ha⟩ := hc j (by omega)
    have R := hr j (by omega)
    unfold recAt at R
    rw [hcell] at R
    rw [Nat.zero_add]
    exact ⟨R 0 (by decide), R 1 (by decide), R 2 (by decide), R 3 (by decide), R 6 (by decide), R 7 (by decide), R 8 (by decide), ax, cx, ay, cy, R 4 (by decide), R 5 (by decide), ha.below hb⟩
theorem RefsSo.more {T : TypeId} {B : Nat} {w0 w2 : World} {L : List Opr} {k : Nat} {us : List (List Value)} {v' : Value} {ax ay : Option Addr} {cx cy : Nat} (hu : us.length = k) (h9 : ∀ x ∈ us, x.length = 9)
    (hc : ∀ j, j < k → ∃ ax cx ay cy, us.getD j [] = opCells (opAt L j) ax cx ay cy ∧ OpAt w0 (opAt L j) ax cx ay cy) (ha : OpAt w0 (opAt L k) ax cx ay cy) (own : w2.ownsRow B T 9 v' (k + 1) (us.flatten ++ opCells (opAt L k) ax cx ay cy)) : RefsSo T B w0 w2 L (k + 1) v' := by
  refine ⟨us ++ [opCells (opAt L k) ax cx ay cy], by rw [List.length_append, hu]; rfl, OwnRec.more h9 rfl (by rw [hu]) own, fun j hj => ?_⟩
  by_cases e : j = k
  · subst e
    refine ⟨ax, cx, ay, cy, ?_, ha⟩
    rw [← hu, List.getD_eq_getElem?_getD, List.getElem?_append_right (Nat.le_refl _), Nat.sub_self]
    rfl
  · obtain ⟨a, b, c, d, h1, h2⟩ := hc j (by omega)
    refine ⟨a, b, c, d, ?_, h2⟩
    rw [List.getD_eq_getElem?_getD, List.getElem?_append_left (by omega), ← List.getD_eq_getElem?_getD]
    exact h1
set_option maxHeartbeats 4000000 in
set_option maxRecDepth 100000 in
theorem refs12_any (L : List Opr) (n : Nat) (hn : L.length = n) (h1 : n ≤ 1000) (ad : Option Addr) (cap : Nat) (w : World) (hr : OpsAt w ad L) :
    Calls Tryz.prog 42 #[.slice ad n cap] w fun e w' => ∃ ad' cap', e = .returned (.slice ad' n cap') ∧ OpsAt w' ad' L ∧ (ad' = none → cap' = 0) ∧ Below w.heap.size w w' := by
  have HR := hide hr
  have HN := hide hn
  obtain ⟨i0, hi, hz0, hz1, hz2⟩ := info_parts infoOpR
  clear hr hn
  go_enter Tryz.func42, Tryz.ntmps42
  go_wp2
  go_loopw [3, 8] (fun v i wr => ∃ k : Nat, k ≤ n ∧ i = .int .i64 (k : Int) ∧ RefsSo 119 w.heap.size w wr L k v ∧ Below w.heap.size w wr) (fun _ i _ => n - (intOf i).toNat)
  case atStart => exact ⟨0, by omega, rfl, ⟨[], rfl, OwnRec.nil _ _ _ _, fun j hj => absurd hj (Nat.not_lt_zero _)⟩, Below.refl _ _⟩
  case round =>
    obtain ⟨k, hk, rfl, hs, hb⟩ := hrel
    have HB := hide hb
    have HS := hide hs
    by_cases hlt : k < n
    · obtain ⟨us, hu, ⟨ho, h9⟩, hc⟩ := hs
      have HO := hide ho
      have HMO := hide (fun (w2 : World) (v' : Value) (ax ay : Option Addr) (cx cy : Nat) (ha : OpAt w (opAt L k) ax cx ay cy) (own : w2.ownsRow w.heap.size 119 9 v' (k + 1) (us.flatten ++ opCells (opAt L k) ax cx ay cy)) => RefsSo.more hu h9 hc ha own)
      have HU := hide hu
      obtain ⟨b, off, rfl, h⟩ := HR.out.get (show k < L.length by rw [HN.out]; exact hlt)
      obtain ⟨g0, g1, g2, g3, g6, g7, g8, ax, cx, ay, cy, g4, g5, ga⟩ := h
      have h0 := cb hb (cell_ltL g0) g0
      have h1 := cb hb (cell_ltL g0) g1
      have h2 := cb hb (cell_ltL g0) g2
      have h3 := cb hb (cell_ltL g0) g3
      have h4 := cb hb (cell_ltL g0) g4
      have h5 := cb hb (cell_ltL g0) g5
      have h6 := cb hb (cell_ltL g0) g6
      have h7 := cb hb (cell_ltL g0) g7
      have h8 := cb hb (cell_ltL g0) g8
      have HGA := hide ga
      have CR := fun w' => ref12_any (opAt L k) ax cx ay cy w'
      unfold opV at CR
      have ONE := opCells_one (opAt L k) ax cx ay cy
      have s0 := hb.size
      clear ho h9 hc hu hb g0 g1 g2 g3 g4 g5 g6 g7 g8 ga HS
      unfold opCells at HMO ONE
      have HONE := hide ONE
      clear ONE
      generalize (opAt L k).kd = kd at *
      generalize (opAt L k).bd = bd at *
      generalize (opAt L k).sg = sg at *
      generalize (opAt L k).rd = rd at *
      generalize (opAt L k).xs.length = nx at *
      generalize (opAt L k).ys.length = ny at *
      generalize (opAt L k).fl = fl at *
      generalize (opAt L k).wd = wd at *
      generalize (opAt L k).ht = ht at *
      go_wp2_with (first
        | (go_at_call 77; (with_reducible refine (CR _).mono ?_); rintro e w3 ⟨rfl, b3⟩; have s3 := b3.size; simp at s3)
        | (at_builtin; refine wpList_append_own _ rfl _ _ 81 rfl w.heap.size 119 i0 (.agg #[.int .i64 0, .int .i64 0, .int .i64 0, .int .i64 0, .slice none 0 0, .slice none 0 0, .int .i64 0, .int .i64 0, .int .i64 0]) 9 104 Tryz.underlying81 hi hz0 hz1 hz2 rfl (by decide) _ _ _ rfl (World.ownsRow.alloc (recs_below (recs_below HO.out (below1 _ _)) b3) _) ⟨w3.heap.size, 0, none⟩ 1 1 [.int .i64 kd, .int .i64 bd, .int .i64 sg, .int .i64 rd, .slice ax nx cx, .slice ay ny cy, .int .i64 fl, .int .i64 wd, .int .i64 ht] rfl rfl (new_list _ _ _) HONE.out (by rw [HU.out]; unfold maxLen; omega) (by rw [HU.out]; omega) (by simp; omega) ?_; intro v' w4 own4 grow4 _; rw [HU.out] at own4))
      have B4 : Below w.heap.size w w4 := (ba (bt (ba HB.out _) b3) _).grown grow4 (by simp; omega) (fun g hg => (World.ownsRow.lt HO.out g hg).1)
      have M4 := hide (HMO.out _ _ _ _ _ _ HGA.out own4)
      have HB4 := hide B4
      clear own4 grow4 B4
      go_wp2
      go_roundw
      case rel => exact ⟨k + 1, by omega, by go_num, M4.out, HB4.out⟩
      case measure => simp [intOf]; omega
    · obtain rfl : k = n := by omega
      obtain ⟨ad', cap', rfl, ho, hz⟩ := hs.ops HN.out hb
      have HA := hide (And.intro ho (And.intro hz hb))
      clear hs hb ho hz HS
      go_wp2
      go_ret
      exact ⟨_, _, rfl, HA.out.1, HA.out.2.1, HA.out.2.2⟩
end Go.Proofs.YtaafhjngnjjcmaaGreatDoor
