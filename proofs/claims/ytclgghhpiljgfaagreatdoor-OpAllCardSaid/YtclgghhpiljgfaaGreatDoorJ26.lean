/- Parts, joined. -/
import Derived.Test.YtclgghhpiljgfaaGreatDoorJ25
import Derived.Test.YtclgghhpiljgfaaGreatDoorJ23
import Derived.Test.YtclgghhpiljgfaaGreatDoorProg
import Derived.Shelf.SlLaysF
import Derived.Shelf.SlSortCmp.Whole1
/- Weights that come to one: the program's kernels. -/
namespace Go.Proofs.YtclgghhpiljgfaaGreatDoor
open Go.RowKit


theorem user_bad (xs : List Int) (ad : Option Addr) (cap : Nat) (w : World) (hr : RowAt .i64 w ad xs) (hx : All64 xs) (hl : xs.length ≤ 9223372036854775807) (h : ¬ UserP xs) :
    Calls Tryz.prog 65 #[.slice ad xs.length cap] w fun e w' => e = .returned (.tuple #[.slice none 0 0, .int .i64 7]) ∧ Below w.heap.size w w' := by
  have CS := fun w hr => tsize_any xs ad cap w hr hx hl
  obtain ⟨s0, s1⟩ := sizeH_in xs
  unfold UserP at h
  have HR := hide hr
  clear hr hx
  generalize sizeH xs = s at *
  generalize xs.length = n at *
  by_cases a1 : n % 2 = 1
  · have b1 : ((n : Int) % 2 == 0) = false := beq_eq_false_iff_ne.2 (by omega)
    by_cases a2 : n ≤ 1024
    · have b3 : decide ((1024 : Int) < (n : Int)) = false := decide_eq_false (by omega)
      by_cases a3 : 1 ≤ s
      · have a4 : 1048576 < s := by omega
        have b2 : (s == 0) = false := beq_eq_false_iff_ne.2 (by omega)
        clear h a1
        go_enter Tryz.func65, Tryz.ntmps65
        go_wp2_with (go_at_call 62; (with_reducible refine (CS _ HR.out).mono ?_); rintro e w1 ⟨rfl, rfl⟩)
        exact bodyPost_ret (v := .tuple #[.slice none 0 0, .int .i64 7]) (by simp [results, Tryz.results65, go_sem]) rfl ⟨rfl, Below.refl _ _⟩
      · obtain rfl : s = 0 := by omega
        clear h a1
        go_enter Tryz.func65, Tryz.ntmps65
        go_wp2_with (go_at_call 62; (with_reducible refine (CS _ HR.out).mono ?_); rintro e w1 ⟨rfl, rfl⟩)
        exact bodyPost_ret (v := .tuple #[.slice none 0 0, .int .i64 7]) (by simp [results, Tryz.results65, go_sem]) rfl ⟨rfl, Below.refl _ _⟩
    · have b3 : (1024 : Int) < (n : Int) := by omega
      clear h a1
      go_enter Tryz.func65, Tryz.ntmps65
      go_wp2_with (go_at_call 62; (with_reducible refine (CS _ HR.out).mono ?_); rintro e w1 ⟨rfl, rfl⟩)
      exact bodyPost_ret (v := .tuple #[.slice none 0 0, .int .i64 7]) (by simp [results, Tryz.results65, go_sem]) rfl ⟨rfl, Below.refl _ _⟩
  · have b1 : ((n : Int) % 2 == 0) = true := beq_iff_eq.2 (by omega)
    clear h a1
    go_enter Tryz.func65, Tryz.ntmps65
    go_wp2_with (go_at_call 62; (with_reducible refine (CS _ HR.out).mono ?_); rintro e w1 ⟨rfl, rfl⟩)
    exact bodyPost_ret (v := .tuple #[.slice none 0 0, .int .i64 7]) (by simp [results, Tryz.results65, go_sem]) rfl ⟨rfl, Below.refl _ _⟩
set_option maxHeartbeats 4000000 in
set_option maxRecDepth 1000000 in
theorem user_ok (xs : List Int) (ad : Option Addr) (cap : Nat) (w : World) (hr : RowAt .i64 w ad xs) (hx : All64 xs) (h : UserP xs) :
    Calls Tryz.prog 65 #[.slice ad xs.length cap] w fun e w' => ∃ v, e = .returned (.tuple #[v, .int .i64 0]) ∧ OwnI .i64 2 w' w.heap.size v (userR xs) ∧ Below w.heap.size w w' := by
  obtain ⟨p0, p1, s0, s1⟩ := h
  have CS := fun w hr => tsize_any xs ad cap w hr hx (by omega)
  obtain ⟨i0, hi, hz0, hz1, hz2⟩ := info_parts infoI64Q
  have HR := hide hr
  have HX := hide hx
  have HE := hide (show userR xs = xs.map fun x => divF (x * 1073741824) (sizeH xs) from rfl)
  clear hr hx
  obtain ⟨n, hn⟩ : ∃ n, xs.length = n := ⟨_, rfl⟩
  have HN := hide hn
  rw [hn] at p0 p1 CS ⊢
  generalize sizeH xs = s at *
  generalize userR xs = us at *
  have b1 : ((n : Int) % 2 == 0) = false := beq_eq_false_iff_ne.2 (by omega)
  have b2 : (s == 0) = false := beq_eq_false_iff_ne.2 (by omega)
  have b3 : decide ((1024 : Int) < (n : Int)) = false := decide_eq_false (by omega)
  have n1 : n ≤ 1024 := p1
  clear hn p0 p1
  go_enter Tryz.func65, Tryz.ntmps65
  go_wp2_with (first
    | (go_at_call 62; (with_reducible refine (CS _ HR.out).mono ?_); rintro e w1 ⟨rfl, rfl⟩)
    | (at_make; refine wpList_make_full _ rfl _ _ 25 rfl w.heap.size 2 i0 (.int .i64 0) 1 Tryz.underlying25 hi hz0 hz1 .i64 .i64 (n : Int) (n : Int) n rfl rfl rfl rfl (by rw [hz2]; omega) (by unfold maxLen; omega) (Nat.le_refl _) ?_; intro w2 hown hgrow))
  have own0 : OwnI .i64 2 w2 w.heap.size (.slice (some ⟨w.heap.size, 0, none⟩) n n) (fillZ (fun x => divF (x * 1073741824) s) xs n 0) := by rw [fillZ_zero]; exact OwnI.made hown
  have B2 := below_made (Below.refl _ w) hgrow
  clear hown hgrow CS b1 b2 b3
  go_loopw [32] (fun i wr => ∃ j : Nat, j ≤ n ∧ i = .int .i64 (j : Int) ∧ OwnI .i64 2 wr w.heap.size (.slice (some ⟨w.heap.size, 0, none⟩) n n) (fillZ (fun x => divF (x * 1073741824) s) xs n j) ∧ Below w.heap.size w wr) (fun i _ => n - (intOf i).toNat)
  case atStart => exact ⟨0, by omega, rfl, own0, B2⟩
  case round =>
    clear own0 B2
    obtain ⟨j, hj, rfl, ho, hb⟩ := hrel
    have HO := hide ho
    have HB := hide hb
    clear ho hb
    by_cases hlt : j < n
    · obtain ⟨b, off, rfl, hc⟩ := (HR.out.below HB.out).get (show j < xs.length by rw [HN.out]; exact hlt)
      obtain ⟨x0, x1⟩ := HX.out j (by rw [HN.out]; exact hlt)
      have CM := fun w => muldiv_to (xs.getD j 0) 1073741824 s _ rfl x0 x1 (by omega) (by omega) (by omega) (by omega) w
      have HZ := hide (fillZ_set (F := fun x => divF (x * 1073741824) s) HN.out hlt)
      have HL := hide (fillZ_len (F := fun x => divF (x * 1073741824) s) (j := j) HN.out)
      generalize fillZ (fun x => divF (x * 1073741824) s) xs n j = L1 at *
      generalize xs.getD j 0 = x at *
      generalize divF (x * 1073741824) s = q at *
      go_wp2_with (go_at_call 82; (with_reducible refine (CM _).mono ?_); rintro e w3 ⟨rfl, b3⟩; have fz := (HO.out.below b3).frozenAt HL.out j; have cl := (HO.out.below b3).cellAt HL.out hlt)
      go_roundw
      case rel => exact ⟨j + 1, by omega, by go_num, by rw [← HZ.out]; exact (HO.out.below b3).stored HL.out j q, bs (bt HB.out b3) (Nat.le_refl _) _⟩
      case measure => simp [intOf]; omega
    · obtain rfl : j = n := by omega
      have O2 := HO.out
      rw [fillZ_all HN.out, ← HE.out] at O2
      have HO2 := hide O2
      clear O2 HO
      go_wp2
      exact bodyPost_ret (v := .tuple #[_, .int .i64 0]) (by simp [results, Tryz.results65, go_sem]) rfl ⟨_, rfl, HO2.out, HB.out⟩
theorem gaussian_bad (s : Int) (h : s < 1 ∨ 4194304 < s) (w : World) :
    Calls Tryz.prog 60 #[.int .i64 s] w fun e w' => e = .returned (.tuple #[.slice none 0 0, .int .i64 7]) ∧ Below w.heap.size w w' := by
  rcases h with h | h
  · go_enter Tryz.func60, Tryz.ntmps60
    go_wp2
    exact bodyPost_ret (v := .tuple #[.slice none 0 0, .int .i64 7]) (by simp [results, Tryz.results60, go_sem]) rfl ⟨rfl, Below.refl _ _⟩
  · have h2 : decide (s < 1) = false := decide_eq_false (by omega)
    go_enter Tryz.func60, Tryz.ntmps60
    go_wp2
    exact bodyPost_ret (v := .tuple #[.slice none 0 0, .int .i64 7]) (by simp [results, Tryz.results60, go_sem]) rfl ⟨rfl, Below.refl _ _⟩
/-- The radius, as the program finds it. -/
theorem rad_floor {s r : Int} (s0 : 1 ≤ s) (s1 : s ≤ 4194304) (hr : radG s = r) : floorF (-3 * s) 65536 = -r := by
  rw [floorF_of (by omega), ← hr]
  unfold floorQ radG
  rw [if_neg (by omega), holdI_in (by omega) (by omega)]
  omega
set_option maxHeartbeats 4000000 in
set_option maxRecDepth 1000000 in
theorem gaussian_ok (s : Int) (s0 : 1 ≤ s) (s1 : s ≤ 4194304) (w : World) :
    Calls Tryz.prog 60 #[.int .i64 s] w fun e w' => ∃ v, e = .returned (.tuple #[v, .int .i64 0]) ∧ OwnI .i64 2 w' w.heap.size v (gaussR s) ∧ Below w.heap.size w w' := by
  obtain ⟨i0, hi, hz0, hz1, hz2⟩ := info_parts infoI64Q
  obtain ⟨r, hr⟩ : ∃ r : Nat, radG s = (r : Int) := ⟨(radG s).toNat, by unfold radG; omega⟩
  have hf := rad_floor s0 s1 hr
  have r1 : r ≤ 192 := by unfold radG at hr; omega
  have CF := fun w => fixfloor_any (-3 * s) 65536 (by omega) (by omega) (by omega) (by omega) w
  rw [hf] at CF
  have HG := hide (show gaussR s = gaussTo r s (2 * r + 1) by unfold gaussR; rw [hr, show ((r : Int)).toNat = r by omega])
  generalize gaussR s = gs at *
  clear hr hf
  have t0 : -3 * s ≤ 0 := by omega
  have t1 : -12582912 ≤ -3 * s := by omega
  go_enter Tryz.func60, Tryz.ntmps60
  obtain ⟨n, hn⟩ : ∃ n, 2 * r + 1 = n := ⟨_, rfl⟩
  have hn' : 2 * (r : Int) + 1 = (n : Int) := by omega
  have nn : - -(r : Int) = (r : Int) := by omega
  have n1 : n ≤ 385 := by omega
  go_wp2_with (first
    | (go_at_call 86; (with_reducible refine (CF _).mono ?_); rintro e w1 ⟨rfl, rfl⟩)
    | (at_make; refine wpList_make_full _ rfl _ _ 25 rfl w.heap.size 2 i0 (.int .i64 0) 1 Tryz.underlying25 hi hz0 hz1 .i64 .i64 (n : Int) (n : Int) n rfl rfl rfl rfl (by rw [hz2]; omega) (by unfold maxLen; omega) (Nat.le_refl _) ?_; intro w2 hown hgrow))
  have own0 : OwnI .i64 2 w2 w.heap.size (.slice (some ⟨w.heap.size, 0, none⟩) n n) (padZ (gaussTo r s 0) n) := by
    rw [show gaussTo r s 0 = [] from rfl, padZ_nil]; exact OwnI.made hown
  have B2 := below_made (Below.refl _ w) hgrow
  have HNN := hide hn
  clear hown hgrow CF hn hn' nn t0 t1
  go_loopw [23] (fun i wr => ∃ j : Nat, j ≤ n ∧ i = .int .i64 (j : Int) ∧ OwnI .i64 2 wr w.heap.size (.slice (some ⟨w.heap.size, 0, none⟩) n n) (padZ (gaussTo r s j) n) ∧ Below w.heap.size w wr) (fun i _ => n - (intOf i).toNat)
  case atStart => exact ⟨0, by omega, rfl, own0, B2⟩
  case round =>
    clear own0 B2
    obtain ⟨j, hj, rfl, ho, hb⟩ := hrel
    have HO := hide ho
    have HB := hide hb
    clear ho hb
    by_cases hlt : j < n
    · have CG := fun w => gauss_any ((j : Int) - r) s (by omega) (by omega) (by omega) (by omega) w
      have HZ := hide (padZ_set (gaussTo_len r s j) hlt (gaussF ((j : Int) - r) s))
      have HS := hide (gaussTo_snoc r s j)
      have HL := hide (padZ_len (show (gaussTo r s j).length ≤ n by rw [gaussTo_len]; exact hj))
      generalize padZ (gaussTo r s j) n = L1 at *
      generalize gaussF ((j : Int) - r) s = q at *
      go_wp2_with (go_at_call 89; (with_reducible refine (CG _).mono ?_); rintro e w3 ⟨rfl, b3⟩; have fz := (HO.out.below b3).frozenAt HL.out j; have cl := (HO.out.below b3).cellAt HL.out hlt)
      go_roundw
      case rel => exact ⟨j + 1, by omega, by go_num, by rw [HS.out, ← HZ.out]; exact (HO.out.below b3).stored HL.out j q, bs (bt HB.out b3) (Nat.le_refl _) _⟩
      case measure => simp [intOf]; omega
    · obtain rfl : j = n := by omega
      have O2 := HO.out
      rw [padZ_full (gaussTo_len _ _ _)] at O2
      have EJ := HG.out
      rw [HNN.out] at EJ
      rw [← EJ] at O2
      have HO2 := hide O2
      clear O2 HO EJ
      go_wp2
      exact bodyPost_ret (v := .tuple #[_, .int .i64 0]) (by simp [results, Tryz.results60, go_sem]) rfl ⟨_, rfl, HO2.out, HB.out⟩
end Go.Proofs.YtclgghhpiljgfaaGreatDoor

/- The library's slices.SortFunc over numbers, by the shelf's contract, laid here. -/
namespace Go.Proofs.YtclgghhpiljgfaaGreatDoor


def sortL_ren : Go.Shelf.Ren := ⟨fun | 6 => 115 | 15 => 137 | 14 => 136 | 28 => 153 | 29 => 154 | 20 => 145 | 21 => 146 | 22 => 147 | 23 => 148 | 24 => 149 | 25 => 150 | 26 => 151 | 27 => 152 | 46 => 155 | 47 => 156 | 48 => 157 | 49 => 158 | 50 => 159 | 57 => 160 | n => n, fun | 22 => 125 | 24 => 3 | 25 => 151 | 3 => 3 | 39 => 152 | 0 => 0 | 53 => 162 | 55 => 116 | 4 => 4 | 46 => 171 | 45 => 170 | 50 => 175 | 5 => 5 | 9 => 9 | 66 => 178 | 70 => 182 | 76 => 184 | 77 => 50 | n => n, fun | n => n⟩
theorem sortL : Go.Proofs.SlLaysF.n6 Tryz.prog sortL_ren := {
  mixed := by kernel_rfl
  f6 := ⟨Tryz.f115.name, by decide, Tryz.func115.trans (congrArg some (by kernel_rfl))⟩
  f14 := ⟨Tryz.f136.name, by decide, Tryz.func136.trans (congrArg some (by kernel_rfl))⟩
  f15 := Tryz.func137.trans (congrArg some (by kernel_rfl))
  f20 := ⟨Tryz.f145.name, by decide, Tryz.func145.trans (congrArg some (by kernel_rfl))⟩
  f21 := ⟨Tryz.f146.name, by decide, Tryz.func146.trans (congrArg some (by kernel_rfl))⟩
  f22 := ⟨Tryz.f147.name, by decide, Tryz.func147.trans (congrArg some (by kernel_rfl))⟩
  f23 := ⟨Tryz.f148.name, by decide, Tryz.func148.trans (congrArg some (by kernel_rfl))⟩
  f24 := ⟨Tryz.f149.name, by decide, Tryz.func149.trans (congrArg some (by kernel_rfl))⟩
  f25 := ⟨Tryz.f150.name, by decide, Tryz.func150.trans (congrArg some (by kernel_rfl))⟩
  f26 := ⟨Tryz.f151.name, by decide, Tryz.func151.trans (congrArg some (by kernel_rfl))⟩
  f27 := ⟨Tryz.f152.name, by decide, Tryz.func152.trans (congrArg some (by kernel_rfl))⟩
  f28 := Tryz.func153.trans (congrArg some (by kernel_rfl))
  f29 := Tryz.func154.trans (congrArg some (by kernel_rfl))
  f46 := ⟨Tryz.f155.name, by decide, Tryz.func155.trans (congrArg some (by kernel_rfl))⟩
  f47 := Tryz.func156.trans (congrArg some (by kernel_rfl))
  f48 := Tryz.func157.trans (congrArg some (by kernel_rfl))
  f49 := ⟨Tryz.f158.name, by decide, Tryz.func158.trans (congrArg some (by kernel_rfl))⟩
  f50 := ⟨Tryz.f159.name, by decide, Tryz.func159.trans (congrArg some (by kernel_rfl))⟩
  f57 := ⟨Tryz.f160.name, by decide, Tryz.func160.trans (congrArg some (by kernel_rfl))⟩
  t0 := Tryz.underlying0
  a0 := Tryz.isAgg0
  z0 := Tryz.sizeOf0
  v0 := Tryz.zeroValue0
  t3 := Tryz.underlying3
  a3 := Tryz.isAgg3
  z3 := Tryz.sizeOf3
  v3 := Tryz.zeroValue3
  t4 := Tryz.underlying4
  a4 := Tryz.isAgg4
  z4 := Tryz.sizeOf4
  v4 := Tryz.zeroValue4
  t5 := Tryz.underlying5
  a5 := Tryz.isAgg5
  z5 := Tryz.sizeOf5
  v5 := Tryz.zeroValue5
  t9 := Tryz.underlying9
  a9 := Tryz.isAgg9
  z9 := Tryz.sizeOf9
  v9 := Tryz.zeroValue9
  t22 := Tryz.underlying125
  a22 := Tryz.isAgg125
  z22 := Tryz.sizeOf125
  v22 := Tryz.zeroValue125
  a24 := Tryz.isAgg3
  z24 := Tryz.sizeOf3
  t25 := Tryz.underlying151
  a25 := Tryz.isAgg151
  z25 := Tryz.sizeOf151
  v25 := Tryz.zeroValue151
  t39 := Tryz.underlying152
  a39 := Tryz.isAgg152
  z39 := Tryz.sizeOf152
  v39 := Tryz.zeroValue152
  t45 := Tryz.underlying170
  a45 := Tryz.isAgg170
  z45 := Tryz.sizeOf170
  v45 := Tryz.zeroValue170
  t46 := Tryz.underlying171
  a46 := Tryz.isAgg171
  z46 := Tryz.sizeOf171
  v46 := Tryz.zeroValue171
  t50 := Tryz.underlying175
  a50 := Tryz.isAgg175
  z50 := Tryz.sizeOf175
  v50 := Tryz.zeroValue175
  t53 := Tryz.underlying162
  a53 := Tryz.isAgg162
  z53 := Tryz.sizeOf162
  v53 := Tryz.zeroValue162
  t55 := Tryz.underlying116
  a55 := Tryz.isAgg116
  z55 := Tryz.sizeOf116
  v55 := Tryz.zeroValue116
  t66 := Tryz.underlying178
  a66 := Tryz.isAgg178
  z66 := Tryz.sizeOf178
  v66 := Tryz.zeroValue178
  t70 := Tryz.underlying182
  a70 := Tryz.isAgg182
  z70 := Tryz.sizeOf182
  v70 := Tryz.zeroValue182
  t76 := Tryz.underlying184
  a76 := Tryz.isAgg184
  z76 := Tryz.sizeOf184
  v76 := Tryz.zeroValue184
  t77 := Tryz.underlying50
  a77 := Tryz.isAgg50
  z77 := Tryz.sizeOf50
  v77 := Tryz.zeroValue50 }
end Go.Proofs.YtclgghhpiljgfaaGreatDoor

/- Weights that come to one: places by their rests, and kernels of one weight. -/
namespace Go.Proofs.YtclgghhpiljgfaaGreatDoor
open Go.RowKit


theorem infoIntT : (Tryz.prog.info? 3).map (fun i => (i.zero, i.size, i.bytes)) = some (some (.int .i64 0), 1, 8) := by kernel_rfl
/-- The first places. -/
def firstP (j : Nat) : List Int := (List.range j).map fun k : Nat => (k : Int)
theorem firstP_snoc (j : Nat) : firstP (j + 1) = firstP j ++ [(j : Int)] := by unfold firstP; rw [List.range_succ, List.map_append]; rfl
theorem firstP_len (j : Nat) : (firstP j).length = j := by unfold firstP; rw [List.length_map, List.length_range]
theorem firstP_get {j n : Nat} (h : j < n) : (firstP n).getD j 0 = (j : Int) := by
  unfold firstP
  rw [List.getD_eq_getElem?_getD, List.getElem?_map, List.getElem?_range h]; rfl
set_option maxHeartbeats 4000000 in
set_option maxRecDepth 1000000 in
theorem byrest_any (rs : List Int) (n : Nat) (ad : Option Addr) (cap : Nat) (w : World) (hn : rs.length = n) (n0 : 1 ≤ n) (n1 : n ≤ 1048576) (hr : RowAt .i64 w ad rs) :
    Calls Tryz.prog 88 #[.slice ad n cap] w fun e w' => ∃ g p, e = .returned (.slice (some ⟨g, 0, none⟩) n n) ∧ Ranked rs p ∧ RowAt .i64 w' (some ⟨g, 0, none⟩) (p.map fun k : Nat => (k : Int)) ∧ w.heap.size ≤ g ∧ Below w.heap.size w w' := by
  obtain ⟨i0, hi, hz0, hz1, hz2⟩ := info_parts infoIntT
  have HR := hide hr
  have HN := hide hn
  clear hr hn
  go_enter Tryz.func88, Tryz.ntmps88
  go_wp2_with (at_make; refine wpList_make_full _ rfl _ _ 125 rfl w.heap.size 3 i0 (.int .i64 0) 1 Tryz.underlying125 hi hz0 hz1 .i64 .i64 (n : Int) (n : Int) n rfl rfl rfl rfl (by rw [hz2]; omega) (by unfold maxLen; omega) (by simp) ?_; intro w2 hown hgrow)
  have es : (w.alloc (.cells #[.slice ad n cap] 25)).heap.size = w.heap.size + 1 := by simp
  rw [es] at hown
  have own0 : OwnI .i64 3 w2 w.heap.size (.slice (some ⟨w.heap.size + 1, 0, none⟩) n n) (padZ (firstP 0) n) := by
    rw [show firstP 0 = [] from rfl, padZ_nil]; exact OwnI.made hown
  have B2 := below_made (Below.refl _ (w.alloc (.cells #[.slice ad n cap] 25))) hgrow
  rw [es] at B2
  have hcell : (w.alloc (.cells #[.slice ad n cap] 25)).cell? ⟨w.heap.size, 0, none⟩ = some (.slice ad n cap) := by simp
  have HC := hide hcell
  have HBA := hide (ba (Below.refl w.heap.size w) (.cells #[.slice ad n cap] 25))
  have HES := hide es
  generalize w.alloc (.cells #[.slice ad n cap] 25) = wa at *
  clear hown hgrow hcell es
  go_loopw [10] (fun i wr => ∃ j : Nat, j ≤ n ∧ i = .int .i64 (j : Int) ∧ OwnI .i64 3 wr w.heap.size (.slice (some ⟨w.heap.size + 1, 0, none⟩) n n) (padZ (firstP j) n) ∧ Below (w.heap.size + 1) wa wr) (fun i _ => n - (intOf i).toNat)
  case atStart => exact ⟨0, by omega, rfl, own0, B2⟩
  case round =>
    clear own0 B2
    obtain ⟨j, hj, rfl, ho, hb⟩ := hrel
    have HO := hide ho
    have HB := hide hb
    clear ho hb
    by_cases hlt : j < n
    · have HZ := hide (padZ_set (firstP_len j) hlt (j : Int))
      have HS := hide (firstP_snoc j)
      have HL := hide (padZ_len (show (firstP j).length ≤ n by rw [firstP_len]; exact hj))
      have fz := HO.out.frozenAt HL.out j
      have cl := HO.out.cellAt HL.out hlt
      generalize padZ (firstP j) n = L1 at *
      go_wp2
      go_roundw
      case rel => exact ⟨j + 1, by omega, by go_num, by rw [HS.out, ← HZ.out]; exact HO.out.stored HL.out j (j : Int), by have h := HB.out; rw [← HES.out] at h ⊢; exact bs h (Nat.le_refl _) _⟩
      case measure => simp [intOf]; omega
    · obtain rfl : j = n := by omega
      have O2 := HO.out
      rw [padZ_full (firstP_len _)] at O2
      haveI : Inhabited (Fin j) := ⟨⟨0, by omega⟩⟩
      obtain ⟨d, hd⟩ : ∃ d : Array (Fin j), d.toList = List.finRange j := ⟨(List.finRange j).toArray, by simp⟩
      have dz : d.size = j := by rw [← Array.length_toList, hd, List.length_finRange]
      have BW : Below w.heap.size w wr := Below.trans HBA.out (HB.out.mono (by omega))
      have hz : w.heap.size + 1 < wr.heap.size := O2.lt _ rfl
      have dk : ∀ k, k < j → (d[k]!).val = k := by
        intro k hk
        have : (placesOf d).getD k 0 = k := by
          unfold placesOf
          rw [hd, List.getD_eq_getElem?_getD, List.getElem?_map, List.getElem?_eq_getElem (by rw [List.length_finRange]; exact hk)]
          simp
        rw [← arr_bang d (by omega)]; exact this
      have hH : Sort.Holds (fun x : Fin j => Value.int .i64 (x.val : Int)) wr (w.heap.size + 1) 0 d := by
        intro k hk
        rw [dz] at hk
        have c := O2.cellAt (firstP_len j) hk
        rw [firstP_get hk] at c
        rw [Nat.zero_add]
        show wr.cell? _ = some (Value.int .i64 ((d[k]!).val : Int)) ∧ _
        rw [dk k hk]
        exact ⟨c, O2.frozenAt (firstP_len j) k⟩
      have hcb := HB.out.cell (p := ⟨w.heap.size, 0, none⟩) (by show w.heap.size < _; omega)
      rw [HC.out] at hcb
      have hcmp : CmpLays1 Tryz.prog 116 #[.pointer (some ⟨w.heap.size, 0, none⟩)] (fun x : Fin j => Value.int .i64 (x.val : Int)) (cfR rs j) (w.heap.size + 1) 0 d.size wr := by
        intro m os dk hdk x y
        refine closure_any rs j HN.out x y w.heap.size ad cap _ (sort_cell _ _ _ _ _ _ _ hcb (by omega)) ?_
        rcases HR.out with e | ⟨b, off, e1, e2⟩
        · exact Or.inl e
        · refine Or.inr ⟨b, off, e1, fun k hk => ?_⟩
          have hlb := cell_ltL (e2 k hk)
          exact sort_cell _ _ _ _ _ _ _ (cb BW hlb (e2 k hk)) (by omega)
      have eg : ∀ args w, (callFunc 116 args).run Tryz.prog w = .ok (.enter 116 args) w := enters_of Tryz.func116 (by kernel_rfl) rfl
      have hS := Any.slices_SortFunc sortL (fun x : Fin j => Value.int .i64 (x.val : Int)) (fun _ => rfl) (cfR rs j) (cfR_swo rs j) 116 #[.pointer (some ⟨w.heap.size, 0, none⟩)] (w.heap.size + 1) 0 j d wr eg hcmp hH hz (by omega)
      rw [dz] at hS
      change Calls Tryz.prog 115 _ _ _ at hS
      have HD := hide hd
      have HZ := hide dz
      have HH := hide hH
      have HBW := hide BW
      clear hcb hcmp eg hd dz dk hH BW O2 HO
      go_wp2_with (go_at_call 115; (with_reducible refine hS.mono ?_); rintro e w3 ⟨rfl, d', m, os, hp, hs, hw3⟩; have HW3 := hide hw3; clear hw3)
      have dz := HZ.out
      have RK := ranked_of HN.out d d' HD.out (by rw [dz]; exact hp) (by rw [dz]; exact hs)
      have hH3 : Sort.Holds (fun x : Fin j => Value.int .i64 (x.val : Int)) w3 (w.heap.size + 1) 0 d' := by
        refine SW.holds (enc := fun x : Fin j => Value.int .i64 (x.val : Int)) (w0 := wr) ⟨m, os, HW3.out⟩ hz HH.out ?_
        exact hp.1
      have B3 : Below w.heap.size w w3 := by rw [HW3.out]; exact below_sort HBW.out (Nat.le_succ _) hz
      have pl : (placesOf d').length = d'.size := by unfold placesOf; rw [List.length_map, Array.length_toList]
      have RA : RowAt .i64 w3 (some ⟨w.heap.size + 1, 0, none⟩) ((placesOf d').map fun k : Nat => (k : Int)) := by
        refine Or.inr ⟨w.heap.size + 1, 0, rfl, fun k hk => ?_⟩
        rw [List.length_map, pl] at hk
        rw [(hH3 k hk).1]
        show some (Value.int .i64 ((d'[k]!).val : Int)) = _
        rw [← arr_bang d' hk, List.getD_eq_getElem?_getD, List.getD_eq_getElem?_getD, List.getElem?_map, List.getElem?_eq_getElem (by rw [pl]; exact hk)]
        rfl
      have H4 := hide (And.intro RK (And.intro RA B3))
      clear hp hs dz RK hH3 B3 pl RA hS
      go_wp2
      go_ret
      exact ⟨_, _, rfl, H4.out.1, H4.out.2.1, Nat.le_succ _, H4.out.2.2⟩
end Go.Proofs.YtclgghhpiljgfaaGreatDoor
