/- Parts, joined. -/
import Derived.Test.YtjmjgokgjeankaaDoorProg
import Derived.Test.YtjmjgokgjeankaaDoorJ19
import Derived.Shelf.SlLaysF
import Derived.Shelf.SlSortCmp.Whole1
/- The library's slices.SortFunc over numbers, by the shelf's contract, laid here. -/
namespace Go.Proofs.YtjmjgokgjeankaaDoor


def sortL_ren : Go.Shelf.Ren := ⟨fun | 6 => 45 | 15 => 66 | 14 => 65 | 28 => 84 | 29 => 85 | 20 => 76 | 21 => 77 | 22 => 78 | 23 => 79 | 24 => 80 | 25 => 81 | 26 => 82 | 27 => 83 | 46 => 87 | 47 => 88 | 48 => 89 | 49 => 90 | 50 => 91 | 57 => 92 | n => n, fun | 22 => 61 | 24 => 3 | 25 => 70 | 3 => 3 | 39 => 87 | 0 => 0 | 53 => 101 | 55 => 71 | 4 => 4 | 46 => 94 | 45 => 93 | 50 => 98 | 5 => 5 | 9 => 9 | 66 => 105 | 70 => 109 | 76 => 111 | 77 => 112 | n => n, fun | n => n⟩
theorem sortL : Go.Proofs.SlLaysF.n6 Tryd.prog sortL_ren := {
  mixed := by kernel_rfl
  f6 := ⟨Tryd.f45.name, by decide, Tryd.func45.trans (congrArg some (by kernel_rfl))⟩
  f14 := ⟨Tryd.f65.name, by decide, Tryd.func65.trans (congrArg some (by kernel_rfl))⟩
  f15 := Tryd.func66.trans (congrArg some (by kernel_rfl))
  f20 := ⟨Tryd.f76.name, by decide, Tryd.func76.trans (congrArg some (by kernel_rfl))⟩
  f21 := ⟨Tryd.f77.name, by decide, Tryd.func77.trans (congrArg some (by kernel_rfl))⟩
  f22 := ⟨Tryd.f78.name, by decide, Tryd.func78.trans (congrArg some (by kernel_rfl))⟩
  f23 := ⟨Tryd.f79.name, by decide, Tryd.func79.trans (congrArg some (by kernel_rfl))⟩
  f24 := ⟨Tryd.f80.name, by decide, Tryd.func80.trans (congrArg some (by kernel_rfl))⟩
  f25 := ⟨Tryd.f81.name, by decide, Tryd.func81.trans (congrArg some (by kernel_rfl))⟩
  f26 := ⟨Tryd.f82.name, by decide, Tryd.func82.trans (congrArg some (by kernel_rfl))⟩
  f27 := ⟨Tryd.f83.name, by decide, Tryd.func83.trans (congrArg some (by kernel_rfl))⟩
  f28 := Tryd.func84.trans (congrArg some (by kernel_rfl))
  f29 := Tryd.func85.trans (congrArg some (by kernel_rfl))
  f46 := ⟨Tryd.f87.name, by decide, Tryd.func87.trans (congrArg some (by kernel_rfl))⟩
  f47 := Tryd.func88.trans (congrArg some (by kernel_rfl))
  f48 := Tryd.func89.trans (congrArg some (by kernel_rfl))
  f49 := ⟨Tryd.f90.name, by decide, Tryd.func90.trans (congrArg some (by kernel_rfl))⟩
  f50 := ⟨Tryd.f91.name, by decide, Tryd.func91.trans (congrArg some (by kernel_rfl))⟩
  f57 := ⟨Tryd.f92.name, by decide, Tryd.func92.trans (congrArg some (by kernel_rfl))⟩
  t0 := Tryd.underlying0
  a0 := Tryd.isAgg0
  z0 := Tryd.sizeOf0
  v0 := Tryd.zeroValue0
  t3 := Tryd.underlying3
  a3 := Tryd.isAgg3
  z3 := Tryd.sizeOf3
  v3 := Tryd.zeroValue3
  t4 := Tryd.underlying4
  a4 := Tryd.isAgg4
  z4 := Tryd.sizeOf4
  v4 := Tryd.zeroValue4
  t5 := Tryd.underlying5
  a5 := Tryd.isAgg5
  z5 := Tryd.sizeOf5
  v5 := Tryd.zeroValue5
  t9 := Tryd.underlying9
  a9 := Tryd.isAgg9
  z9 := Tryd.sizeOf9
  v9 := Tryd.zeroValue9
  t22 := Tryd.underlying61
  a22 := Tryd.isAgg61
  z22 := Tryd.sizeOf61
  v22 := Tryd.zeroValue61
  a24 := Tryd.isAgg3
  z24 := Tryd.sizeOf3
  t25 := Tryd.underlying70
  a25 := Tryd.isAgg70
  z25 := Tryd.sizeOf70
  v25 := Tryd.zeroValue70
  t39 := Tryd.underlying87
  a39 := Tryd.isAgg87
  z39 := Tryd.sizeOf87
  v39 := Tryd.zeroValue87
  t45 := Tryd.underlying93
  a45 := Tryd.isAgg93
  z45 := Tryd.sizeOf93
  v45 := Tryd.zeroValue93
  t46 := Tryd.underlying94
  a46 := Tryd.isAgg94
  z46 := Tryd.sizeOf94
  v46 := Tryd.zeroValue94
  t50 := Tryd.underlying98
  a50 := Tryd.isAgg98
  z50 := Tryd.sizeOf98
  v50 := Tryd.zeroValue98
  t53 := Tryd.underlying101
  a53 := Tryd.isAgg101
  z53 := Tryd.sizeOf101
  v53 := Tryd.zeroValue101
  t55 := Tryd.underlying71
  a55 := Tryd.isAgg71
  z55 := Tryd.sizeOf71
  v55 := Tryd.zeroValue71
  t66 := Tryd.underlying105
  a66 := Tryd.isAgg105
  z66 := Tryd.sizeOf105
  v66 := Tryd.zeroValue105
  t70 := Tryd.underlying109
  a70 := Tryd.isAgg109
  z70 := Tryd.sizeOf109
  v70 := Tryd.zeroValue109
  t76 := Tryd.underlying111
  a76 := Tryd.isAgg111
  z76 := Tryd.sizeOf111
  v76 := Tryd.zeroValue111
  t77 := Tryd.underlying112
  a77 := Tryd.isAgg112
  z77 := Tryd.sizeOf112
  v77 := Tryd.zeroValue112 }
end Go.Proofs.YtjmjgokgjeankaaDoor

/- Weights that come to one: places by their rests, and kernels of one weight. -/
namespace Go.Proofs.YtjmjgokgjeankaaDoor
open Go.RowKit


theorem infoIntT : (Tryd.prog.info? 3).map (fun i => (i.zero, i.size, i.bytes)) = some (some (.int .i64 0), 1, 8) := by kernel_rfl
/-- The first places. -/
def firstP (j : Nat) : List Int := (List.range j).map fun k : Nat => (k : Int)
theorem firstP_snoc (j : Nat) : firstP (j + 1) = firstP j ++ [(j : Int)] := by unfold firstP; rw [List.range_succ, List.map_append]; rfl
theorem firstP_len (j : Nat) : (firstP j).length = j := by unfold firstP; rw [List.length_map, List.length_range]
theorem firstP_get {j n : Nat} (h : j < n) : (firstP n).getD j 0 = (j : Int) := by
  unfold firstP
  rw [List.getD_eq_getElem?_getD, List.getElem?_map, List.getElem?_range h]; rfl
set_option maxHeartbeats 4000000 in
set_option maxRecDepth 1000000 in
theorem byrest_any (rs : List Int) (n : Nat) (ad : Option Addr) (cap : Nat) (w : World) (hn : rs.length = n) (n0 : 1 ≤ n) (n1 : n ≤ 1048576) (hr : RowAt .i64 w ad rs) :
    Calls Tryd.prog 34 #[.slice ad n cap] w fun e w' => ∃ g p, e = .returned (.slice (some ⟨g, 0, none⟩) n n) ∧ Ranked rs p ∧ RowAt .i64 w' (some ⟨g, 0, none⟩) (p.map fun k : Nat => (k : Int)) ∧ w.heap.size ≤ g ∧ Below w.heap.size w w' := by
  obtain ⟨i0, hi, hz0, hz1, hz2⟩ := info_parts infoIntT
  have HR := hide hr
  have HN := hide hn
  clear hr hn
  go_enter Tryd.func34, Tryd.ntmps34
  go_wp2_with (at_make; refine wpList_make_full _ rfl _ _ 61 rfl w.heap.size 3 i0 (.int .i64 0) 1 Tryd.underlying61 hi hz0 hz1 .i64 .i64 (n : Int) (n : Int) n rfl rfl rfl rfl (by rw [hz2]; omega) (by unfold maxLen; omega) (by simp) ?_; intro w2 hown hgrow)
  have es : (w.alloc (.cells #[.slice ad n cap] 29)).heap.size = w.heap.size + 1 := by simp
  rw [es] at hown
  have own0 : OwnI .i64 3 w2 w.heap.size (.slice (some ⟨w.heap.size + 1, 0, none⟩) n n) (padZ (firstP 0) n) := by
    rw [show firstP 0 = [] from rfl, padZ_nil]; exact OwnI.made hown
  have B2 := below_made (Below.refl _ (w.alloc (.cells #[.slice ad n cap] 29))) hgrow
  rw [es] at B2
  have hcell : (w.alloc (.cells #[.slice ad n cap] 29)).cell? ⟨w.heap.size, 0, none⟩ = some (.slice ad n cap) := by simp
  have HC := hide hcell
  have HBA := hide (ba (Below.refl w.heap.size w) (.cells #[.slice ad n cap] 29))
  have HES := hide es
  generalize w.alloc (.cells #[.slice ad n cap] 29) = wa at *
  clear hown hgrow hcell es
  go_loopw [10] (fun i wr => ∃ j : Nat, j ≤ n ∧ i = .int .i64 (j : Int) ∧ OwnI .i64 3 wr w.heap.size (.slice (some ⟨w.heap.size + 1, 0, none⟩) n n) (padZ (firstP j) n) ∧ Below (w.heap.size + 1) wa wr) (fun i _ => n - (intOf i).toNat)
  case atStart => exact ⟨0, by omega, rfl, own0, B2⟩
  case round =>
    clear own0 B2
    obtain ⟨j, hj, rfl, ho, hb⟩ := hrel
    have HO := hide ho
    have HB := hide hb
    clear ho hb
    by_cases hlt : j < n
    · have HZ := hide (padZ_set (firstP_len j) hlt (j : Int))
      have HS := hide (firstP_snoc j)
      have HL := hide (padZ_len (show (firstP j).length ≤ n by rw [firstP_len]; exact hj))
      have fz := HO.out.frozenAt HL.out j
      have cl := HO.out.cellAt HL.out hlt
      generalize padZ (firstP j) n = L1 at *
      go_wp2
      go_roundw
      case rel => exact ⟨j + 1, by omega, by go_num, by rw [HS.out, ← HZ.out]; exact HO.out.stored HL.out j (j : Int), by have h := HB.out; rw [← HES.out] at h ⊢; exact bs h (Nat.le_refl _) _⟩
      case measure => simp [intOf]; omega
    · obtain rfl : j = n := by omega
      have O2 := HO.out
      rw [padZ_full (firstP_len _)] at O2
      haveI : Inhabited (Fin j) := ⟨⟨0, by omega⟩⟩
      obtain ⟨d, hd⟩ : ∃ d : Array (Fin j), d.toList = List.finRange j := ⟨(List.finRange j).toArray, by simp⟩
      have dz : d.size = j := by rw [← Array.length_toList, hd, List.length_finRange]
      have BW : Below w.heap.size w wr := Below.trans HBA.out (HB.out.mono (by omega))
      have hz : w.heap.size + 1 < wr.heap.size := O2.lt _ rfl
      have dk : ∀ k, k < j → (d[k]!).val = k := by
        intro k hk
        have : (placesOf d).getD k 0 = k := by
          unfold placesOf
          rw [hd, List.getD_eq_getElem?_getD, List.getElem?_map, List.getElem?_eq_getElem (by rw [List.length_finRange]; exact hk)]
          simp
        rw [← arr_bang d (by omega)]; exact this
      have hH : Sort.Holds (fun x : Fin j => Value.int .i64 (x.val : Int)) wr (w.heap.size + 1) 0 d := by
        intro k hk
        rw [dz] at hk
        have c := O2.cellAt (firstP_len j) hk
        rw [firstP_get hk] at c
        rw [Nat.zero_add]
        show wr.cell? _ = some (Value.int .i64 ((d[k]!).val : Int)) ∧ _
        rw [dk k hk]
        exact ⟨c, O2.frozenAt (firstP_len j) k⟩
      have hcb := HB.out.cell (p := ⟨w.heap.size, 0, none⟩) (by show w.heap.size < _; omega)
      rw [HC.out] at hcb
      have hcmp : CmpLays1 Tryd.prog 46 #[.pointer (some ⟨w.heap.size, 0, none⟩)] (fun x : Fin j => Value.int .i64 (x.val : Int)) (cfR rs j) (w.heap.size + 1) 0 d.size wr := by
        intro m os dk hdk x y
        refine closure_any rs j HN.out x y w.heap.size ad cap _ (sort_cell _ _ _ _ _ _ _ hcb (by omega)) ?_
        rcases HR.out with e | ⟨b, off, e1, e2⟩
        · exact Or.inl e
        · refine Or.inr ⟨b, off, e1, fun k hk => ?_⟩
          have hlb := cell_ltL (e2 k hk)
          exact sort_cell _ _ _ _ _ _ _ (cb BW hlb (e2 k hk)) (by omega)
      have eg : ∀ args w, (callFunc 46 args).run Tryd.prog w = .ok (.enter 46 args) w := enters_of Tryd.func46 (by kernel_rfl) rfl
      have hS := Any.slices_SortFunc sortL (fun x : Fin j => Value.int .i64 (x.val : Int)) (fun _ => rfl) (cfR rs j) (cfR_swo rs j) 46 #[.pointer (some ⟨w.heap.size, 0, none⟩)] (w.heap.size + 1) 0 j d wr eg hcmp hH hz (by omega)
      rw [dz] at hS
      change Calls Tryd.prog 45 _ _ _ at hS
      have HD := hide hd
      have HZ := hide dz
      have HH := hide hH
      have HBW := hide BW
      clear hcb hcmp eg hd dz dk hH BW O2 HO
      go_wp2_with (go_at_call 45; (with_reducible refine hS.mono ?_); rintro e w3 ⟨rfl, d', m, os, hp, hs, hw3⟩; have HW3 := hide hw3; clear hw3)
      have dz := HZ.out
      have RK := ranked_of HN.out d d' HD.out (by rw [dz]; exact hp) (by rw [dz]; exact hs)
      have hH3 : Sort.Holds (fun x : Fin j => Value.int .i64 (x.val : Int)) w3 (w.heap.size + 1) 0 d' := by
        refine SW.holds (enc := fun x : Fin j => Value.int .i64 (x.val : Int)) (w0 := wr) ⟨m, os, HW3.out⟩ hz HH.out ?_
        exact hp.1
      have B3 : Below w.heap.size w w3 := by rw [HW3.out]; exact below_sort HBW.out (Nat.le_succ _) hz
      have pl : (placesOf d').length = d'.size := by unfold placesOf; rw [List.length_map, Array.length_toList]
      have RA : RowAt .i64 w3 (some ⟨w.heap.size + 1, 0, none⟩) ((placesOf d').map fun k : Nat => (k : Int)) := by
        refine Or.inr ⟨w.heap.size + 1, 0, rfl, fun k hk => ?_⟩
        rw [List.length_map, pl] at hk
        rw [(hH3 k hk).1]
        show some (Value.int .i64 ((d'[k]!).val : Int)) = _
        rw [← arr_bang d' hk, List.getD_eq_getElem?_getD, List.getD_eq_getElem?_getD, List.getElem?_map, List.getElem?_eq_getElem (by rw [pl]; exact hk)]
        rfl
      have H4 := hide (And.intro RK (And.intro RA B3))
      clear hp hs dz RK hH3 B3 pl RA hS
      go_wp2
      go_ret
      exact ⟨_, _, rfl, H4.out.1, H4.out.2.1, Nat.le_succ _, H4.out.2.2⟩
end Go.Proofs.YtjmjgokgjeankaaDoor
