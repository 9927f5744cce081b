/- Parts, joined. -/
import Derived.Test.YtjmjgokgjeankaaGreatDoorProg
import Derived.Test.YtjmjgokgjeankaaGreatDoorJ30
import Derived.Shelf.SlLaysF
import Derived.Shelf.SlSortCmp.Whole1
/- The library's slices.SortFunc over numbers, by the shelf's contract, laid here. -/
namespace Go.Proofs.YtjmjgokgjeankaaGreatDoor


def sortL_ren : Go.Shelf.Ren := ⟨fun | 6 => 59 | 15 => 88 | 14 => 87 | 28 => 116 | 29 => 117 | 20 => 108 | 21 => 109 | 22 => 110 | 23 => 111 | 24 => 112 | 25 => 113 | 26 => 114 | 27 => 115 | 46 => 119 | 47 => 120 | 48 => 121 | 49 => 122 | 50 => 123 | 57 => 124 | n => n, fun | 22 => 72 | 24 => 3 | 25 => 84 | 3 => 3 | 39 => 109 | 0 => 0 | 53 => 128 | 55 => 87 | 4 => 4 | 46 => 121 | 45 => 120 | 50 => 125 | 5 => 5 | 9 => 9 | 66 => 132 | 70 => 136 | 76 => 138 | 77 => 139 | n => n, fun | n => n⟩
theorem sortL : Go.Proofs.SlLaysF.n6 Tryz.prog sortL_ren := {
  mixed := by kernel_rfl
  f6 := ⟨Tryz.f59.name, by decide, Tryz.func59.trans (congrArg some (by kernel_rfl))⟩
  f14 := ⟨Tryz.f87.name, by decide, Tryz.func87.trans (congrArg some (by kernel_rfl))⟩
  f15 := Tryz.func88.trans (congrArg some (by kernel_rfl))
  f20 := ⟨Tryz.f108.name, by decide, Tryz.func108.trans (congrArg some (by kernel_rfl))⟩
  f21 := ⟨Tryz.f109.name, by decide, Tryz.func109.trans (congrArg some (by kernel_rfl))⟩
  f22 := ⟨Tryz.f110.name, by decide, Tryz.func110.trans (congrArg some (by kernel_rfl))⟩
  f23 := ⟨Tryz.f111.name, by decide, Tryz.func111.trans (congrArg some (by kernel_rfl))⟩
  f24 := ⟨Tryz.f112.name, by decide, Tryz.func112.trans (congrArg some (by kernel_rfl))⟩
  f25 := ⟨Tryz.f113.name, by decide, Tryz.func113.trans (congrArg some (by kernel_rfl))⟩
  f26 := ⟨Tryz.f114.name, by decide, Tryz.func114.trans (congrArg some (by kernel_rfl))⟩
  f27 := ⟨Tryz.f115.name, by decide, Tryz.func115.trans (congrArg some (by kernel_rfl))⟩
  f28 := Tryz.func116.trans (congrArg some (by kernel_rfl))
  f29 := Tryz.func117.trans (congrArg some (by kernel_rfl))
  f46 := ⟨Tryz.f119.name, by decide, Tryz.func119.trans (congrArg some (by kernel_rfl))⟩
  f47 := Tryz.func120.trans (congrArg some (by kernel_rfl))
  f48 := Tryz.func121.trans (congrArg some (by kernel_rfl))
  f49 := ⟨Tryz.f122.name, by decide, Tryz.func122.trans (congrArg some (by kernel_rfl))⟩
  f50 := ⟨Tryz.f123.name, by decide, Tryz.func123.trans (congrArg some (by kernel_rfl))⟩
  f57 := ⟨Tryz.f124.name, by decide, Tryz.func124.trans (congrArg some (by kernel_rfl))⟩
  t0 := Tryz.underlying0
  a0 := Tryz.isAgg0
  z0 := Tryz.sizeOf0
  v0 := Tryz.zeroValue0
  t3 := Tryz.underlying3
  a3 := Tryz.isAgg3
  z3 := Tryz.sizeOf3
  v3 := Tryz.zeroValue3
  t4 := Tryz.underlying4
  a4 := Tryz.isAgg4
  z4 := Tryz.sizeOf4
  v4 := Tryz.zeroValue4
  t5 := Tryz.underlying5
  a5 := Tryz.isAgg5
  z5 := Tryz.sizeOf5
  v5 := Tryz.zeroValue5
  t9 := Tryz.underlying9
  a9 := Tryz.isAgg9
  z9 := Tryz.sizeOf9
  v9 := Tryz.zeroValue9
  t22 := Tryz.underlying72
  a22 := Tryz.isAgg72
  z22 := Tryz.sizeOf72
  v22 := Tryz.zeroValue72
  a24 := Tryz.isAgg3
  z24 := Tryz.sizeOf3
  t25 := Tryz.underlying84
  a25 := Tryz.isAgg84
  z25 := Tryz.sizeOf84
  v25 := Tryz.zeroValue84
  t39 := Tryz.underlying109
  a39 := Tryz.isAgg109
  z39 := Tryz.sizeOf109
  v39 := Tryz.zeroValue109
  t45 := Tryz.underlying120
  a45 := Tryz.isAgg120
  z45 := Tryz.sizeOf120
  v45 := Tryz.zeroValue120
  t46 := Tryz.underlying121
  a46 := Tryz.isAgg121
  z46 := Tryz.sizeOf121
  v46 := Tryz.zeroValue121
  t50 := Tryz.underlying125
  a50 := Tryz.isAgg125
  z50 := Tryz.sizeOf125
  v50 := Tryz.zeroValue125
  t53 := Tryz.underlying128
  a53 := Tryz.isAgg128
  z53 := Tryz.sizeOf128
  v53 := Tryz.zeroValue128
  t55 := Tryz.underlying87
  a55 := Tryz.isAgg87
  z55 := Tryz.sizeOf87
  v55 := Tryz.zeroValue87
  t66 := Tryz.underlying132
  a66 := Tryz.isAgg132
  z66 := Tryz.sizeOf132
  v66 := Tryz.zeroValue132
  t70 := Tryz.underlying136
  a70 := Tryz.isAgg136
  z70 := Tryz.sizeOf136
  v70 := Tryz.zeroValue136
  t76 := Tryz.underlying138
  a76 := Tryz.isAgg138
  z76 := Tryz.sizeOf138
  v76 := Tryz.zeroValue138
  t77 := Tryz.underlying139
  a77 := Tryz.isAgg139
  z77 := Tryz.sizeOf139
  v77 := Tryz.zeroValue139 }
end Go.Proofs.YtjmjgokgjeankaaGreatDoor

/- Weights that come to one: places by their rests, and kernels of one weight. -/
namespace Go.Proofs.YtjmjgokgjeankaaGreatDoor
open Go.RowKit


theorem infoIntT : (Tryz.prog.info? 3).map (fun i => (i.zero, i.size, i.bytes)) = some (some (.int .i64 0), 1, 8) := by kernel_rfl
/-- The first places. -/
def firstP (j : Nat) : List Int := (List.range j).map fun k : Nat => (k : Int)
theorem firstP_snoc (j : Nat) : firstP (j + 1) = firstP j ++ [(j : Int)] := by unfold firstP; rw [List.range_succ, List.map_append]; rfl
theorem firstP_len (j : Nat) : (firstP j).length = j := by unfold firstP; rw [List.length_map, List.length_range]
theorem firstP_get {j n : Nat} (h : j < n) : (firstP n).getD j 0 = (j : Int) := by
  unfold firstP
  rw [List.getD_eq_getElem?_getD, List.getElem?_map, List.getElem?_range h]; rfl
set_option maxHeartbeats 4000000 in
set_option maxRecDepth 1000000 in
theorem byrest_any (rs : List Int) (n : Nat) (ad : Option Addr) (cap : Nat) (w : World) (hn : rs.length = n) (n0 : 1 ≤ n) (n1 : n ≤ 1048576) (hr : RowAt .i64 w ad rs) :
    Calls Tryz.prog 41 #[.slice ad n cap] w fun e w' => ∃ g p, e = .returned (.slice (some ⟨g, 0, none⟩) n n) ∧ Ranked rs p ∧ RowAt .i64 w' (some ⟨g, 0, none⟩) (p.map fun k : Nat => (k : Int)) ∧ w.heap.size ≤ g ∧ Below w.heap.size w w' := by
  obtain ⟨i0, hi, hz0, hz1, hz2⟩ := info_parts infoIntT
  have HR := hide hr
  have HN := hide hn
  clear hr hn
  go_enter Tryz.func41, Tryz.ntmps41
  go_wp2_with (at_make; refine wpList_make_full _ rfl _ _ 72 rfl w.heap.size 3 i0 (.int .i64 0) 1 Tryz.underlying72 hi hz0 hz1 .i64 .i64 (n : Int) (n : Int) n rfl rfl rfl rfl (by rw [hz2]; omega) (by unfold maxLen; omega) (by simp) ?_; intro w2 hown hgrow)
  have es : (w.alloc (.cells #[.slice ad n cap] 33)).heap.size = w.heap.size + 1 := by simp
  rw [es] at hown
  have own0 : OwnI .i64 3 w2 w.heap.size (.slice (some ⟨w.heap.size + 1, 0, none⟩) n n) (padZ (firstP 0) n) := by
    rw [show firstP 0 = [] from rfl, padZ_nil]; exact OwnI.made hown
  have B2 := below_made (Below.refl _ (w.alloc (.cells #[.slice ad n cap] 33))) hgrow
  rw [es] at B2
  have hcell : (w.alloc (.cells #[.slice ad n cap] 33)).cell? ⟨w.heap.size, 0, none⟩ = some (.slice ad n cap) := by simp
  have HC := hide hcell
  have HBA := hide (ba (Below.refl w.heap.size w) (.cells #[.slice ad n cap] 33))
  have HES := hide es
  generalize w.alloc (.cells #[.slice ad n cap] 33) = wa at *
  clear hown hgrow hcell es
  go_loopw [10] (fun i wr => ∃ j : Nat, j ≤ n ∧ i = .int .i64 (j : Int) ∧ OwnI .i64 3 wr w.heap.size (.slice (some ⟨w.heap.size + 1, 0, none⟩) n n) (padZ (firstP j) n) ∧ Below (w.heap.size + 1) wa wr) (fun i _ => n - (intOf i).toNat)
  case atStart => exact ⟨0, by omega, rfl, own0, B2⟩
  case round =>
    clear own0 B2
    obtain ⟨j, hj, rfl, ho, hb⟩ := hrel
    have HO := hide ho
    have HB := hide hb
    clear ho hb
    by_cases hlt : j < n
    · have HZ := hide (padZ_set (firstP_len j) hlt (j : Int))
      have HS := hide (firstP_snoc j)
      have HL := hide (padZ_len (show (firstP j).length ≤ n by rw [firstP_len]; exact hj))
      have fz := HO.out.frozenAt HL.out j
      have cl := HO.out.cellAt HL.out hlt
      generalize padZ (firstP j) n = L1 at *
      go_wp2
      go_roundw
      case rel => exact ⟨j + 1, by omega, by go_num, by rw [HS.out, ← HZ.out]; exact HO.out.stored HL.out j (j : Int), by have h := HB.out; rw [← HES.out] at h ⊢; exact bs h (Nat.le_refl _) _⟩
      case measure => simp [intOf]; omega
    · obtain rfl : j = n := by omega
      have O2 := HO.out
      rw [padZ_full (firstP_len _)] at O2
      haveI : Inhabited (Fin j) := ⟨⟨0, by omega⟩⟩
      obtain ⟨d, hd⟩ : ∃ d : Array (Fin j), d.toList = List.finRange j := ⟨(List.finRange j).toArray, by simp⟩
      have dz : d.size = j := by rw [← Array.length_toList, hd, List.length_finRange]
      have BW : Below w.heap.size w wr := Below.trans HBA.out (HB.out.mono (by omega))
      have hz : w.heap.size + 1 < wr.heap.size := O2.lt _ rfl
      have dk : ∀ k, k < j → (d[k]!).val = k := by
        intro k hk
        have : (placesOf d).getD k 0 = k := by
          unfold placesOf
          rw [hd, List.getD_eq_getElem?_getD, List.getElem?_map, List.getElem?_eq_getElem (by rw [List.length_finRange]; exact hk)]
          simp
        rw [← arr_bang d (by omega)]; exact this
      have hH : Sort.Holds (fun x : Fin j => Value.int .i64 (x.val : Int)) wr (w.heap.size + 1) 0 d := by
        intro k hk
        rw [dz] at hk
        have c := O2.cellAt (firstP_len j) hk
        rw [firstP_get hk] at c
        rw [Nat.zero_add]
        show wr.cell? _ = some (Value.int .i64 ((d[k]!).val : Int)) ∧ _
        rw [dk k hk]
        exact ⟨c, O2.frozenAt (firstP_len j) k⟩
      have hcb := HB.out.cell (p := ⟨w.heap.size, 0, none⟩) (by show w.heap.size < _; omega)
      rw [HC.out] at hcb
      have hcmp : CmpLays1 Tryz.prog 60 #[.pointer (some ⟨w.heap.size, 0, none⟩)] (fun x : Fin j => Value.int .i64 (x.val : Int)) (cfR rs j) (w.heap.size + 1) 0 d.size wr := by
        intro m os dk hdk x y
        refine closure_any rs j HN.out x y w.heap.size ad cap _ (sort_cell _ _ _ _ _ _ _ hcb (by omega)) ?_
        rcases HR.out with e | ⟨b, off, e1, e2⟩
        · exact Or.inl e
        · refine Or.inr ⟨b, off, e1, fun k hk => ?_⟩
          have hlb := cell_ltL (e2 k hk)
          exact sort_cell _ _ _ _ _ _ _ (cb BW hlb (e2 k hk)) (by omega)
      have eg : ∀ args w, (callFunc 60 args).run Tryz.prog w = .ok (.enter 60 args) w := enters_of Tryz.func60 (by kernel_rfl) rfl
      have hS := Any.slices_SortFunc sortL (fun x : Fin j => Value.int .i64 (x.val : Int)) (fun _ => rfl) (cfR rs j) (cfR_swo rs j) 60 #[.pointer (some ⟨w.heap.size, 0, none⟩)] (w.heap.size + 1) 0 j d wr eg hcmp hH hz (by omega)
      rw [dz] at hS
      change Calls Tryz.prog 59 _ _ _ at hS
      have HD := hide hd
      have HZ := hide dz
      have HH := hide hH
      have HBW := hide BW
      clear hcb hcmp eg hd dz dk hH BW O2 HO
      go_wp2_with (go_at_call 59; (with_reducible refine hS.mono ?_); rintro e w3 ⟨rfl, d', m, os, hp, hs, hw3⟩; have HW3 := hide hw3; clear hw3)
      have dz := HZ.out
      have RK := ranked_of HN.out d d' HD.out (by rw [dz]; exact hp) (by rw [dz]; exact hs)
      have hH3 : Sort.Holds (fun x : Fin j => Value.int .i64 (x.val : Int)) w3 (w.heap.size + 1) 0 d' := by
        refine SW.holds (enc := fun x : Fin j => Value.int .i64 (x.val : Int)) (w0 := wr) ⟨m, os, HW3.out⟩ hz HH.out ?_
        exact hp.1
      have B3 : Below w.heap.size w w3 := by rw [HW3.out]; exact below_sort HBW.out (Nat.le_succ _) hz
      have pl : (placesOf d').length = d'.size := by unfold placesOf; rw [List.length_map, Array.length_toList]
      have RA : RowAt .i64 w3 (some ⟨w.heap.size + 1, 0, none⟩) ((placesOf d').map fun k : Nat => (k : Int)) := by
        refine Or.inr ⟨w.heap.size + 1, 0, rfl, fun k hk => ?_⟩
        rw [List.length_map, pl] at hk
        rw [(hH3 k hk).1]
        show some (Value.int .i64 ((d'[k]!).val : Int)) = _
        rw [← arr_bang d' hk, List.getD_eq_getElem?_getD, List.getD_eq_getElem?_getD, List.getElem?_map, List.getElem?_eq_getElem (by rw [pl]; exact hk)]
        rfl
      have H4 := hide (And.intro RK (And.intro RA B3))
      clear hp hs dz RK hH3 B3 pl RA hS
      go_wp2
      go_ret
      exact ⟨_, _, rfl, H4.out.1, H4.out.2.1, Nat.le_succ _, H4.out.2.2⟩
end Go.Proofs.YtjmjgokgjeankaaGreatDoor
