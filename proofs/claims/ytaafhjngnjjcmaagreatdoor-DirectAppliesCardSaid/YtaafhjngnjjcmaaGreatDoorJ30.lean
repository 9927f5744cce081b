/- Parts, joined. -/
import Derived.Test.YtaafhjngnjjcmaaGreatDoorJ19
import Derived.Test.YtaafhjngnjjcmaaGreatDoorJ21
import Derived.Test.YtaafhjngnjjcmaaGreatDoorJ29
import Derived.Deep.LoopGhost
/- What comes out: the sums of all columns, as a row weighs them (down). -/
namespace Go.Proofs.YtaafhjngnjjcmaaGreatDoor
open Go.RowKit

def rowF (I : Im) (P : List Int) (j q : Nat) : Int := (imRow I (P.getD q 0)).getD j 0
/-- Sums so far: k rows whole, of the next one so many columns. -/
def dnL (I : Im) (P W : List Int) (n k i : Nat) : List Int := (List.range n).map fun j => if j < i then tapS W (rowF I P j) (k + 1) else tapS W (rowF I P j) k
theorem dnL_len (I : Im) (P W : List Int) (n k i : Nat) : (dnL I P W n k i).length = n := by unfold dnL; rw [List.length_map, List.length_range]
theorem dnL_at (I : Im) (P W : List Int) {n j : Nat} (k i : Nat) (h : j < n) : (dnL I P W n k i).getD j 0 = if j < i then tapS W (rowF I P j) (k + 1) else tapS W (rowF I P j) k := by
  unfold dnL
  rw [List.getD_eq_getElem?_getD, List.getElem?_map, List.getElem?_range h]
  rfl
theorem dnL_zero (I : Im) (P W : List Int) (n : Nat) : dnL I P W n 0 0 = List.replicate n 0 := by
  refine List.ext_getElem (by rw [dnL_len, List.length_replicate]) (fun j h1 h2 => ?_)
  rw [dnL_len] at h1
  have := dnL_at I P W 0 0 h1
  rw [List.getD_eq_getElem?_getD, List.getElem?_eq_getElem (by rw [dnL_len]; exact h1), if_neg (Nat.not_lt_zero _)] at this
  rw [List.getElem_replicate]
  exact this
theorem dnL_next (I : Im) (P W : List Int) (n k : Nat) : dnL I P W n k n = dnL I P W n (k + 1) 0 := by
  unfold dnL
  refine List.map_congr_left (fun j hj => ?_)
  rw [if_pos (List.mem_range.1 hj), if_neg (Nat.not_lt_zero _)]
theorem dnL_set (I : Im) (P W : List Int) {n k i : Nat} (_h : i < n) (x : Int) (hx : x = tapS W (rowF I P i) (k + 1)) : (dnL I P W n k i).set i x = dnL I P W n k (i + 1) := by
  refine List.ext_getElem (by rw [List.length_set, dnL_len, dnL_len]) (fun j h1 h2 => ?_)
  rw [dnL_len] at h2
  have a := dnL_at I P W k i h2
  have b := dnL_at I P W k (i + 1) h2
  rw [List.getD_eq_getElem?_getD, List.getElem?_eq_getElem (by rw [dnL_len]; exact h2)] at a b
  rw [List.getElem_set]
  have a' : (dnL I P W n k i)[j]'(by rw [dnL_len]; exact h2) = if j < i then tapS W (rowF I P j) (k + 1) else tapS W (rowF I P j) k := a
  have b' : (dnL I P W n k (i + 1))[j]'(by rw [dnL_len]; exact h2) = if j < i + 1 then tapS W (rowF I P j) (k + 1) else tapS W (rowF I P j) k := b
  rw [b']
  by_cases e : i = j
  · subst e
    rw [if_pos rfl, if_pos (by omega), hx]
  · rw [if_neg e, a']
    by_cases g : j < i
    · rw [if_pos g, if_pos (by omega)]
    · rw [if_neg g, if_neg (by omega)]
theorem imRow_in {I : Im} (hI : ImOk I) (y : Int) (j : Nat) : 0 ≤ (imRow I y).getD j 0 ∧ (imRow I y).getD j 0 ≤ 65535 := by
  obtain ⟨_, _, _, _, _, _, t1, _, _, hall⟩ := hI
  rw [List.getD_eq_getElem?_getD]
  cases h : (imRow I y)[j]? with
  | none => exact ⟨by decide, by decide⟩
  | some v =>
    have m := List.mem_of_mem_drop (List.mem_of_mem_take (List.mem_of_getElem? h))
    have := hall v m
    exact ⟨this.1, by show v ≤ _; omega⟩
set_option maxHeartbeats 8000000 in
set_option maxRecDepth 100000 in
theorem dir_down {w : World} {g h : Nat} {I : Im} (H : ImgAt w g h I) (P W : List Int) (N : Nat) (hP : P.length = N) (hW : W.length = N) (u v : Option Addr) (cu cv : Nat) (ru : RowAt .i64 w u P) (rv : RowAt .i64 w v W) (hp : ∀ k, k < N → 0 ≤ P.getD k 0 ∧ P.getD k 0 < I.ih) (sm : SmallT W) (N1 : N ≤ 1048576) (n : Nat) (hn : I.iw * I.ic = (n : Int)) :
    Calls Tryz.prog 48 #[.pointer (some ⟨g, 0, none⟩), .agg #[.slice u N cu, .slice v N cv]] w fun e w' => ∃ s, e = .returned s ∧ OwnI .i64 2 w' w.heap.size s (dnL I P W n N 0) ∧ Below w.heap.size w w' := by
  have hI := H.ok
  have n1 : 1 ≤ n ∧ n ≤ 196608 := by
    have := row_in hI (y := 0) (by omega) (by have := hI.2.2.1; omega)
    omega
  obtain ⟨n1, n2⟩ := n1
  have HH := hide H
  have HRU := hide ru
  have HRV := hide rv
  have HPP := hide hp
  have HP := hide hP
  have HW := hide hW
  have HRL := hide (fun (y : Int) (y0 : 0 ≤ y) (y1 : y < I.ih) => show (imRow I y).length = n by rw [imRow_len hI y0 y1, hn]; omega)
  have HIN := hide (fun (y : Int) (j : Nat) => imRow_in hI y j)
  have HSB := hide (fun (j k : Nat) (hk : k ≤ N) => small_row sm (f := rowF I P j) (n := k) (by rw [hW]; exact hk) (fun q _ => imRow_in hI _ _))
  have HWB := hide (fun (k : Nat) (hk : k < N) => show -8388608 ≤ W.getD k 0 ∧ W.getD k 0 ≤ 8388608 by
    have a := absS_each W (j := k) (n := W.length) (by omega)
    unfold SmallT at sm
    omega)
  have CW := fun w' (b : Below w.heap.size w w') => img_width (H.below b)
  have CC := fun w' (b : Below w.heap.size w w') => img_channels (H.below b)
  have CR := fun w' (b : Below w.heap.size w w') (y : Int) (y0 : 0 ≤ y) (y1 : y < I.ih) => img_row_yes (H.below b) y y0 y1
  have W0 : wrap64 (I.iw * I.ic) = (n : Int) := by rw [hn]; unfold wrap64; omega
  have HZ := hide (dnL_zero I P W n)
  obtain ⟨zs, MK, MO, _⟩ := make64 n (by omega)
  have HMO := hide MO
  obtain ⟨W1, hW1⟩ : ∃ W1, w.alloc (.cells #[.slice u N cu, .slice v N cv] 92) = W1 := ⟨_, rfl⟩
  have B1 := hide (show Below w.heap.size w W1 by rw [← hW1]; exact below1 _ _)
  have L1 := hide (show W1.cell? ⟨w.heap.size, 0, none⟩ = some (.slice u N cu) ∧ W1.cell? ⟨w.heap.size, 1, none⟩ = some (.slice v N cv) by rw [← hW1]; constructor <;> simp)
  have Z1 := hide (show W1.heap.size = w.heap.size + 1 by rw [← hW1]; simp)
  clear H hI ru rv hp hP hW sm MO hn
  generalize I.iw = iw at *
  generalize I.ic = ic at *
  generalize I.ih = ih at *
  go_enter Tryz.func48, Tryz.ntmps48
  go_upto_region 1 with fail
  clear hW1
  obtain ⟨q0, q1⟩ := L1.out
  have q2 := ca (ob := .cells zs 2) (show w.heap.size < W1.heap.size by have := Z1.out; omega) q0
  go_wp2_with (first
    | (go_at_call 17; (with_reducible refine (CW _ B1.out).mono ?_); rintro e w2 ⟨rfl, rfl⟩)
    | (go_at_call 29; (with_reducible refine (CC _ B1.out).mono ?_); rintro e w2 ⟨rfl, rfl⟩))
  have O1 := HMO.out W1 W1.heap.size (Nat.le_refl _)
  rw [← HZ.out] at O1
  have HO1 := hide O1
  have HB1 := hide (ba (Below.refl W1.heap.size W1) (.cells zs 2))
  clear MK HMO O1 q0 q1 q2 W0 CW CC HZ
  generalize W1.alloc (.cells zs 2) = W2 at *
  go_loopg [19] N (fun r i wr => ∃ k : Nat, k + r = N ∧ i = .int .i64 (k : Int) ∧ OwnI .i64 2 wr W1.heap.size (.slice (some ⟨W1.heap.size, 0, none⟩) n n) (dnL I P W n k 0) ∧ Below W1.heap.size W1 wr)
  case atStart => exact ⟨0, by omega, rfl, HO1.out, HB1.out⟩
  case round =>
    clear HO1 HB1
    obtain ⟨k, hk, rfl, ho, hb⟩ := hrel
    have HO := hide ho
    have HB := hide hb
    have HK := hide hk
    clear ho hb hk
    by_cases hlt : k < N
    · obtain ⟨p0, p1⟩ := HPP.out k hlt
      obtain ⟨ub, uo, rfl, cu1⟩ := ((HRU.out.below B1.out).below HB.out).get (show k < P.length by rw [HP.out]; exact hlt)
      obtain ⟨vb, vo, rfl, cv0⟩ := HRV.out.get (show k < W.length by rw [HW.out]; exact hlt)
      have lv := cell_ltL cv0
      have cv1 := cb B1.out lv cv0
      have cv1 := cb HB.out (cell_ltL cv1) cv1
      obtain ⟨A, hA⟩ : ∃ A, W.getD k 0 = A := ⟨_, rfl⟩
      have hwb := HWB.out k hlt
      rw [hA] at cv1 hwb
      have HA := hide hA
      obtain ⟨wb0, wb1⟩ := hwb
      obtain ⟨y, hy⟩ : ∃ y, P.getD k 0 = y := ⟨_, rfl⟩
      rw [hy] at cu1 p0 p1
      have HY := hide hy
      have CR1 := CR wr (bt B1.out HB.out) y p0 p1
      have HRL1 := hide (HRL.out y p0 p1)
      have z1 : w.heap.size < W1.heap.size := by have := Z1.out; omega
      have x1 := cb HB.out z1 L1.out.2
      have HCV := hide cv1
      have HX1 := hide x1
      have HLV := hide lv
      clear hA hy p0 p1 cv1 x1 cv0 lv
      obtain ⟨G, hG⟩ : ∃ G, G = gk := ⟨_, rfl⟩
      subst hG
      go_wp2_with (go_at_call 82; (with_reducible refine CR1.mono ?_); rintro e w3 ⟨vr, rfl, own, b3⟩; obtain ⟨rb, cr, rfl, hrb, _, hr, _, _⟩ := own_row own HRL1.out n1; have HR3 := hide hr; have HRB := hide hrb; have K3 := hide b3; clear own hr hrb b3)
      have HO3 := hide (HO.out.below K3.out)
      have ZR := hide (show rb ≠ W1.heap.size from by
        have a := HO.out.lt W1.heap.size rfl
        have b := HRB.out
        omega)
      clear CR1 cu1
      go_loopg [28] n (fun r i w4 => ∃ q : Nat, q + r = n ∧ i = .int .i64 (q : Int) ∧ OwnI .i64 2 w4 W1.heap.size (.slice (some ⟨W1.heap.size, 0, none⟩) n n) (dnL I P W n k q) ∧ w3.grownBy w4 (some W1.heap.size))
      case atStart => exact ⟨0, by omega, rfl, HO3.out, grown_refl _ _⟩
      case round =>
        clear HO3
        obtain ⟨q, hq, rfl, ho, hg⟩ := hrel
        have HS := hide ho
        have HG := hide hg
        have HQ := hide hq
        clear ho hg hq
        by_cases hlt2 : q < n
        · have LP := dnL_len I P W n k q
          have c1 := HS.out.cellAt LP hlt2
          have z5 := HS.out.frozenAt LP q
          rw [dnL_at I P W k q hlt2, if_neg (by omega)] at c1
          have cr1 := HR3.out.at (show q < (imRow I y).length by rw [HRL1.out]; exact hlt2)
          rw [Nat.zero_add] at cr1
          have cr1 := cg HG.out (fun e => ZR.out (Option.some.inj e)) cr1
          have iv := HIN.out y q
          obtain ⟨V, hV⟩ : ∃ V, (imRow I y).getD q 0 = V := ⟨_, rfl⟩
          rw [hV] at cr1 iv
          obtain ⟨v0, v1⟩ := iv
          have sb := HSB.out q k (by have := HK.out; omega)
          have sb2 := HSB.out q (k + 1) (by have := HK.out; omega)
          have st : tapS W (rowF I P q) (k + 1) = tapS W (rowF I P q) k + A * V := by
            show tapS W (rowF I P q) k + W.getD k 0 * rowF I P q k = _
            rw [HA.out]
            unfold rowF
            rw [HY.out, hV]
          rw [st] at sb2
          have pr := tap_mul15 (t := A) (f := V) (M := 65535) (by omega) v1
          have pa : absI A * 65535 ≤ 8388608 * 65535 := Int.mul_le_mul_of_nonneg_right (by unfold absI; split <;> omega) (by decide)
          obtain ⟨X, hX⟩ : ∃ X, tapS W (rowF I P q) k = X := ⟨_, rfl⟩
          rw [hX] at c1 st sb sb2
          obtain ⟨PR, hPR⟩ : ∃ PR, A * V = PR := ⟨_, rfl⟩
          rw [hPR] at st sb2 pr
          have E0 : wrap64 V = V := by unfold wrap64; omega
          have E1 : wrap64 (A * V) = PR := by rw [hPR]; unfold wrap64; omega
          have E2 : wrap64 (X + PR) = X + PR := by unfold wrap64; omega
          have ST := HS.out.stored LP q (X + PR)
          rw [dnL_set I P W hlt2 (X + PR) st.symm] at ST
          have H5 := hide (And.intro ST (((HG.out.trans (grown_set wr W1.heap.size q (.int .i64 (X + PR)))).trans (grown_drew _ _))))
          have x1 := cg HG.out (fun e => by have := Option.some.inj e; omega) (cb K3.out (by have := HB.out.size; omega) HX1.out)
          have cv1 := cg HG.out (fun e => by have := Option.some.inj e; have := HLV.out; have := Z1.out; omega) (cb K3.out (cell_ltL HCV.out) HCV.out)
          clear LP ST st sb sb2 pr pa hX hPR hV v0 v1 wb0 wb1
          go_upto_region 8 with fail
          go_region
          all_goals
            go_wp2
            go_roundg (gk - 1)
            case measure => have := HQ.out; omega
            case rel => exact ⟨q + 1, by have := HQ.out; omega, by go_num, H5.out.1.below (bd (Below.refl _ _)), H5.out.2⟩
        · obtain rfl : n = q := by have := HQ.out; omega
          have e := dnL_next I P W n k
          have HS5 := HS.out
          rw [e] at HS5
          have HE := hide HS5
          clear HS5 e hlt2
          go_wp2
          go_roundg (G - 1)
          case measure => have := HK.out; omega
          case rel => exact ⟨k + 1, by have := HK.out; omega, by go_num, HE.out, (bt HB.out K3.out).grown HG.out (by have := HB.out.size; have := K3.out.size; omega) (fun j hj => by have := Option.some.inj hj; omega)⟩
    · obtain rfl : N = k := by have := HK.out; omega
      clear hlt
      go_wp2
      go_ret
      exact ⟨_, rfl, HO.out.mono (by have := Z1.out; omega), bt B1.out HB.out⟩
end Go.Proofs.YtaafhjngnjjcmaaGreatDoor
