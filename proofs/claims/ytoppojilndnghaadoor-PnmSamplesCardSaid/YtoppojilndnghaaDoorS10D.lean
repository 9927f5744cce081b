/- The document's heads: a whole head. -/
import Derived.Test.YtoppojilndnghaaDoorS10C
import Derived.Test.YtoppojilndnghaaDoorS09C
namespace Go.Proofs.YtoppojilndnghaaDoor
open Go.RowKit


/-- What comes out when so many numbers are still to come. -/
def stK (len c : Int) : Nat → (Nat → Int) → List Int → Hd × Int
  | 0, v, r => tailF len c (v 0) (v 1) (v 2) r
  | k + 1, v, r => if (numF r).1 ≠ 0 then (hd0, (numF r).1) else stK len c k (fun i => if i = 2 - k then (numF r).2.1 else v i) (numF r).2.2
theorem stK_body (len c : Int) (v : Nat → Int) (l : List Int) : stK len c 3 v l = bodyF len c l := by
  unfold stK stK stK stK bodyF
  simp
def hdV (h : Hd) : Value := .agg #[.int .i64 h.hc, .int .i64 h.hw, .int .i64 h.hh, .int .i64 h.ht, .int .i64 h.hs]
/-- The array's cells. -/
def Arr3 (w : World) (B : Nat) (v : Nat → Int) : Prop := ∀ i, i < 3 → w.cell? ⟨B, i, none⟩ = some (.int .i64 (v i)) ∧ w.frozen? ⟨B, i, none⟩ = false
theorem Arr3.put {w : World} {B : Nat} {v : Nat → Int} (h : Arr3 w B v) {j : Nat} (hj : j < 3) (x : Int) : Arr3 (w.setCell ⟨B, j, none⟩ (.int .i64 x)) B (fun i => if i = j then x else v i) := by
  intro i hi
  rw [World.frozen?_setCell]
  refine ⟨?_, (h i hi).2⟩
  by_cases e : i = j
  · subst e
    rw [World.cell?_setCell_same' _ _ _ (by rw [(h i hi).1]; rfl)]
    simp
  · rw [World.cell?_setCell_other _ _ _ _ (by intro e'; simp only [Addr.mk.injEq, and_true] at e'; omega), (h i hi).1]
    simp [e]
/-- The result's own cells. -/
def Zero5 (w : World) (B : Nat) : Prop :=
  (w.cell? ⟨B, 0, none⟩ = some (.int .i64 0) ∧ w.cell? ⟨B, 1, none⟩ = some (.int .i64 0) ∧ w.cell? ⟨B, 2, none⟩ = some (.int .i64 0) ∧ w.cell? ⟨B, 3, none⟩ = some (.int .i64 0) ∧ w.cell? ⟨B, 4, none⟩ = some (.int .i64 0)) ∧
  (w.frozen? ⟨B, 0, none⟩ = false ∧ w.frozen? ⟨B, 1, none⟩ = false ∧ w.frozen? ⟨B, 2, none⟩ = false ∧ w.frozen? ⟨B, 3, none⟩ = false ∧ w.frozen? ⟨B, 4, none⟩ = false)
theorem Zero5.grown {w w' : World} {B : Nat} {row : Option Nat} (h : Zero5 w B) (hg : w.grownBy w' row) (hne : some B ≠ row) : Zero5 w' B := by
  obtain ⟨⟨c0, c1, c2, c3, c4⟩, ⟨z0, z1, z2, z3, z4⟩⟩ := h
  exact ⟨⟨cg hg hne c0, cg hg hne c1, cg hg hne c2, cg hg hne c3, cg hg hne c4⟩, ⟨fg hg hne c0 z0, fg hg hne c1 z1, fg hg hne c2 z2, fg hg hne c3 z3, fg hg hne c4 z4⟩⟩
theorem numF_3 {l : List Int} (h : (overF false false l).1 = []) : numF l = (3, 0, []) := by unfold numF; rw [if_pos h]
theorem numF_2 {l u : List Int} {x : Int} (h : (overF false false l).1 = x :: u) (h' : (overF false false l).2 = false ∨ digitF x = false) : numF l = (2, 0, []) := by
  unfold numF
  rw [h, if_neg (by simp), if_neg]
  rintro ⟨a, b⟩
  rcases h' with g | g
  · rw [g] at a; cases a
  · have : digitF x = true := b
    rw [g] at this; cases this
theorem numF_0 {l u : List Int} {x : Int} (h : (overF false false l).1 = x :: u) (h' : (overF false false l).2 = true) (hd : digitF x = true) : numF l = (0, (digitsF 0 (x :: u)).1, (digitsF 0 (x :: u)).2) := by
  unfold numF
  rw [h, if_neg (by simp), if_pos ⟨h', hd⟩]
theorem digits_bound : ∀ (l : List Int) (n : Int), 0 ≤ n → n ≤ 1000000000 → 0 ≤ (digitsF n l).1 ∧ (digitsF n l).1 ≤ 1000000000
  | [], n, a, b => ⟨a, b⟩
  | x :: t, n, a, b => by
    show 0 ≤ (if digitF x = true then digitsF (min (10 * n + (x - 48)) 1000000000) t else (n, x :: t)).1 ∧ (if digitF x = true then digitsF (min (10 * n + (x - 48)) 1000000000) t else (n, x :: t)).1 ≤ 1000000000
    split
    · rename_i h
      have := digitF_iff.1 h
      exact digits_bound t _ (by omega) (by omega)
    · exact ⟨a, b⟩
theorem digits_len : ∀ (l : List Int) (n : Int), (digitsF n l).2.length ≤ l.length
  | [], _ => Nat.le_refl _
  | x :: t, n => by
    show (if digitF x = true then digitsF (min (10 * n + (x - 48)) 1000000000) t else (n, x :: t)).2.length ≤ _
    split
    · have := digits_len t (min (10 * n + (x - 48)) 1000000000)
      rw [List.length_cons]; omega
    · exact Nat.le_refl _
theorem over_len : ∀ (l : List Int) (r s : Bool), (overF r s l).1.length ≤ l.length
  | [], r, s => by rw [over_nil]; exact Nat.le_refl _
  | x :: t, true, s => by
    have := over_len t (decide (x ≠ 10 ∧ x ≠ 13)) true
    rw [List.length_cons]
    exact Nat.le_trans this (Nat.le_succ _)
  | x :: t, false, s => by
    show (if x = 35 then overF true true t else if blankF x = true then overF false true t else (x :: t, s)).1.length ≤ _
    have h1 := over_len t true true
    have h2 := over_len t false true
    rw [List.length_cons]
    split
    · omega
    · split
      · omega
      · exact Nat.le_refl _
set_option maxHeartbeats 4000000 in
set_option maxRecDepth 100000 in
theorem dparse_body (s : ByteArray) (hs : s.size ≤ 1048576) (c : Int) (hc : c = 1 ∨ c = 3) (h2 : 2 ≤ s.size) (g0 : (byt s).getD 0 0 = 80) (g1 : (byt s).getD 1 0 = if c = 3 then 54 else 53) (w : World) :
    Calls Tryd.prog 27 #[.string s] w fun e w' => e = .returned (.tuple #[hdV (bodyF s.size c ((byt s).drop 2)).1, .int .i64 (bodyF s.size c ((byt s).drop 2)).2]) ∧ Below w.heap.size w w' := by
  obtain ⟨K, hK⟩ : ∃ K, bodyF s.size c ((byt s).drop 2) = K := ⟨_, rfl⟩
  rw [hK]
  rw [← stK_body _ _ (fun _ => 0)] at hK
  rw [← byt_cut] at hK
  have HK := hide hK
  clear hK
  obtain ⟨r0, hr0⟩ : ∃ r0, s.extract 2 s.size = r0 := ⟨_, rfl⟩
  rw [hr0] at HK
  have hrl : r0.size ≤ s.size := by
    have := byt_len (s.extract 2 s.size)
    rw [byt_cut, List.length_drop, byt_len, hr0] at this
    omega
  obtain ⟨m, hm⟩ : ∃ m, s.size = m := ⟨_, rfl⟩
  have e0 := byt_at (s := s) (k := 0) (by omega)
  have e1 := byt_at (s := s) (k := 1) (by omega)
  rw [g0] at e0
  rw [g1] at e1
  rw [hm] at hr0 hrl HK hs h2
  clear g0 g1
  rcases hc with rfl | rfl
  · rw [if_neg (by decide)] at e1
    go_enter Tryd.func27, Tryd.ntmps27
    go_wp2
    have A0 : Arr3 ((w.alloc (.cells #[.int .i64 0, .int .i64 0, .int .i64 0, .int .i64 0, .int .i64 0] 56)).alloc (.cells #[.int .i64 0, .int .i64 0, .int .i64 0] 72)) (w.heap.size + 1) (fun _ => 0) := by
      intro i hi
      match i, hi with
      | 0, _ => exact ⟨by simp, by simp⟩
      | 1, _ => exact ⟨by simp, by simp⟩
      | 2, _ => exact ⟨by simp, by simp⟩
    have Z0 : Zero5 ((w.alloc (.cells #[.int .i64 0, .int .i64 0, .int .i64 0, .int .i64 0, .int .i64 0] 56)).alloc (.cells #[.int .i64 0, .int .i64 0, .int .i64 0] 72)) w.heap.size :=
      ⟨⟨by simp, by simp, by simp, by simp, by simp⟩, ⟨by simp, by simp, by simp, by simp, by simp⟩⟩
    have HA0 := hide A0
    have HZ0 := hide Z0
    have HB0 := hide (ba (below1 w (.cells #[.int .i64 0, .int .i64 0, .int .i64 0, .int .i64 0, .int .i64 0] 56)) (.cells #[.int .i64 0, .int .i64 0, .int .i64 0] 72))
    clear A0 Z0
    generalize (w.alloc (.cells #[.int .i64 0, .int .i64 0, .int .i64 0, .int .i64 0, .int .i64 0] 56)).alloc (.cells #[.int .i64 0, .int .i64 0, .int .i64 0] 72) = w1 at *
    obtain ⟨R, hR⟩ : ∃ R, w.heap.size = R := ⟨_, rfl⟩
    have HR := hide hR
    rw [hR] at HA0 HZ0
    simp only [hR]
    clear hR
    have nRB : (R : Nat) ≠ R + 1 := by omega
    go_loopw [5, 34] (fun a b wr => ∃ (j k : Nat) (t : ByteArray) (v : Nat → Int), j + k = 3 ∧ a = .string t ∧ b = .int .i64 (j : Int) ∧ t.size ≤ m ∧ (∀ i, 0 ≤ v i ∧ v i ≤ 1000000000) ∧ Hid (stK m 1 k v (byt t) = K) ∧ Hid (Arr3 wr (R + 1) v) ∧ Hid (Zero5 wr R) ∧ Hid (Below w.heap.size w wr)) (fun _ b _ => 3 - (intOf b).toNat)
    case atStart => exact ⟨0, 3, r0, fun _ => 0, rfl, rfl, rfl, hrl, (fun _ => ⟨by show (0 : Int) ≤ 0; omega, by show (0 : Int) ≤ 1000000000; omega⟩), HK, HA0, HZ0, HB0⟩
    case round =>
      clear HA0 HZ0 HB0 HK
      obtain ⟨j, k, t, v, hjk, rfl, rfl, hts, hv, hst, hA, hZ, hB⟩ := hrel
      have HV := hide hv
      clear hv
      obtain ⟨⟨c0, c1, c2, c3, c4⟩, ⟨z0, z1, z2, z3, z4⟩⟩ := hZ.out
      have CO := fun w => dover_any t w
      have HBB := hB
      have HR0 : w.heap.size ≤ R := Nat.le_of_eq HR.out
      by_cases hlt : j < 3
      · obtain ⟨k, rfl⟩ : ∃ k', k = k' + 1 := ⟨k - 1, by omega⟩
        have h1 := hst.out
        replace h1 : (if (numF (byt t)).1 ≠ 0 then (hd0, (numF (byt t)).1) else stK m 1 k (fun i => if i = 2 - k then (numF (byt t)).2.1 else v i) (numF (byt t)).2.2) = K := h1
        have hol := over_len (byt t) false false
        rw [byt_len] at hol
        obtain ⟨L1, b1, hO⟩ : ∃ L1 b1, overF false false (byt t) = (L1, b1) := ⟨_, _, rfl⟩
        have O1 : (overF false false (byt t)).1 = L1 := by rw [hO]
        have O2 : (overF false false (byt t)).2 = b1 := by rw [hO]
        rw [O1, O2] at CO
        rw [O1] at hol
        cases L1 with
        | nil =>
          rw [numF_3 O1, if_pos (by decide)] at h1
          have HE := hide h1
          clear h1 O1 O2 hO hol
          go_wp2_with (go_at_call 46; (with_reducible refine (CO _).mono ?_); rintro e w2 ⟨t1, rfl, hb1, rfl⟩; have he : t1.toList.isEmpty = true := (by rw [byt_empty, hb1]; rfl))
          exact bodyPost_ret (v := .tuple #[.agg #[.int .i64 0, .int .i64 0, .int .i64 0, .int .i64 0, .int .i64 0], .int .i64 3]) (by simp [results, Tryd.results27, go_sem, c0, c1, c2, c3, c4]) rfl ⟨by rw [← HE.out]; rfl, bs (bs (bs (bs (bs HBB.out (b := R) (o := 0) HR0 (.int .i64 0)) (b := R) (o := 1) HR0 (.int .i64 0)) (b := R) (o := 2) HR0 (.int .i64 0)) (b := R) (o := 3) HR0 (.int .i64 0)) (b := R) (o := 4) HR0 (.int .i64 0)⟩
        | cons x u =>
          by_cases hbad : b1 = false ∨ digitF x = false
          · rw [numF_2 O1 (by rw [O2]; exact hbad), if_pos (by decide)] at h1
            have HE := hide h1
            clear h1 O1 O2 hO hol
            have hbad2 : b1 = false ∨ (b1 = true ∧ x < 48) ∨ (b1 = true ∧ 48 ≤ x ∧ 57 < x) := by
              rcases hbad with g | g
              · exact .inl g
              · cases b1 with
                | false => exact .inl rfl
                | true =>
                  by_cases a : x < 48
                  · exact .inr (.inl ⟨rfl, a⟩)
                  · refine .inr (.inr ⟨rfl, by omega, ?_⟩)
                    by_cases b : 57 < x
                    · exact b
                    · rw [digitF_iff.2 ⟨by omega, by omega⟩] at g; cases g
            clear hbad
            rcases hbad2 with rfl | ⟨rfl, hx1⟩ | ⟨rfl, hx1, hx2⟩
            all_goals
              go_wp2_with (go_at_call 46; (with_reducible refine (CO _).mono ?_); rintro e w2 ⟨t1, rfl, hb1, rfl⟩; have he : t1.toList.isEmpty = false := (by rw [byt_empty, hb1]; rfl); obtain ⟨h0, hx, _⟩ := byt_cons hb1)
              exact bodyPost_ret (v := .tuple #[.agg #[.int .i64 0, .int .i64 0, .int .i64 0, .int .i64 0, .int .i64 0], .int .i64 2]) (by simp [results, Tryd.results27, go_sem, c0, c1, c2, c3, c4]) rfl ⟨by rw [← HE.out]; rfl, bs (bs (bs (bs (bs HBB.out (b := R) (o := 0) HR0 (.int .i64 0)) (b := R) (o := 1) HR0 (.int .i64 0)) (b := R) (o := 2) HR0 (.int .i64 0)) (b := R) (o := 3) HR0 (.int .i64 0)) (b := R) (o := 4) HR0 (.int .i64 0)⟩
          · obtain rfl : b1 = true := by
              cases b1 with
              | true => rfl
              | false => exact absurd (.inl rfl) hbad
            have hd : digitF x = true := by
              cases q : digitF x with
              | true => rfl
              | false => exact absurd (.inr q) hbad
            rw [numF_0 O1 O2 hd, if_neg (by simp)] at h1
            obtain ⟨d0, d1⟩ := digitF_iff.1 hd
            have hbd := digits_bound (x :: u) 0 (by omega) (by omega)
            have hdl := digits_len (x :: u) 0
            obtain ⟨n, r', hdg⟩ : ∃ n r', digitsF 0 (x :: u) = (n, r') := ⟨_, _, rfl⟩
            rw [hdg] at h1 hbd hdl
            replace hbd : 0 ≤ n ∧ n ≤ 1000000000 := hbd
            replace h1 : stK m 1 k (fun i => if i = 2 - k then n else v i) r' = K := h1
            replace hdl : r'.length ≤ (x :: u).length := hdl
            have HE := hide h1
            obtain ⟨q1, q2⟩ := hA.out j hlt
            have HDG := hide hdg
            clear h1 O1 O2 hO hbad hd hdg c0 c1 c2 c3 c4 z0 z1 z2 z3 z4
            go_wp2_with (first
              | (go_at_call 46; (with_reducible refine (CO _).mono ?_); rintro e w2 ⟨t1, rfl, hb1, rfl⟩; have he : t1.toList.isEmpty = false := (by rw [byt_empty, hb1]; rfl); obtain ⟨h0, hx, _⟩ := byt_cons hb1; have CD := fun w => ddigits_any t1 w; rw [hb1, HDG.out] at CD)
              | (go_at_call 47; (with_reducible refine (CD _).mono ?_); rintro e w3 ⟨t2, rfl, hb2, rfl⟩))
            go_roundw
            case rel =>
              have hl2 := byt_len t2
              rw [hb2] at hl2
              have ej : 2 - k = j := by omega
              refine ⟨j + 1, k, t2, _, by omega, rfl, by go_num, by omega, ?_, (by rw [hb2]; exact HE), ?_, hide (hZ.out.grown (grown_set _ (R + 1) j _) (fun e => nRB (Option.some.inj e))), hide (bs hB.out (b := R + 1) (o := j) (by omega) _)⟩
              · intro i
                show 0 ≤ (if i = 2 - k then n else v i) ∧ (if i = 2 - k then n else v i) ≤ 1000000000
                split
                · exact hbd
                · exact HV.out i
              · rw [ej]
                exact hide (hA.out.put hlt n)
            case measure => simp [intOf]; omega
      · obtain rfl : 3 = j := by omega
        obtain rfl : 0 = k := by omega
        have h1 := hst.out
        replace h1 : tailF m 1 (v 0) (v 1) (v 2) (byt t) = K := h1
        obtain ⟨q0, _⟩ := hA.out 0 (by omega)
        obtain ⟨q1, _⟩ := hA.out 1 (by omega)
        obtain ⟨q2, _⟩ := hA.out 2 (by omega)
        obtain ⟨v00, v01⟩ := HV.out 0
        obtain ⟨v10, v11⟩ := HV.out 1
        obtain ⟨v20, v21⟩ := HV.out 2
        have htl := byt_len t
        clear hlt hst hA CO HV hjk
        generalize v 0 = x0 at *
        generalize v 1 = x1 at *
        generalize v 2 = x2 at *
        unfold tailF at h1
        cases hb : byt t with
        | nil =>
          rw [hb, if_pos rfl] at h1
          have HE := hide h1
          have he : t.toList.isEmpty = true := by rw [byt_empty, hb]; rfl
          clear h1 hb
          go_wp2
          exact bodyPost_ret (v := .tuple #[.agg #[.int .i64 0, .int .i64 0, .int .i64 0, .int .i64 0, .int .i64 0], .int .i64 3]) (by simp [results, Tryd.results27, go_sem, c0, c1, c2, c3, c4]) rfl ⟨by rw [← HE.out]; rfl, bs (bs (bs (bs (bs HBB.out (b := R) (o := 0) HR0 (.int .i64 0)) (b := R) (o := 1) HR0 (.int .i64 0)) (b := R) (o := 2) HR0 (.int .i64 0)) (b := R) (o := 3) HR0 (.int .i64 0)) (b := R) (o := 4) HR0 (.int .i64 0)⟩
        | cons x u =>
          rw [hb, if_neg (by simp)] at h1
          have he : t.toList.isEmpty = false := by rw [byt_empty, hb]; rfl
          obtain ⟨h0, hx, _⟩ := byt_cons hb
          have CB := fun w => dblank_any x w
          rw [hb] at htl
          clear hb
          replace h1 : (if blankF x = false then (hd0, 2) else if x0 = 0 ∨ x1 = 0 ∨ x2 = 0 ∨ 65535 < x2 then (hd0, 2) else if fitsF x0 x1 1 = false then (hd0, 5) else (⟨1, x0, x1, x2, (m : Int) - ((x :: u).length : Int) + 1⟩, 0)) = K := h1
          rw [htl] at h1
          cases hbl : blankF x with
          | false =>
            rw [hbl] at CB
            rw [if_pos hbl] at h1
            have HE := hide h1
            clear h1 hbl
            go_wp2_with (go_at_call 48; (with_reducible refine (CB _).mono ?_); rintro e w2 ⟨rfl, rfl⟩)
            exact bodyPost_ret (v := .tuple #[.agg #[.int .i64 0, .int .i64 0, .int .i64 0, .int .i64 0, .int .i64 0], .int .i64 2]) (by simp [results, Tryd.results27, go_sem, c0, c1, c2, c3, c4]) rfl ⟨by rw [← HE.out]; rfl, bs (bs (bs (bs (bs HBB.out (b := R) (o := 0) HR0 (.int .i64 0)) (b := R) (o := 1) HR0 (.int .i64 0)) (b := R) (o := 2) HR0 (.int .i64 0)) (b := R) (o := 3) HR0 (.int .i64 0)) (b := R) (o := 4) HR0 (.int .i64 0)⟩
          | true =>
            rw [hbl] at CB
            rw [if_neg (by rw [hbl]; decide)] at h1
            clear hbl
            by_cases hz : x0 = 0 ∨ x1 = 0 ∨ x2 = 0 ∨ 65535 < x2
            · rw [if_pos hz] at h1
              have HE := hide h1
              have hz2 : x0 = 0 ∨ (1 ≤ x0 ∧ x1 = 0) ∨ (1 ≤ x0 ∧ 1 ≤ x1 ∧ x2 = 0) ∨ (1 ≤ x0 ∧ 1 ≤ x1 ∧ 65535 < x2) := by omega
              clear h1 hz
              rcases hz2 with rfl | ⟨y0, rfl⟩ | ⟨y0, y1, rfl⟩ | ⟨y0, y1, y2⟩
              · go_wp2_with (go_at_call 48; (with_reducible refine (CB _).mono ?_); rintro e w2 ⟨rfl, rfl⟩)
                exact bodyPost_ret (v := .tuple #[.agg #[.int .i64 0, .int .i64 0, .int .i64 0, .int .i64 0, .int .i64 0], .int .i64 2]) (by simp [results, Tryd.results27, go_sem, c0, c1, c2, c3, c4]) rfl ⟨by rw [← HE.out]; rfl, bs (bs (bs (bs (bs HBB.out (b := R) (o := 0) HR0 (.int .i64 0)) (b := R) (o := 1) HR0 (.int .i64 0)) (b := R) (o := 2) HR0 (.int .i64 0)) (b := R) (o := 3) HR0 (.int .i64 0)) (b := R) (o := 4) HR0 (.int .i64 0)⟩
              · have n0 : (x0 == 0) = false := beq_eq_false_iff_ne.2 (by omega)
                go_wp2_with (go_at_call 48; (with_reducible refine (CB _).mono ?_); rintro e w2 ⟨rfl, rfl⟩)
                exact bodyPost_ret (v := .tuple #[.agg #[.int .i64 0, .int .i64 0, .int .i64 0, .int .i64 0, .int .i64 0], .int .i64 2]) (by simp [results, Tryd.results27, go_sem, c0, c1, c2, c3, c4]) rfl ⟨by rw [← HE.out]; rfl, bs (bs (bs (bs (bs HBB.out (b := R) (o := 0) HR0 (.int .i64 0)) (b := R) (o := 1) HR0 (.int .i64 0)) (b := R) (o := 2) HR0 (.int .i64 0)) (b := R) (o := 3) HR0 (.int .i64 0)) (b := R) (o := 4) HR0 (.int .i64 0)⟩
              · have n0 : (x0 == 0) = false := beq_eq_false_iff_ne.2 (by omega)
                have n1 : (x1 == 0) = false := beq_eq_false_iff_ne.2 (by omega)
                go_wp2_with (go_at_call 48; (with_reducible refine (CB _).mono ?_); rintro e w2 ⟨rfl, rfl⟩)
                exact bodyPost_ret (v := .tuple #[.agg #[.int .i64 0, .int .i64 0, .int .i64 0, .int .i64 0, .int .i64 0], .int .i64 2]) (by simp [results, Tryd.results27, go_sem, c0, c1, c2, c3, c4]) rfl ⟨by rw [← HE.out]; rfl, bs (bs (bs (bs (bs HBB.out (b := R) (o := 0) HR0 (.int .i64 0)) (b := R) (o := 1) HR0 (.int .i64 0)) (b := R) (o := 2) HR0 (.int .i64 0)) (b := R) (o := 3) HR0 (.int .i64 0)) (b := R) (o := 4) HR0 (.int .i64 0)⟩
              · have n0 : (x0 == 0) = false := beq_eq_false_iff_ne.2 (by omega)
                have n1 : (x1 == 0) = false := beq_eq_false_iff_ne.2 (by omega)
                have n2 : (x2 == 0) = false := beq_eq_false_iff_ne.2 (by omega)
                go_wp2_with (go_at_call 48; (with_reducible refine (CB _).mono ?_); rintro e w2 ⟨rfl, rfl⟩)
                exact bodyPost_ret (v := .tuple #[.agg #[.int .i64 0, .int .i64 0, .int .i64 0, .int .i64 0, .int .i64 0], .int .i64 2]) (by simp [results, Tryd.results27, go_sem, c0, c1, c2, c3, c4]) rfl ⟨by rw [← HE.out]; rfl, bs (bs (bs (bs (bs HBB.out (b := R) (o := 0) HR0 (.int .i64 0)) (b := R) (o := 1) HR0 (.int .i64 0)) (b := R) (o := 2) HR0 (.int .i64 0)) (b := R) (o := 3) HR0 (.int .i64 0)) (b := R) (o := 4) HR0 (.int .i64 0)⟩
            · rw [if_neg hz] at h1
              have y0 : 1 ≤ x0 := by omega
              have y1 : 1 ≤ x1 := by omega
              have y2 : 1 ≤ x2 := by omega
              have y3 : x2 ≤ 65535 := by omega
              have n0 : (x0 == 0) = false := beq_eq_false_iff_ne.2 (by omega)
              have n1 : (x1 == 0) = false := beq_eq_false_iff_ne.2 (by omega)
              have n2 : (x2 == 0) = false := beq_eq_false_iff_ne.2 (by omega)
              have CF := fun w => dfits_any x0 x1 1 w
              clear hz
              cases hf : fitsF x0 x1 1 with
              | false =>
                rw [hf] at CF
                rw [if_pos hf] at h1
                have HE := hide h1
                clear h1 hf
                go_wp2_with (first
                  | (go_at_call 48; (with_reducible refine (CB _).mono ?_); rintro e w2 ⟨rfl, rfl⟩)
                  | (go_at_call 36; (with_reducible refine (CF _).mono ?_); rintro e w3 ⟨rfl, rfl⟩))
                exact bodyPost_ret (v := .tuple #[.agg #[.int .i64 0, .int .i64 0, .int .i64 0, .int .i64 0, .int .i64 0], .int .i64 5]) (by simp [results, Tryd.results27, go_sem, c0, c1, c2, c3, c4]) rfl ⟨by rw [← HE.out]; rfl, bs (bs (bs (bs (bs HBB.out (b := R) (o := 0) HR0 (.int .i64 0)) (b := R) (o := 1) HR0 (.int .i64 0)) (b := R) (o := 2) HR0 (.int .i64 0)) (b := R) (o := 3) HR0 (.int .i64 0)) (b := R) (o := 4) HR0 (.int .i64 0)⟩
              | true =>
                rw [hf] at CF
                rw [if_neg (by rw [hf]; decide)] at h1
                have HE := hide h1
                clear h1 hf htl
                obtain ⟨tl, htl2⟩ : ∃ tl, t.size = tl := ⟨_, rfl⟩
                rw [htl2] at HE hts
                go_wp2_with (first
                  | (go_at_call 48; (with_reducible refine (CB _).mono ?_); rintro e w2 ⟨rfl, rfl⟩)
                  | (go_at_call 36; (with_reducible refine (CF _).mono ?_); rintro e w3 ⟨rfl, rfl⟩))
                exact bodyPost_ret (v := .tuple #[.agg #[.int .i64 1, .int .i64 x0, .int .i64 x1, .int .i64 x2, .int .i64 ((m : Int) - (tl : Int) + 1)], .int .i64 0]) (by simp [results, Tryd.results27, go_sem, c0, c1, c2, c3, c4]) rfl ⟨by rw [← HE.out]; rfl, bs (bs (bs (bs (bs HBB.out (b := R) (o := 0) HR0 _) (b := R) (o := 1) HR0 _) (b := R) (o := 2) HR0 _) (b := R) (o := 3) HR0 _) (b := R) (o := 4) HR0 _⟩
  · rw [if_pos rfl] at e1
    go_enter Tryd.func27, Tryd.ntmps27
    go_wp2
    have A0 : Arr3 ((w.alloc (.cells #[.int .i64 0, .int .i64 0, .int .i64 0, .int .i64 0, .int .i64 0] 56)).alloc (.cells #[.int .i64 0, .int .i64 0, .int .i64 0] 72)) (w.heap.size + 1) (fun _ => 0) := by
      intro i hi
      match i, hi with
      | 0, _ => exact ⟨by simp, by simp⟩
      | 1, _ => exact ⟨by simp, by simp⟩
      | 2, _ => exact ⟨by simp, by simp⟩
    have Z0 : Zero5 ((w.alloc (.cells #[.int .i64 0, .int .i64 0, .int .i64 0, .int .i64 0, .int .i64 0] 56)).alloc (.cells #[.int .i64 0, .int .i64 0, .int .i64 0] 72)) w.heap.size :=
      ⟨⟨by simp, by simp, by simp, by simp, by simp⟩, ⟨by simp, by simp, by simp, by simp, by simp⟩⟩
    have HA0 := hide A0
    have HZ0 := hide Z0
    have HB0 := hide (ba (below1 w (.cells #[.int .i64 0, .int .i64 0, .int .i64 0, .int .i64 0, .int .i64 0] 56)) (.cells #[.int .i64 0, .int .i64 0, .int .i64 0] 72))
    clear A0 Z0
    generalize (w.alloc (.cells #[.int .i64 0, .int .i64 0, .int .i64 0, .int .i64 0, .int .i64 0] 56)).alloc (.cells #[.int .i64 0, .int .i64 0, .int .i64 0] 72) = w1 at *
    obtain ⟨R, hR⟩ : ∃ R, w.heap.size = R := ⟨_, rfl⟩
    have HR := hide hR
    rw [hR] at HA0 HZ0
    simp only [hR]
    clear hR
    have nRB : (R : Nat) ≠ R + 1 := by omega
    go_loopw [5, 34] (fun a b wr => ∃ (j k : Nat) (t : ByteArray) (v : Nat → Int), j + k = 3 ∧ a = .string t ∧ b = .int .i64 (j : Int) ∧ t.size ≤ m ∧ (∀ i, 0 ≤ v i ∧ v i ≤ 1000000000) ∧ Hid (stK m 3 k v (byt t) = K) ∧ Hid (Arr3 wr (R + 1) v) ∧ Hid (Zero5 wr R) ∧ Hid (Below w.heap.size w wr)) (fun _ b _ => 3 - (intOf b).toNat)
    case atStart => exact ⟨0, 3, r0, fun _ => 0, rfl, rfl, rfl, hrl, (fun _ => ⟨by show (0 : Int) ≤ 0; omega, by show (0 : Int) ≤ 1000000000; omega⟩), HK, HA0, HZ0, HB0⟩
    case round =>
      clear HA0 HZ0 HB0 HK
      obtain ⟨j, k, t, v, hjk, rfl, rfl, hts, hv, hst, hA, hZ, hB⟩ := hrel
      have HV := hide hv
      clear hv
      obtain ⟨⟨c0, c1, c2, c3, c4⟩, ⟨z0, z1, z2, z3, z4⟩⟩ := hZ.out
      have CO := fun w => dover_any t w
      have HBB := hB
      have HR0 : w.heap.size ≤ R := Nat.le_of_eq HR.out
      by_cases hlt : j < 3
      · obtain ⟨k, rfl⟩ : ∃ k', k = k' + 1 := ⟨k - 1, by omega⟩
        have h1 := hst.out
        replace h1 : (if (numF (byt t)).1 ≠ 0 then (hd0, (numF (byt t)).1) else stK m 3 k (fun i => if i = 2 - k then (numF (byt t)).2.1 else v i) (numF (byt t)).2.2) = K := h1
        have hol := over_len (byt t) false false
        rw [byt_len] at hol
        obtain ⟨L1, b1, hO⟩ : ∃ L1 b1, overF false false (byt t) = (L1, b1) := ⟨_, _, rfl⟩
        have O1 : (overF false false (byt t)).1 = L1 := by rw [hO]
        have O2 : (overF false false (byt t)).2 = b1 := by rw [hO]
        rw [O1, O2] at CO
        rw [O1] at hol
        cases L1 with
        | nil =>
          rw [numF_3 O1, if_pos (by decide)] at h1
          have HE := hide h1
          clear h1 O1 O2 hO hol
          go_wp2_with (go_at_call 46; (with_reducible refine (CO _).mono ?_); rintro e w2 ⟨t1, rfl, hb1, rfl⟩; have he : t1.toList.isEmpty = true := (by rw [byt_empty, hb1]; rfl))
          exact bodyPost_ret (v := .tuple #[.agg #[.int .i64 0, .int .i64 0, .int .i64 0, .int .i64 0, .int .i64 0], .int .i64 3]) (by simp [results, Tryd.results27, go_sem, c0, c1, c2, c3, c4]) rfl ⟨by rw [← HE.out]; rfl, bs (bs (bs (bs (bs HBB.out (b := R) (o := 0) HR0 (.int .i64 0)) (b := R) (o := 1) HR0 (.int .i64 0)) (b := R) (o := 2) HR0 (.int .i64 0)) (b := R) (o := 3) HR0 (.int .i64 0)) (b := R) (o := 4) HR0 (.int .i64 0)⟩
        | cons x u =>
          by_cases hbad : b1 = false ∨ digitF x = false
          · rw [numF_2 O1 (by rw [O2]; exact hbad), if_pos (by decide)] at h1
            have HE := hide h1
            clear h1 O1 O2 hO hol
            have hbad2 : b1 = false ∨ (b1 = true ∧ x < 48) ∨ (b1 = true ∧ 48 ≤ x ∧ 57 < x) := by
              rcases hbad with g | g
              · exact .inl g
              · cases b1 with
                | false => exact .inl rfl
                | true =>
                  by_cases a : x < 48
                  · exact .inr (.inl ⟨rfl, a⟩)
                  · refine .inr (.inr ⟨rfl, by omega, ?_⟩)
                    by_cases b : 57 < x
                    · exact b
                    · rw [digitF_iff.2 ⟨by omega, by omega⟩] at g; cases g
            clear hbad
            rcases hbad2 with rfl | ⟨rfl, hx1⟩ | ⟨rfl, hx1, hx2⟩
            all_goals
              go_wp2_with (go_at_call 46; (with_reducible refine (CO _).mono ?_); rintro e w2 ⟨t1, rfl, hb1, rfl⟩; have he : t1.toList.isEmpty = false := (by rw [byt_empty, hb1]; rfl); obtain ⟨h0, hx, _⟩ := byt_cons hb1)
              exact bodyPost_ret (v := .tuple #[.agg #[.int .i64 0, .int .i64 0, .int .i64 0, .int .i64 0, .int .i64 0], .int .i64 2]) (by simp [results, Tryd.results27, go_sem, c0, c1, c2, c3, c4]) rfl ⟨by rw [← HE.out]; rfl, bs (bs (bs (bs (bs HBB.out (b := R) (o := 0) HR0 (.int .i64 0)) (b := R) (o := 1) HR0 (.int .i64 0)) (b := R) (o := 2) HR0 (.int .i64 0)) (b := R) (o := 3) HR0 (.int .i64 0)) (b := R) (o := 4) HR0 (.int .i64 0)⟩
          · obtain rfl : b1 = true := by
              cases b1 with
              | true => rfl
              | false => exact absurd (.inl rfl) hbad
            have hd : digitF x = true := by
              cases q : digitF x with
              | true => rfl
              | false => exact absurd (.inr q) hbad
            rw [numF_0 O1 O2 hd, if_neg (by simp)] at h1
            obtain ⟨d0, d1⟩ := digitF_iff.1 hd
            have hbd := digits_bound (x :: u) 0 (by omega) (by omega)
            have hdl := digits_len (x :: u) 0
            obtain ⟨n, r', hdg⟩ : ∃ n r', digitsF 0 (x :: u) = (n, r') := ⟨_, _, rfl⟩
            rw [hdg] at h1 hbd hdl
            replace hbd : 0 ≤ n ∧ n ≤ 1000000000 := hbd
            replace h1 : stK m 3 k (fun i => if i = 2 - k then n else v i) r' = K := h1
            replace hdl : r'.length ≤ (x :: u).length := hdl
            have HE := hide h1
            obtain ⟨q1, q2⟩ := hA.out j hlt
            have HDG := hide hdg
            clear h1 O1 O2 hO hbad hd hdg c0 c1 c2 c3 c4 z0 z1 z2 z3 z4
            go_wp2_with (first
              | (go_at_call 46; (with_reducible refine (CO _).mono ?_); rintro e w2 ⟨t1, rfl, hb1, rfl⟩; have he : t1.toList.isEmpty = false := (by rw [byt_empty, hb1]; rfl); obtain ⟨h0, hx, _⟩ := byt_cons hb1; have CD := fun w => ddigits_any t1 w; rw [hb1, HDG.out] at CD)
              | (go_at_call 47; (with_reducible refine (CD _).mono ?_); rintro e w3 ⟨t2, rfl, hb2, rfl⟩))
            go_roundw
            case rel =>
              have hl2 := byt_len t2
              rw [hb2] at hl2
              have ej : 2 - k = j := by omega
              refine ⟨j + 1, k, t2, _, by omega, rfl, by go_num, by omega, ?_, (by rw [hb2]; exact HE), ?_, hide (hZ.out.grown (grown_set _ (R + 1) j _) (fun e => nRB (Option.some.inj e))), hide (bs hB.out (b := R + 1) (o := j) (by omega) _)⟩
              · intro i
                show 0 ≤ (if i = 2 - k then n else v i) ∧ (if i = 2 - k then n else v i) ≤ 1000000000
                split
                · exact hbd
                · exact HV.out i
              · rw [ej]
                exact hide (hA.out.put hlt n)
            case measure => simp [intOf]; omega
      · obtain rfl : 3 = j := by omega
        obtain rfl : 0 = k := by omega
        have h1 := hst.out
        replace h1 : tailF m 3 (v 0) (v 1) (v 2) (byt t) = K := h1
        obtain ⟨q0, _⟩ := hA.out 0 (by omega)
        obtain ⟨q1, _⟩ := hA.out 1 (by omega)
        obtain ⟨q2, _⟩ := hA.out 2 (by omega)
        obtain ⟨v00, v01⟩ := HV.out 0
        obtain ⟨v10, v11⟩ := HV.out 1
        obtain ⟨v20, v21⟩ := HV.out 2
        have htl := byt_len t
        clear hlt hst hA CO HV hjk
        generalize v 0 = x0 at *
        generalize v 1 = x1 at *
        generalize v 2 = x2 at *
        unfold tailF at h1
        cases hb : byt t with
        | nil =>
          rw [hb, if_pos rfl] at h1
          have HE := hide h1
          have he : t.toList.isEmpty = true := by rw [byt_empty, hb]; rfl
          clear h1 hb
          go_wp2
          exact bodyPost_ret (v := .tuple #[.agg #[.int .i64 0, .int .i64 0, .int .i64 0, .int .i64 0, .int .i64 0], .int .i64 3]) (by simp [results, Tryd.results27, go_sem, c0, c1, c2, c3, c4]) rfl ⟨by rw [← HE.out]; rfl, bs (bs (bs (bs (bs HBB.out (b := R) (o := 0) HR0 (.int .i64 0)) (b := R) (o := 1) HR0 (.int .i64 0)) (b := R) (o := 2) HR0 (.int .i64 0)) (b := R) (o := 3) HR0 (.int .i64 0)) (b := R) (o := 4) HR0 (.int .i64 0)⟩
        | cons x u =>
          rw [hb, if_neg (by simp)] at h1
          have he : t.toList.isEmpty = false := by rw [byt_empty, hb]; rfl
          obtain ⟨h0, hx, _⟩ := byt_cons hb
          have CB := fun w => dblank_any x w
          rw [hb] at htl
          clear hb
          replace h1 : (if blankF x = false then (hd0, 2) else if x0 = 0 ∨ x1 = 0 ∨ x2 = 0 ∨ 65535 < x2 then (hd0, 2) else if fitsF x0 x1 3 = false then (hd0, 5) else (⟨3, x0, x1, x2, (m : Int) - ((x :: u).length : Int) + 1⟩, 0)) = K := h1
          rw [htl] at h1
          cases hbl : blankF x with
          | false =>
            rw [hbl] at CB
            rw [if_pos hbl] at h1
            have HE := hide h1
            clear h1 hbl
            go_wp2_with (go_at_call 48; (with_reducible refine (CB _).mono ?_); rintro e w2 ⟨rfl, rfl⟩)
            exact bodyPost_ret (v := .tuple #[.agg #[.int .i64 0, .int .i64 0, .int .i64 0, .int .i64 0, .int .i64 0], .int .i64 2]) (by simp [results, Tryd.results27, go_sem, c0, c1, c2, c3, c4]) rfl ⟨by rw [← HE.out]; rfl, bs (bs (bs (bs (bs HBB.out (b := R) (o := 0) HR0 (.int .i64 0)) (b := R) (o := 1) HR0 (.int .i64 0)) (b := R) (o := 2) HR0 (.int .i64 0)) (b := R) (o := 3) HR0 (.int .i64 0)) (b := R) (o := 4) HR0 (.int .i64 0)⟩
          | true =>
            rw [hbl] at CB
            rw [if_neg (by rw [hbl]; decide)] at h1
            clear hbl
            by_cases hz : x0 = 0 ∨ x1 = 0 ∨ x2 = 0 ∨ 65535 < x2
            · rw [if_pos hz] at h1
              have HE := hide h1
              have hz2 : x0 = 0 ∨ (1 ≤ x0 ∧ x1 = 0) ∨ (1 ≤ x0 ∧ 1 ≤ x1 ∧ x2 = 0) ∨ (1 ≤ x0 ∧ 1 ≤ x1 ∧ 65535 < x2) := by omega
              clear h1 hz
              rcases hz2 with rfl | ⟨y0, rfl⟩ | ⟨y0, y1, rfl⟩ | ⟨y0, y1, y2⟩
              · go_wp2_with (go_at_call 48; (with_reducible refine (CB _).mono ?_); rintro e w2 ⟨rfl, rfl⟩)
                exact bodyPost_ret (v := .tuple #[.agg #[.int .i64 0, .int .i64 0, .int .i64 0, .int .i64 0, .int .i64 0], .int .i64 2]) (by simp [results, Tryd.results27, go_sem, c0, c1, c2, c3, c4]) rfl ⟨by rw [← HE.out]; rfl, bs (bs (bs (bs (bs HBB.out (b := R) (o := 0) HR0 (.int .i64 0)) (b := R) (o := 1) HR0 (.int .i64 0)) (b := R) (o := 2) HR0 (.int .i64 0)) (b := R) (o := 3) HR0 (.int .i64 0)) (b := R) (o := 4) HR0 (.int .i64 0)⟩
              · have n0 : (x0 == 0) = false := beq_eq_false_iff_ne.2 (by omega)
                go_wp2_with (go_at_call 48; (with_reducible refine (CB _).mono ?_); rintro e w2 ⟨rfl, rfl⟩)
                exact bodyPost_ret (v := .tuple #[.agg #[.int .i64 0, .int .i64 0, .int .i64 0, .int .i64 0, .int .i64 0], .int .i64 2]) (by simp [results, Tryd.results27, go_sem, c0, c1, c2, c3, c4]) rfl ⟨by rw [← HE.out]; rfl, bs (bs (bs (bs (bs HBB.out (b := R) (o := 0) HR0 (.int .i64 0)) (b := R) (o := 1) HR0 (.int .i64 0)) (b := R) (o := 2) HR0 (.int .i64 0)) (b := R) (o := 3) HR0 (.int .i64 0)) (b := R) (o := 4) HR0 (.int .i64 0)⟩
              · have n0 : (x0 == 0) = false := beq_eq_false_iff_ne.2 (by omega)
                have n1 : (x1 == 0) = false := beq_eq_false_iff_ne.2 (by omega)
                go_wp2_with (go_at_call 48; (with_reducible refine (CB _).mono ?_); rintro e w2 ⟨rfl, rfl⟩)
                exact bodyPost_ret (v := .tuple #[.agg #[.int .i64 0, .int .i64 0, .int .i64 0, .int .i64 0, .int .i64 0], .int .i64 2]) (by simp [results, Tryd.results27, go_sem, c0, c1, c2, c3, c4]) rfl ⟨by rw [← HE.out]; rfl, bs (bs (bs (bs (bs HBB.out (b := R) (o := 0) HR0 (.int .i64 0)) (b := R) (o := 1) HR0 (.int .i64 0)) (b := R) (o := 2) HR0 (.int .i64 0)) (b := R) (o := 3) HR0 (.int .i64 0)) (b := R) (o := 4) HR0 (.int .i64 0)⟩
              · have n0 : (x0 == 0) = false := beq_eq_false_iff_ne.2 (by omega)
                have n1 : (x1 == 0) = false := beq_eq_false_iff_ne.2 (by omega)
                have n2 : (x2 == 0) = false := beq_eq_false_iff_ne.2 (by omega)
                go_wp2_with (go_at_call 48; (with_reducible refine (CB _).mono ?_); rintro e w2 ⟨rfl, rfl⟩)
                exact bodyPost_ret (v := .tuple #[.agg #[.int .i64 0, .int .i64 0, .int .i64 0, .int .i64 0, .int .i64 0], .int .i64 2]) (by simp [results, Tryd.results27, go_sem, c0, c1, c2, c3, c4]) rfl ⟨by rw [← HE.out]; rfl, bs (bs (bs (bs (bs HBB.out (b := R) (o := 0) HR0 (.int .i64 0)) (b := R) (o := 1) HR0 (.int .i64 0)) (b := R) (o := 2) HR0 (.int .i64 0)) (b := R) (o := 3) HR0 (.int .i64 0)) (b := R) (o := 4) HR0 (.int .i64 0)⟩
            · rw [if_neg hz] at h1
              have y0 : 1 ≤ x0 := by omega
              have y1 : 1 ≤ x1 := by omega
              have y2 : 1 ≤ x2 := by omega
              have y3 : x2 ≤ 65535 := by omega
              have n0 : (x0 == 0) = false := beq_eq_false_iff_ne.2 (by omega)
              have n1 : (x1 == 0) = false := beq_eq_false_iff_ne.2 (by omega)
              have n2 : (x2 == 0) = false := beq_eq_false_iff_ne.2 (by omega)
              have CF := fun w => dfits_any x0 x1 3 w
              clear hz
              cases hf : fitsF x0 x1 3 with
              | false =>
                rw [hf] at CF
                rw [if_pos hf] at h1
                have HE := hide h1
                clear h1 hf
                go_wp2_with (first
                  | (go_at_call 48; (with_reducible refine (CB _).mono ?_); rintro e w2 ⟨rfl, rfl⟩)
                  | (go_at_call 36; (with_reducible refine (CF _).mono ?_); rintro e w3 ⟨rfl, rfl⟩))
                exact bodyPost_ret (v := .tuple #[.agg #[.int .i64 0, .int .i64 0, .int .i64 0, .int .i64 0, .int .i64 0], .int .i64 5]) (by simp [results, Tryd.results27, go_sem, c0, c1, c2, c3, c4]) rfl ⟨by rw [← HE.out]; rfl, bs (bs (bs (bs (bs HBB.out (b := R) (o := 0) HR0 (.int .i64 0)) (b := R) (o := 1) HR0 (.int .i64 0)) (b := R) (o := 2) HR0 (.int .i64 0)) (b := R) (o := 3) HR0 (.int .i64 0)) (b := R) (o := 4) HR0 (.int .i64 0)⟩
              | true =>
                rw [hf] at CF
                rw [if_neg (by rw [hf]; decide)] at h1
                have HE := hide h1
                clear h1 hf htl
                obtain ⟨tl, htl2⟩ : ∃ tl, t.size = tl := ⟨_, rfl⟩
                rw [htl2] at HE hts
                go_wp2_with (first
                  | (go_at_call 48; (with_reducible refine (CB _).mono ?_); rintro e w2 ⟨rfl, rfl⟩)
                  | (go_at_call 36; (with_reducible refine (CF _).mono ?_); rintro e w3 ⟨rfl, rfl⟩))
                exact bodyPost_ret (v := .tuple #[.agg #[.int .i64 3, .int .i64 x0, .int .i64 x1, .int .i64 x2, .int .i64 ((m : Int) - (tl : Int) + 1)], .int .i64 0]) (by simp [results, Tryd.results27, go_sem, c0, c1, c2, c3, c4]) rfl ⟨by rw [← HE.out]; rfl, bs (bs (bs (bs (bs HBB.out (b := R) (o := 0) HR0 _) (b := R) (o := 1) HR0 _) (b := R) (o := 2) HR0 _) (b := R) (o := 3) HR0 _) (b := R) (o := 4) HR0 _⟩
end Go.Proofs.YtoppojilndnghaaDoor
