/- Parts, joined. -/
import Derived.Test.YtaafhjngnjjcmaaGreatDoorJ18
import Derived.Test.YtaafhjngnjjcmaaGreatDoorJ25
import Derived.Test.YtaafhjngnjjcmaaGreatDoorJ33
import Derived.Test.YtaafhjngnjjcmaaGreatDoorJ17
import Derived.Test.YtaafhjngnjjcmaaGreatDoorJ38
import Derived.Test.YtaafhjngnjjcmaaGreatDoorJ39
import Derived.Test.YtaafhjngnjjcmaaGreatDoorJ23
import Derived.Test.YtaafhjngnjjcmaaGreatDoorJ12
import Derived.Test.YtaafhjngnjjcmaaGreatDoorJ26
/- Little operations' lines aren't great: each kind's. Plain; no number of the program stands in it. -/
namespace Go.Proofs.YtaafhjngnjjcmaaGreatDoor
open Go.RowKit

/-! ### Kernels, of sides of at most 20 -/
def kernB (k p : Nat) : Bool :=
  decide (-1075000000 ≤ lanczosF (p : Int) (2 * ((k : Int) + 1))) && decide (lanczosF (p : Int) (2 * ((k : Int) + 1)) ≤ 1075000000) && decide (-1075000000 ≤ keysF (p : Int) (2 * ((k : Int) + 1))) && decide (keysF (p : Int) (2 * ((k : Int) + 1)) ≤ 1075000000)
set_option maxRecDepth 100000 in
set_option maxHeartbeats 8000000 in
theorem kern_all : ((List.range 20).all fun k => (List.range (6 * k + 6)).all fun p => kernB k p) = true := by decide +kernel
theorem kern_at {p q : Int} (q0 : 1 ≤ q) (q1 : q ≤ 20) : (-1075000000 ≤ lanczosF p (2 * q) ∧ lanczosF p (2 * q) ≤ 1075000000) ∧ -1075000000 ≤ keysF p (2 * q) ∧ keysF p (2 * q) ≤ 1075000000 := by
  have key : ∀ P : Int, 0 ≤ P → (-1075000000 ≤ lanczosF P (2 * q) ∧ lanczosF P (2 * q) ≤ 1075000000) ∧ -1075000000 ≤ keysF P (2 * q) ∧ keysF P (2 * q) ≤ 1075000000 := by
    intro P P0
    by_cases g : P < 3 * (2 * q)
    · have h := List.all_eq_true.1 kern_all (q - 1).toNat (List.mem_range.2 (by omega))
      have h2 := List.all_eq_true.1 h P.toNat (List.mem_range.2 (by omega))
      unfold kernB at h2
      simp only [Bool.and_eq_true, decide_eq_true_eq] at h2
      rw [show ((P.toNat : Nat) : Int) = P by omega, show (((q - 1).toNat : Nat) : Int) + 1 = q by omega] at h2
      obtain ⟨⟨⟨a, b⟩, c⟩, d⟩ := h2
      exact ⟨⟨a, b⟩, c, d⟩
    · have e1 : lanczosF P (2 * q) = 0 := by unfold lanczosF; rw [if_neg (by omega)]
      have e2 : keysF P (2 * q) = 0 := by unfold keysF; rw [if_neg (by omega)]
      rw [e1, e2]
      omega
  by_cases g : 0 ≤ p
  · exact key p g
  · have := key (-p) (by omega)
    rw [lanczosF_neg, keysF_neg] at this
    exact this
theorem rowI_at {f n m i : Int} {j : Nat} (h : j < (rowI f n m i).length) : (rowI f n m i).getD j 0 = weightR f n m i (startR f n m i + (j : Int)) := by
  rw [rowI_len] at h
  unfold rowI
  rw [List.getD_eq_getElem?_getD, List.getElem?_map, List.getElem?_range h]
  rfl
theorem count_small {f n m i : Int} (hf : f = 1 ∨ f = 2) (n0 : 1 ≤ n) (n1 : n ≤ 20) (m0 : 1 ≤ m) (m1 : m ≤ 20) : countR f n m i ≤ 127 := by
  unfold countR lowW topW
  have s0 : 4 ≤ sprR f n m ∧ sprR f n m ≤ 120 := by
    unfold sprR
    rw [if_neg (by omega)]
    split <;> omega
  generalize sprR f n m = s at *
  generalize cenR n m i = c at *
  have a := Int.mul_ediv_add_emod (c + s - 1) (2 * m)
  have a0 := Int.emod_nonneg (c + s - 1) (show 2 * m ≠ 0 by omega)
  have b := Int.mul_ediv_add_emod (c - s) (2 * m)
  have b0 := Int.emod_lt_of_pos (c - s) (show 0 < 2 * m by omega)
  generalize (c + s - 1) / (2 * m) = A at *
  generalize (c - s) / (2 * m) = B at *
  by_cases g : A - B ≤ 127
  · omega
  · exfalso
    have h := Int.mul_le_mul_of_nonneg_left (show (128 : Int) ≤ A - B by omega) (show 0 ≤ 2 * m by omega)
    rw [Int.mul_sub] at h
    generalize 2 * m * A = x at *
    generalize 2 * m * B = y at *
    omega
theorem small_resize {f n m : Int} (h : resCode f n m = 0) (n1 : n ≤ 20) (m1 : m ≤ 20) : SmallL (linesTo f n m m.toNat) := by
  intro j hj
  rw [linesTo_len] at hj
  have hB : resB f n m = true := by
    cases hb : resB f n m
    · unfold resCode at h
      rw [if_neg (by rw [hb]; decide)] at h
      omega
    · rfl
  obtain ⟨f0, f1, ⟨n0, _⟩, m0, _⟩ := (resB_iff f n m).1 hB
  have e : m = (m.toNat : Int) := by omega
  rw [show lnAt (linesTo f n m m.toNat) j = lineR f n m j from lnAt_map _ hj]
  rw [e] at h hB
  have F := code_line h hB hj
  rw [← e] at F
  show SmallT (appR (rowI f n m j))
  have MP : MayP f n m (j : Int) := ⟨f0, f1, n0, by omega, m0, by omega, by omega, by omega⟩
  by_cases hf : f = 0
  · subst hf
    refine app_small_pos F (fun t ht => ?_)
    rw [rowI_at ht]
    rw [rowI_len] at ht
    exact (box_part n0 (by omega) m0 ((row_win MP).2.2.1 t ht)).2.2.1
  · refine app_small F (fun t ht => ?_) (by rw [rowI_len]; exact count_small (by omega) n0 n1 m0 m1)
    rw [rowI_at ht]
    have K := fun p => kern_at (p := p) (q := max n m) (by omega) (by omega)
    unfold weightR
    rw [if_neg hf, fracQ_max]
    split
    · exact (K _).2
    · exact (K _).1
theorem near_resize {f n m : Int} (h : resCode f n m = 0) : NearL (linesTo f n m m.toNat) := by
  intro j hj
  rw [linesTo_len] at hj
  have hB : resB f n m = true := by
    cases hb : resB f n m
    · unfold resCode at h
      rw [if_neg (by rw [hb]; decide)] at h
      omega
    · rfl
  obtain ⟨f0, f1, ⟨n0, n1⟩, m0, m1⟩ := (resB_iff f n m).1 hB
  have e : m = (m.toNat : Int) := by omega
  rw [show lnAt (linesTo f n m m.toNat) j = lineR f n m j from lnAt_map _ hj]
  rw [e] at h hB
  have F := code_line h hB hj
  rw [← e] at F
  have R := row_ends (f := f) (n := n) (m := m) (i := (j : Int)) ⟨f0, f1, n0, n1, m0, m1, by omega, by omega⟩
  show -1048576 ≤ startR f n m j ∧ startR f n m j + ((appR (rowI f n m j)).length : Int) ≤ 2097152
  rw [(app_facts F).1, rowI_len]
  omega
/-! ### Weights of filters -/
theorem sizeH_ge (l : List Int) : ∀ x ∈ l, absH x ≤ sizeH l := by
  refine snoc_ind (P := fun l => ∀ x ∈ l, absH x ≤ sizeH l) (fun x hx => by cases hx) (fun l y ih x hx => ?_) l
  rw [sizeH_snoc]
  have a := sizeH_in l
  have b : 0 ≤ absH y := by
    have := absI0 y
    unfold absH holdI
    omega
  have b1 : absH y ≤ 9223372036854775807 := holdI1 _
  have c : sizeH l ≤ plusH (sizeH l) (absH y) ∧ absH y ≤ plusH (sizeH l) (absH y) := by
    unfold plusH holdI
    omega
  rcases List.mem_append.1 hx with g | g
  · have := ih x g
    omega
  · rw [List.mem_singleton.1 g]
    exact c.2
theorem userR_in {l : List Int} (s0 : 1 ≤ sizeH l) (s1 : sizeH l ≤ 1048576) : ∀ x ∈ userR l, -1075000000 ≤ x ∧ x ≤ 1075000000 := by
  intro x hx
  obtain ⟨y, hy, rfl⟩ := List.mem_map.1 hx
  have a := sizeH_ge l y hy
  have b : absI y ≤ sizeH l := by
    have := absI0 y
    unfold absH holdI at a
    omega
  have c : -sizeH l ≤ y ∧ y ≤ sizeH l := by unfold absI at b; split at b <;> omega
  generalize sizeH l = s at *
  have := (div_near (X := y * 1073741824) (D := s) (B := 1073741824) (by omega) (by decide) (by omega) (by omega)).2.2
  omega
theorem ones_pos (n : Nat) (h : n ≤ 2000) : ∀ x ∈ userR (List.replicate n 1), 0 ≤ x := by
  intro x hx
  obtain ⟨y, hy, rfl⟩ := List.mem_map.1 hx
  obtain ⟨h0, rfl⟩ := List.mem_replicate.1 hy
  rw [sizeH_ones n h, divF_of (by omega)]
  have := near_in (X := 1 * 1073741824) (d := (n : Int)) (m := 1073741824) (by omega) (by omega) (by omega)
  unfold holdI
  omega
theorem small_fil {xs : List Int} {n : Int} (h : filCode xs n = 0) (hs : Fits xs → SmallT (appR xs)) (k : Nat) : SmallL (filTo xs k) := by
  intro j hj
  rw [filTo_len] at hj
  rw [fil_at hj]
  unfold filCode at h
  split at h
  · split at h
    · omega
    · exact hs (appCode_fits.1 h)
  · omega
theorem near_fil {xs : List Int} {n : Int} (h : filCode xs n = 0) {k : Nat} (hk : k ≤ 65536) : NearL (filTo xs k) := by
  intro j hj
  rw [filTo_len] at hj
  rw [fil_at hj]
  unfold filCode at h
  split at h
  · split at h
    · omega
    · have F := appCode_fits.1 h
      have l1 := F.n1
      show -1048576 ≤ (j : Int) - ((xs.length / 2 : Nat) : Int) ∧ (j : Int) - ((xs.length / 2 : Nat) : Int) + ((appR xs).length : Int) ≤ 2097152
      rw [(app_facts F).1]
      omega
  · omega
theorem gau_small (s : Int) (hF : Fits (gauOut s)) : SmallT (appR (gauOut s)) := by
  refine app_small_pos hF (fun j hj => mem_getD (P := fun x => 0 ≤ x) (fun x hx => ?_) hj)
  unfold gauOut at hx
  split at hx
  · obtain ⟨k, _, rfl⟩ := List.mem_map.1 hx
    exact (gaussF_unit ((k : Int) - radG s) s).1
  · cases hx
theorem blur_small (r : Int) (hF : Fits (blurOut r)) : SmallT (appR (blurOut r)) := by
  refine app_small_pos hF (fun j hj => mem_getD (P := fun x => 0 ≤ x) (fun x hx => ?_) hj)
  unfold blurOut at hx
  split at hx
  · exact ones_pos _ (by omega) x hx
  · cases hx
theorem user_small (l : List Int) (hl : l.length ≤ 40) (hF : Fits (userOut l)) : SmallT (appR (userOut l)) := by
  unfold userOut at hF ⊢
  by_cases h : userB l = true
  · rw [if_pos h] at hF ⊢
    have u := (userB_iff l).1 h
    have v := sizeH_in l
    exact app_small hF (fun j hj => mem_getD (P := fun x => -1075000000 ≤ x ∧ x ≤ 1075000000) (userR_in (by have := u.2.2.1; omega) (by have := u.2.2.2; omega)) hj) (by rw [userR_len]; omega)
  · rw [if_neg h] at hF
    exact absurd hF.n0 (by decide)
/-- Of an operation that isn't great, on sides that aren't, no line is great. -/
theorem stg_small {o : Opr} {w h s : Int} (hz : opCode o w h = 0) (hb : ¬ BigO s o) (s1 : s ≤ 20) (w1 : w ≤ 20) (h1 : h ≤ 20) : SmallS (stgOf o w h) := by
  obtain ⟨hok, hx, hy⟩ := stg_code hz
  obtain ⟨_, _, hw, hh, hr⟩ := (okO_iff _ _ _).1 hok
  unfold BigO at hb
  show SmallL (xLines o w) ∧ SmallL (yLines o h) ∧ NearL (xLines o w)
  unfold xCode at hx
  unfold yCode at hy
  unfold xLines yLines
  by_cases hk : o.kd = 3
  · rw [if_pos hk] at hx hy ⊢
    rw [if_pos hk]
    obtain ⟨a, b, _⟩ := hr hk
    exact ⟨small_resize hx w1 (by omega), small_resize hy h1 (by omega), near_resize hx⟩
  · rw [if_neg hk] at hx hy ⊢
    rw [if_neg hk]
    have hs : (Fits (wX o) → SmallT (appR (wX o))) ∧ (Fits (wY o) → SmallT (appR (wY o))) := by
      unfold wX wY
      by_cases k0 : o.kd = 0
      · rw [if_pos k0, if_pos k0]
        exact ⟨gau_small _, gau_small _⟩
      rw [if_neg k0, if_neg k0]
      by_cases k1 : o.kd = 1
      · rw [if_pos k1, if_pos k1]
        exact ⟨blur_small _, blur_small _⟩
      rw [if_neg k1, if_neg k1]
      exact ⟨user_small _ (by omega), user_small _ (by omega)⟩
    exact ⟨small_fil hx hs.1 _, small_fil hy hs.2 _, near_fil hx (by omega)⟩
end Go.Proofs.YtaafhjngnjjcmaaGreatDoor

/- A stage of tables that leave their sides as they are leaves an image as it is. Plain; no number of the program stands in it. -/
namespace Go.Proofs.YtaafhjngnjjcmaaGreatDoor
open Go.RowKit


def sameS (w h : Nat) (b : Int) : Stg := ⟨sameTo w, sameTo h, (w : Int), (h : Int), b⟩
theorem same_sum {I : Im} {W H : Nat} {b : Int} (hI : ImOk I) (hs : suitsF I (sameS W H b) = true) (hw : I.iw = (W : Int)) (hh : I.ih = (H : Int)) {x y : Nat} (hx : x < W) (hy : y < H) (c : Int) : sumF I (sameS W H b) x y c = imAt I (x : Int) (y : Int) c * 268435456 := by
  unfold suitsF at hs
  simp only [Bool.and_eq_true, decide_eq_true_eq] at hs
  obtain ⟨⟨_, s0⟩, s1⟩ := hs
  obtain ⟨a0, a1, b0, b1, _⟩ := hI
  have ex : lnAt (sameS W H b).lx x = ((x : Int), [16384]) := sameTo_at hx
  have ey : lnAt (sameS W H b).ly y = ((y : Int), [16384]) := sameTo_at hy
  have e0 : cellF I (sameS W H b) x y c 0 0 = imAt I (x : Int) (y : Int) c := by
    unfold cellF
    rw [ex, ey]
    show imAt I (atF b ((x : Int) + ((0 : Nat) : Int)) I.iw) (atF b ((y : Int) + ((0 : Nat) : Int)) I.ih) c = _
    rw [atF_self (p := b) ⟨s0, s1, a0, a1⟩ (by omega) (by omega), atF_self (p := b) ⟨s0, s1, b0, b1⟩ (by omega) (by omega)]
    simp
  unfold sumF
  rw [ex, ey]
  show 0 + 16384 * (0 + 16384 * cellF I (sameS W H b) x y c 0 0) = _
  rw [e0]
  omega
theorem same_out {I : Im} {W H : Nat} {b : Int} (hI : ImOk I) (hs : suitsF I (sameS W H b) = true) (hw : I.iw = (W : Int)) (hh : I.ih = (H : Int)) : applyF I (sameS W H b) = I := by
  have lx : (sameS W H b).lx.length = W := sameTo_len W
  have ly : (sameS W H b).ly.length = H := sameTo_len H
  obtain ⟨a0, a1, b0, b1, hc, t0, t1, m, hl, hall⟩ := id hI
  have C0 : (I.ic.toNat : Int) = I.ic := Int.toNat_of_nonneg (by omega)
  have hlen : I.il.length = H * W * I.ic.toNat := by
    have : (I.il.length : Int) = ((H * W * I.ic.toNat : Nat) : Int) := by
      rw [hl, hw, hh, Int.natCast_mul, Int.natCast_mul, C0, Int.mul_comm (W : Int)]
    omega
  obtain ⟨iw, ih, ic, it, il⟩ := I
  simp only at hw hh hl hall hlen C0 hc t0 t1 a0 a1 b0 b1 m
  unfold applyF
  rw [lx, ly]
  simp only [Im.mk.injEq, true_and]
  refine ⟨hw.symm, hh.symm, ?_⟩
  refine List.ext_getElem (by rw [List.length_map, List.length_range, hlen]) (fun k h1 h2 => ?_)
  rw [List.getElem_map, List.getElem_range]
  have hk : k < H * W * ic.toNat := by rw [← hlen]; exact h2
  have hC : 0 < ic.toNat := by omega
  have q1 : k / ic.toNat < H * W := Nat.div_lt_of_lt_mul (by rw [Nat.mul_comm]; exact hk)
  have hW : 0 < W := by omega
  have q2 : k / ic.toNat / W < H := Nat.div_lt_of_lt_mul (by rw [Nat.mul_comm]; exact q1)
  have q3 := Nat.mod_lt (k / ic.toNat) hW
  have q4 := Nat.mod_lt k hC
  unfold outF
  rw [lx]
  show roundF (sumW ⟨iw, ih, ic, it, il⟩ (sameS W H b) (k / ic.toNat % W) (k / ic.toNat / W) ((k % ic.toNat : Nat) : Int)) it = il[k]
  unfold sumW
  rw [same_sum hI hs hw hh q3 q2]
  have hp : imAt ⟨iw, ih, ic, it, il⟩ ((k / ic.toNat % W : Nat) : Int) ((k / ic.toNat / W : Nat) : Int) ((k % ic.toNat : Nat) : Int) = il[k] := by
    unfold imAt
    rw [if_pos (hasF_iff.2 ⟨Int.natCast_nonneg _, by show _ < iw; rw [hw]; exact Int.ofNat_lt.2 q3, Int.natCast_nonneg _, by show _ < ih; rw [hh]; exact Int.ofNat_lt.2 q2, Int.natCast_nonneg _, by show _ < ic; rw [← C0]; exact Int.ofNat_lt.2 q4⟩)]
    have e : (imPlace ⟨iw, ih, ic, it, il⟩ ((k / ic.toNat % W : Nat) : Int) ((k / ic.toNat / W : Nat) : Int) ((k % ic.toNat : Nat) : Int)).toNat = k := by
      unfold imPlace placeF
      show ((((k / ic.toNat / W : Nat) : Int) * iw + ((k / ic.toNat % W : Nat) : Int)) * ic + ((k % ic.toNat : Nat) : Int)).toNat = k
      have e1 : k / ic.toNat / W * W + k / ic.toNat % W = k / ic.toNat := Nat.div_add_mod' _ _
      have e2 : k / ic.toNat * ic.toNat + k % ic.toNat = k := Nat.div_add_mod' _ _
      generalize ic.toNat = C at *
      rw [hw, ← C0, ← Int.natCast_mul, ← Int.natCast_add, e1, ← Int.natCast_mul, ← Int.natCast_add, Int.toNat_natCast]
      exact e2
    rw [e, List.getD_eq_getElem?_getD, List.getElem?_eq_getElem h2]
    rfl
  rw [hp]
  have := hall il[k] (List.getElem_mem h2)
  exact round_flat this.1 this.2 t1
end Go.Proofs.YtaafhjngnjjcmaaGreatDoor

/- What comes out: what the program's own calls answer; operations' stages. -/
namespace Go.Proofs.YtaafhjngnjjcmaaGreatDoor
open Go.RowKit

theorem dir_sum {w : World} {g h : Nat} {I : Im} {x y : Value} {S : Stg} (hk : OpK w) (H : ImgAt w g h I) (tx : Tab w x S.fx S.lx) (ty : Tab w y S.fy S.ly) (hs : SmallS S) (i j c : Int) (hi : In64 i) (hj : In64 j) :
    Calls Tryz.prog 25 #[.pointer (some ⟨g, 0, none⟩), .agg #[x, y, .int .i64 S.sb], .int .i64 i, .int .i64 j, .int .i64 c] w fun e w' =>
      e = .returned (.int .i64 (if (suitsF I S && inB (S.lx.length : Int) i && inB (S.ly.length : Int) j && inB I.ic c) = true then sumW I S i.toNat j.toNat c else 0)) ∧ Below w.heap.size w w' := by
  cases hz : suitsF I S with
  | false =>
    refine (sum_bad hk H tx ty hz i j c).mono fun e w' ⟨he, hb⟩ => ⟨?_, hb⟩
    rw [he]
    simp
  | true =>
    refine (sum_main hk H tx ty hs hz i j c hi.1 hi.2 hj.1 hj.2).mono fun e w' ⟨he, hb⟩ => ⟨?_, hb⟩
    rw [he]
    cases hc : (inB (S.lx.length : Int) i && inB (S.ly.length : Int) j && inB I.ic c) with
    | false =>
      rw [sumI_out hc, Bool.true_and, if_neg (by rw [hc]; decide)]
    | true =>
      rw [Bool.true_and, if_pos hc, sumW_small H.ok hs, ← sumI_at]
      simp only [Bool.and_eq_true] at hc
      have h1 := of_decide_eq_true hc.1.1
      have h2 := of_decide_eq_true hc.1.2
      rw [Int.toNat_of_nonneg h1.1, Int.toNat_of_nonneg h2.1]
/-- The sizes of what little operations make of little images are little. -/
theorem wh_small {L : List Opr} {w h c : Int} (hz : allCode L w h c = 0) (hb : bigB 12 L L.length = false) (w1 : w ≤ 20) (h1 : h ≤ 20) (k : Nat) (hk : k ≤ L.length) : (whAt L w h k).1 ≤ 20 ∧ (whAt L w h k).2 ≤ 20 := by
  induction k with
  | zero => exact ⟨w1, h1⟩
  | succ k ih =>
    obtain ⟨i1, i2⟩ := ih (by omega)
    have hf : firstA L w h c L.length = 0 := by
      unfold allCode at hz
      split at hz
      · omega
      · split at hz
        · omega
        · exact hz
    have hs := (firstA_back hf (show k < L.length by omega)).2
    have ho : opCode (opAt L k) (whAt L w h k).1 (whAt L w h k).2 = 0 := by
      by_cases g : opCode (opAt L k) (whAt L w h k).1 (whAt L w h k).2 = 0
      · exact g
      · unfold stepCode at hs
        rw [if_pos g] at hs
        exact absurd hs g
    have hok := (okO_iff _ _ _).1 (stg_code ho).1
    obtain ⟨_, _, _, _, hr⟩ := hok
    have nb := bigB_no hb (show k < L.length by omega)
    unfold BigO at nb
    show toW (opAt L k) (whAt L w h k).1 ≤ 20 ∧ toH (opAt L k) (whAt L w h k).2 ≤ 20
    unfold toW toH
    by_cases hk3 : (opAt L k).kd = 3
    · have := hr hk3
      rw [if_pos hk3, if_pos hk3]
      omega
    · rw [if_neg hk3, if_neg hk3]
      exact ⟨i1, i2⟩
theorem stgs_small {L : List Opr} {w h c : Int} (hz : allCode L w h c = 0) (hb : bigB 12 L L.length = false) (w1 : w ≤ 20) (h1 : h ≤ 20) (k : Nat) (hk : k < L.length) : SmallS (stgAt L w h k) ∧ opCode (opAt L k) (whAt L w h k).1 (whAt L w h k).2 = 0 := by
  have hf : firstA L w h c L.length = 0 := by
    unfold allCode at hz
    split at hz
    · omega
    · split at hz
      · omega
      · exact hz
  have hs := (firstA_back hf hk).2
  have ho : opCode (opAt L k) (whAt L w h k).1 (whAt L w h k).2 = 0 := by
    by_cases g : opCode (opAt L k) (whAt L w h k).1 (whAt L w h k).2 = 0
    · exact g
    · unfold stepCode at hs
      rw [if_pos g] at hs
      exact absurd hs g
  obtain ⟨a, b⟩ := wh_small hz hb w1 h1 k (by omega)
  exact ⟨stg_small ho (bigB_no hb hk) (by omega) a b, ho⟩
/-- The tables of equal sides. -/
theorem same_small {W H : Nat} {b : Int} (hW : W ≤ 65536) : SmallS (sameS W H b) := by
  refine ⟨?_, ?_, ?_⟩
  · intro j hj
    have e : lnAt (sameS W H b).lx j = ((j : Int), [16384]) := sameTo_at (show j < W from sameTo_len W ▸ hj)
    rw [e]
    show SmallT [16384]
    unfold SmallT
    decide
  · intro j hj
    have e : lnAt (sameS W H b).ly j = ((j : Int), [16384]) := sameTo_at (show j < H from sameTo_len H ▸ hj)
    rw [e]
    show SmallT [16384]
    unfold SmallT
    decide
  · intro j hj
    have hj' : j < W := by have := sameTo_len W; exact this ▸ hj
    have e : lnAt (sameS W H b).lx j = ((j : Int), [16384]) := sameTo_at hj'
    rw [e]
    show -1048576 ≤ (j : Int) ∧ (j : Int) + (([16384] : List Int).length : Int) ≤ 2097152
    simp
    omega
end Go.Proofs.YtaafhjngnjjcmaaGreatDoor

/- What comes out: the chapter's example; plain. -/
namespace Go.Proofs.YtaafhjngnjjcmaaGreatDoor
open Go.RowKit


def exB2 : Opr := ⟨1, 0, 0, 2, [], [], 0, 0, 0⟩
theorem exB2_code : opCode exB2 1 1 = 0 ∧ (stgOf exB2 1 1).lx.length = 1 ∧ (stgOf exB2 1 1).ly.length = 1 := by decide +kernel
theorem exB2_fits : OpFits exB2 := by
  refine ⟨?_, ?_, ?_, ?_, ?_, ?_, ?_, (fun n hn => by cases hn), (fun n hn => by cases hn), Nat.zero_le _, Nat.zero_le _⟩ <;> (unfold In64 exB2; simp)
def im7 : Im := ⟨1, 1, 1, 255, [7]⟩
theorem im7_ok : ImOk im7 := by
  unfold ImOk im7
  refine ⟨by decide, by decide, by decide, by decide, by decide, by decide, by decide, by decide, by decide, fun x hx => ?_⟩
  obtain rfl : x = 7 := by simpa using hx
  decide
theorem ex15_step : stepC im7 (stgOf exB2 1 1) = 0 := by
  obtain ⟨_, h1, h2⟩ := exB2_code
  unfold stepC
  rw [h1, h2]
  decide
theorem ex15_seven : imAt (applyF im7 (stgOf exB2 1 1)) 0 0 0 = 7 := by
  obtain ⟨h0, h1, h2⟩ := exB2_code
  have one := stg_one h0
  have F := flat_out (v := 7) im7_ok (stepC_zero ex15_step).1 (fun x hx => by simpa [im7] using hx) (by decide) (by decide) one.1 one.2
  have L : (applyF im7 (stgOf exB2 1 1)).il.length = 1 := by
    show ((List.range _).map _).length = 1
    rw [List.length_map, List.length_range, h1, h2]
    rfl
  refine flat_at F (hasF_iff.2 ⟨by decide, ?_, by decide, ?_, by decide, by decide⟩) ?_
  · show (0 : Int) < (((stgOf exB2 1 1).lx.length : Nat) : Int)
    rw [h1]; decide
  · show (0 : Int) < (((stgOf exB2 1 1).ly.length : Nat) : Int)
    rw [h2]; decide
  · rw [L]
    show (placeF (((stgOf exB2 1 1).lx.length : Nat) : Int) 1 0 0 0).toNat < 1
    rw [h1]; decide
end Go.Proofs.YtaafhjngnjjcmaaGreatDoor

/- The document's images, as values; what the statements ask of both. -/
namespace Go.Proofs.YtaafhjngnjjcmaaGreatDoor
open Go.RowKit


/-- The document's image as a value: its samples lie in the block b. -/
def imV (I : Im) (b n cap : Nat) : Value := .agg #[.int .i64 I.iw, .int .i64 I.ih, .int .i64 I.ic, .int .i64 I.it, .slice (some ⟨b, 0, none⟩) n cap]
theorem din_any (I : Im) (s : Value) (x y z : Int) (w : World) : Calls Tryz.prog 85 #[.agg #[.int .i64 I.iw, .int .i64 I.ih, .int .i64 I.ic, .int .i64 I.it, s], .int .i64 x, .int .i64 y, .int .i64 z] w fun e w' => e = .returned (.bool (hasF I x y z)) ∧ Below w.heap.size w w' := by
  obtain ⟨b, hb⟩ : ∃ b, hasF I x y z = b := ⟨_, rfl⟩
  have HB := hide hb
  unfold hasF at hb
  rw [show hasF I x y z = b from HB.out]
  generalize I.iw = a at *
  generalize I.ih = a2 at *
  generalize I.ic = a3 at *
  generalize I.it = a4 at *
  by_cases h0 : 0 ≤ x
  · by_cases h2 : 0 ≤ y
    · by_cases h4 : 0 ≤ z
      · by_cases h1 : x < a
        · by_cases h3 : y < a2
          · by_cases h5 : z < a3
            · obtain rfl : b = true := by rw [← hb]; exact decide_eq_true (by omega)
              clear hb HB
              go_enter Tryz.func85, Tryz.ntmps85
              go_wp2
              go_ret
              exact ⟨rfl, below1 _ _⟩
            · obtain rfl : b = false := by rw [← hb]; exact decide_eq_false (by omega)
              clear hb HB
              go_enter Tryz.func85, Tryz.ntmps85
              go_wp2
              go_ret
              exact ⟨rfl, below1 _ _⟩
          · obtain rfl : b = false := by rw [← hb]; exact decide_eq_false (by omega)
            clear hb HB
            go_enter Tryz.func85, Tryz.ntmps85
            go_wp2
            go_ret
            exact ⟨rfl, below1 _ _⟩
        · obtain rfl : b = false := by rw [← hb]; exact decide_eq_false (by omega)
          clear hb HB
          go_enter Tryz.func85, Tryz.ntmps85
          go_wp2
          go_ret
          exact ⟨rfl, below1 _ _⟩
      · obtain rfl : b = false := by rw [← hb]; exact decide_eq_false (by omega)
        clear hb HB
        go_enter Tryz.func85, Tryz.ntmps85
        go_wp2
        go_ret
        exact ⟨rfl, below1 _ _⟩
    · obtain rfl : b = false := by rw [← hb]; exact decide_eq_false (by omega)
      clear hb HB
      go_enter Tryz.func85, Tryz.ntmps85
      go_wp2
      go_ret
      exact ⟨rfl, below1 _ _⟩
  · obtain rfl : b = false := by rw [← hb]; exact decide_eq_false (by omega)
    clear hb HB
    go_enter Tryz.func85, Tryz.ntmps85
    go_wp2
    go_ret
    exact ⟨rfl, below1 _ _⟩
/-- The bounds of what a place is made of. -/
theorem place_parts {I : Im} (hI : ImOk I) {x y z : Int} (h : hasF I x y z = true) : ∃ k : Nat, y * I.iw * I.ic + x * I.ic + z = (k : Int) ∧ k < I.il.length ∧ (imPlace I x y z).toNat = k ∧ 0 ≤ y * I.iw ∧ y * I.iw ≤ 4294967296 ∧ 0 ≤ y * I.iw * I.ic ∧ y * I.iw * I.ic ≤ 12884901888 ∧ 0 ≤ x * I.ic ∧ x * I.ic ≤ 196608 ∧ 0 ≤ z ∧ z < 3 := by
  obtain ⟨p0, p1, p2, p3⟩ := imPlace_in hI h
  obtain ⟨x0, x1, y0, y1, z0, z1⟩ := hasF_iff.1 h
  obtain ⟨r0, r1, r2, r3, r4, r5⟩ := row_in hI y0 y1
  have e := place_ref I.iw I.ic x y z
  have q0 : 0 ≤ x * I.ic := Int.mul_nonneg x0 (by omega)
  have q1 : x * I.ic ≤ I.iw * I.ic := Int.mul_le_mul_of_nonneg_right (by omega) (by omega)
  obtain ⟨_, _, _, _, hc, _, _, _, hl, _⟩ := hI
  have hl' : (I.il.length : Int) ≤ 268435456 := by omega
  refine ⟨(imPlace I x y z).toNat, ?_, p1, rfl, r4, r5, r2, by omega, q0, by omega, z0, by omega⟩
  rw [e, p2]
  rfl
theorem dat_any (I : Im) (b cap : Nat) (hI : ImOk I) (x y z : Int) (w : World) (hr : RowAt .u16 w (some ⟨b, 0, none⟩) I.il) : Calls Tryz.prog 55 #[imV I b I.il.length cap, .int .i64 x, .int .i64 y, .int .i64 z] w fun e w' => e = .returned (.int .u16 (imAt I x y z)) ∧ Below w.heap.size w w' := by
  unfold imV
  have CI := fun w => din_any I (.slice (some ⟨b, 0, none⟩) I.il.length cap) x y z w
  unfold imAt
  cases hh : hasF I x y z with
  | false =>
    rw [hh] at CI
    rw [if_neg (by decide)]
    clear hr hI hh
    generalize I.iw = a at *
    generalize I.ih = a2 at *
    generalize I.ic = a3 at *
    generalize I.it = a4 at *
    generalize I.il.length = n at *
    go_enter Tryz.func55, Tryz.ntmps55
    go_wp2_with (go_at_call 85; (with_reducible refine (CI _).mono ?_); rintro e w1 ⟨rfl, b1⟩)
    go_ret
    exact ⟨rfl, bt (below1 _ _) b1⟩
  | true =>
    rw [hh] at CI
    rw [if_pos rfl]
    obtain ⟨l0, l1⟩ := imOk_len hI
    obtain ⟨k, e, hk, hp, p0, p1, p2, p3, p4, p5, p6, p7⟩ := place_parts hI hh
    have hc := hr.at hk
    rw [Nat.zero_add] at hc
    rw [hp]
    have hl := cell_ltL hc
    clear hr hI hh hp
    generalize I.il.getD k 0 = u at *
    generalize I.iw = a at *
    generalize I.ih = a2 at *
    generalize I.ic = a3 at *
    generalize I.it = a4 at *
    generalize I.il.length = n at *
    go_enter Tryz.func55, Tryz.ntmps55
    go_wp2_with (go_at_call 85; (with_reducible refine (CI _).mono ?_); rintro e w1 ⟨rfl, b1⟩; have q0 := cb b1 (b := w.heap.size) (o := 0) (v := .int .i64 a) (by simp) (by simp); have q2 := cb b1 (b := w.heap.size) (o := 2) (v := .int .i64 a3) (by simp) (by simp); have q4 := cb b1 (b := w.heap.size) (o := 4) (v := .slice (some ⟨b, 0, none⟩) n cap) (by simp) (by simp); have hc1 := cb b1 (by simp; omega) (cb (below1 w _) hl hc))
    go_ret
    exact ⟨rfl, bt (below1 _ _) b1⟩
end Go.Proofs.YtaafhjngnjjcmaaGreatDoor

/- Pictures that come in (layer 15's Picture, a struct by value with a slice in it): what they are in memory. -/
namespace Go.Proofs.YtaafhjngnjjcmaaGreatDoor
open Go.RowKit


/-- Raw numbers of a picture. -/
structure Pic where
  pw : Int
  ph : Int
  pc : Int
  pm : Int
  pl : List Int
def picV (p : Pic) (ad : Option Addr) (cap : Nat) : Value := .agg #[.int .u16 p.pw, .int .u16 p.ph, .int .u16 p.pc, .int .u16 p.pm, .slice ad p.pl.length cap]
def PicAt (w : World) (p : Pic) (ad : Option Addr) (cap : Nat) : Prop := RowAt .u16 w ad p.pl ∧ (ad = none → cap = 0)
def PicFits (p : Pic) : Prop := (0 ≤ p.pw ∧ p.pw ≤ 65535) ∧ (0 ≤ p.ph ∧ p.ph ≤ 65535) ∧ (0 ≤ p.pc ∧ p.pc ≤ 65535) ∧ (0 ≤ p.pm ∧ p.pm ≤ 65535) ∧ AllK .u16 p.pl ∧ p.pl.length ≤ maxLen
theorem PicAt.below {w w' : World} {p : Pic} {ad : Option Addr} {cap : Nat} (h : PicAt w p ad cap) (hb : Below w.heap.size w w') : PicAt w' p ad cap := ⟨h.1.below hb, h.2⟩
theorem u16_wf {x : Int} (h : (Lit.int .u16 x).wf = true) : 0 ≤ x ∧ x ≤ 65535 := by
  simpa [Lit.wf, IntKind.min, IntKind.max, IntKind.signed, IntKind.bits] using h
theorem rowu_cells {H : Type} {enc : TypeId × Value → H} {w : World} {base : Nat} {held : Bool} {fuel : Nat} {v : Value} {x : DataW H × List MemPlace}
    (h : DataW.trod enc Tryz.prog w base (fun _ => true) held fuel 23 [v] = some x) : ∃ (xs : List Int) (ad : Option Addr) (cap : Nat), v = .slice ad xs.length cap ∧ RowAt .u16 w ad xs ∧ AllK .u16 xs ∧ xs.length ≤ maxLen ∧ (ad = none → cap = 0) := by
  rcases Go.ChangeShapes.open_ints Tryz.underlying23 Tryz.underlying22 (by kernel_rfl) h with ⟨hcs, _⟩ | ⟨x, l, c, zs, hcs, _, hl, hm, hz, _, hcell, hwz⟩
  · obtain rfl : v = .slice none 0 0 := by simpa using hcs
    exact ⟨[], none, 0, rfl, Or.inl rfl, fun n hn => (by cases hn), Nat.zero_le _, fun _ => rfl⟩
  · obtain rfl : v = .slice (some x) l c := by simpa using hcs
    obtain ⟨xs, e, a, b, d, f⟩ := row_open (.inr ⟨x, zs, rfl, hl, hm, by simpa using hz, hcell, hwz⟩)
    subst e
    exact ⟨xs, _, _, rfl, a, b, d, f⟩
set_option maxRecDepth 100000 in
theorem pic_cells {H : Type} {enc : TypeId × Value → H} {w : World} {base : Nat} {held : Bool} {fuel : Nat} {cs : List Value} {x : DataW H × List MemPlace}
    (h : DataW.trod enc Tryz.prog w base (fun _ => true) held fuel 25 cs = some x) (h5 : cs.length = 5) : ∃ (p : Pic) (ad : Option Addr) (cap : Nat),
      cs = [.int .u16 p.pw, .int .u16 p.ph, .int .u16 p.pc, .int .u16 p.pm, .slice ad p.pl.length cap] ∧ PicAt w p ad cap ∧ PicFits p := by
  obtain ⟨ys, n', _, _, hlen, hyl, hf⟩ := DataW.trod_struct Tryz.underlying25 h
  have k1 : Tryz.prog.cellsOf 22 = 1 := by kernel_rfl
  have k2 : Tryz.prog.cellsOf 23 = 1 := by kernel_rfl
  match cs, h5 with
  | [c0, c1, c2, c3, c4], _ =>
    have hy : ys.length = 5 := hyl
    match ys, hy with
    | [y0, y1, y2, y3, y4], _ =>
      have f0 : DataW.trod enc Tryz.prog w base (fun _ => true) held n' 22 (List.take (Tryz.prog.cellsOf 22) (List.drop 0 [c0, c1, c2, c3, c4])) = some y0 := hf 0 _ rfl
      have f1 : DataW.trod enc Tryz.prog w base (fun _ => true) held n' 22 (List.take (Tryz.prog.cellsOf 22) (List.drop 1 [c0, c1, c2, c3, c4])) = some y1 := hf 1 _ rfl
      have f2 : DataW.trod enc Tryz.prog w base (fun _ => true) held n' 22 (List.take (Tryz.prog.cellsOf 22) (List.drop 2 [c0, c1, c2, c3, c4])) = some y2 := hf 2 _ rfl
      have f3 : DataW.trod enc Tryz.prog w base (fun _ => true) held n' 22 (List.take (Tryz.prog.cellsOf 22) (List.drop 3 [c0, c1, c2, c3, c4])) = some y3 := hf 3 _ rfl
      have f4 : DataW.trod enc Tryz.prog w base (fun _ => true) held n' 23 (List.take (Tryz.prog.cellsOf 23) (List.drop 4 [c0, c1, c2, c3, c4])) = some y4 := hf 4 _ rfl
      rw [k1] at f0 f1 f2 f3
      rw [k2] at f4
      obtain ⟨x0, q0, _, w0⟩ := DataW.trod_int Tryz.underlying22 f0
      obtain ⟨x1, q1, _, w1⟩ := DataW.trod_int Tryz.underlying22 f1
      obtain ⟨x2, q2, _, w2⟩ := DataW.trod_int Tryz.underlying22 f2
      obtain ⟨x3, q3, _, w3⟩ := DataW.trod_int Tryz.underlying22 f3
      simp at q0 q1 q2 q3
      subst q0 q1 q2 q3
      obtain ⟨xs, ad, cap, rfl, r4, a4, l4, z4⟩ := rowu_cells f4
      exact ⟨⟨x0, x1, x2, x3, xs⟩, ad, cap, rfl, ⟨r4, z4⟩, u16_wf w0, u16_wf w1, u16_wf w2, u16_wf w3, a4, l4⟩
set_option maxRecDepth 100000 in
theorem pic_open {H : Type} {enc : TypeId × Value → H} {w : World} {r : Reach} {b0 base : Nat} {held : Bool} {v : Value} {d : DataW H} {p : List MemPlace}
    (hv : Value.okWide Tryz.prog w r b0 25 v) (h : DataW.Trod enc Tryz.prog w base (fun _ => true) held 25 v d p) : ∃ (q : Pic) (ad : Option Addr) (cap : Nat), v = picV q ad cap ∧ PicAt w q ad cap ∧ PicFits q := by
  obtain ⟨cs, rfl, hsz⟩ := Go.WideShapes.okWide_struct Tryz.underlying25 hv
  obtain ⟨n, hn⟩ := h
  have hC : Tryz.prog.cellsOf 25 = 5 := by kernel_rfl
  rw [hC] at hsz
  obtain ⟨o, ad, cap, e, a, b⟩ := pic_cells hn (by simpa [Value.cells] using hsz)
  obtain ⟨l⟩ := cs
  simp only [Value.cells] at e
  subst e
  exact ⟨o, ad, cap, rfl, a, b⟩
end Go.Proofs.YtaafhjngnjjcmaaGreatDoor
