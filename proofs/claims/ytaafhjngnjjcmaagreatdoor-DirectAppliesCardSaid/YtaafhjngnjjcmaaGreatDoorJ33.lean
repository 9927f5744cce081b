/- Parts, joined. -/
import Derived.Test.YtaafhjngnjjcmaaGreatDoorJ18
import Derived.Test.YtaafhjngnjjcmaaGreatDoorJ27
import Derived.Test.YtaafhjngnjjcmaaGreatDoorJ32
import Derived.Test.YtaafhjngnjjcmaaGreatDoorJ26
import Derived.Test.YtaafhjngnjjcmaaGreatDoorJ30
import Derived.Test.YtaafhjngnjjcmaaGreatDoorJ06
import Derived.Test.YtaafhjngnjjcmaaGreatDoorJ21
import Derived.Test.YtaafhjngnjjcmaaGreatDoorJ19
import Derived.Test.YtaafhjngnjjcmaaGreatDoorJ22
import Derived.Deep.LoopGhost
import Derived.Deep.RegionHeld3
/- What comes out: what the program's calls are to answer; chains of stages. -/
namespace Go.Proofs.YtaafhjngnjjcmaaGreatDoor
open Go.RowKit


/-- The code of one stage, of several, one behind the other. -/
def stepC (I : Im) (S : Stg) : Int := if suitsF I S = true then (if fitsF (S.lx.length : Int) (S.ly.length : Int) I.ic = true then 0 else 5) else 6
def compCode (I : Im) : List Stg → Int
  | [] => 0
  | S :: r => if stepC I S = 0 then compCode (applyF I S) r else stepC I S
theorem stepC_zero {I : Im} {S : Stg} (h : stepC I S = 0) : suitsF I S = true ∧ fitsF (S.lx.length : Int) (S.ly.length : Int) I.ic = true := by
  unfold stepC at h
  split at h
  · split at h
    · exact ⟨by assumption, by assumption⟩
    · omega
  · omega
theorem stepC_ok {I : Im} {S : Stg} (hI : ImOk I) (h : stepC I S = 0) : ImOk (applyF I S) := apply_ok hI (stepC_zero h).2
/-- A list of stages, read out of a function of places. -/
def stgL (F : Nat → Stg) (n : Nat) : List Stg := (List.range n).map F
theorem stgL_len (F : Nat → Stg) (n : Nat) : (stgL F n).length = n := by unfold stgL; rw [List.length_map, List.length_range]
theorem stgL_snoc (F : Nat → Stg) (n : Nat) : stgL F (n + 1) = stgL F n ++ [F n] := by unfold stgL; rw [List.range_succ, List.map_append]; rfl
theorem compose_snoc (I : Im) (L : List Stg) (S : Stg) : composeF I (L ++ [S]) = applyF (composeF I L) S := by
  induction L generalizing I with
  | nil => rfl
  | cons a r ih => exact ih (applyF I a)
theorem comp_snoc (I : Im) (L : List Stg) (S : Stg) (h : compCode I L = 0) : compCode I (L ++ [S]) = stepC (composeF I L) S := by
  induction L generalizing I with
  | nil =>
    show (if stepC I S = 0 then compCode (applyF I S) [] else stepC I S) = stepC I S
    split
    · rename_i e; rw [e]; rfl
    · rfl
  | cons a r ih =>
    show (if stepC I a = 0 then compCode (applyF I a) (r ++ [S]) else stepC I a) = stepC (composeF (applyF I a) r) S
    have h' : (if stepC I a = 0 then compCode (applyF I a) r else stepC I a) = 0 := h
    by_cases e : stepC I a = 0
    · rw [if_pos e] at h' ⊢
      exact ih (applyF I a) h'
    · rw [if_neg e] at h'
      exact absurd h' e
theorem comp_stays (I : Im) (L M : List Stg) (h : compCode I L ≠ 0) : compCode I (L ++ M) = compCode I L := by
  induction L generalizing I with
  | nil => exact absurd rfl h
  | cons a r ih =>
    show (if stepC I a = 0 then compCode (applyF I a) (r ++ M) else stepC I a) = if stepC I a = 0 then compCode (applyF I a) r else stepC I a
    have h' : (if stepC I a = 0 then compCode (applyF I a) r else stepC I a) ≠ 0 := h
    by_cases e : stepC I a = 0
    · rw [if_pos e] at h' ⊢
      rw [if_pos e]
      exact ih (applyF I a) h'
    · rw [if_neg e, if_neg e]
theorem compose_ok {I : Im} (hI : ImOk I) (L : List Stg) (h : compCode I L = 0) : ImOk (composeF I L) ∧ (composeF I L).ic = I.ic ∧ (composeF I L).it = I.it := by
  induction L generalizing I with
  | nil => exact ⟨hI, rfl, rfl⟩
  | cons a r ih =>
    have h' : (if stepC I a = 0 then compCode (applyF I a) r else stepC I a) = 0 := h
    by_cases e : stepC I a = 0
    · rw [if_pos e] at h'
      obtain ⟨x, y, z⟩ := ih (stepC_ok hI e) h'
      exact ⟨x, y, z⟩
    · rw [if_neg e] at h'
      exact absurd h' e
/-- Of an image of one colour all stages make one of it. -/
theorem compose_flat {I : Im} {v : Int} (hI : ImOk I) (hf : FlatI I v) (v0 : 0 ≤ v) (v1 : v ≤ I.it) (L : List Stg) (h : compCode I L = 0) (h1 : ∀ S ∈ L, (∀ j, j < S.lx.length → (lnAt S.lx j).2.sum = 16384) ∧ ∀ j, j < S.ly.length → (lnAt S.ly j).2.sum = 16384) : FlatI (composeF I L) v := by
  induction L generalizing I with
  | nil => exact hf
  | cons a r ih =>
    have h' : (if stepC I a = 0 then compCode (applyF I a) r else stepC I a) = 0 := h
    by_cases e : stepC I a = 0
    · rw [if_pos e] at h'
      have hs := (stepC_zero e).1
      have one := h1 a (List.mem_cons_self ..)
      exact ih (I := applyF I a) (stepC_ok hI e) (flat_out hI hs hf v0 v1 one.1 one.2) v1 h' (fun S hS => h1 S (List.mem_cons_of_mem _ hS))
    · rw [if_neg e] at h'
      exact absurd h' e
/-- Operations' stages suit, one behind the other, the image that they were asked of. -/
theorem stgs_suit {L : List Opr} {I : Im} (hI : ImOk I) (hz : allCode L I.iw I.ih I.ic = 0) (k : Nat) (hk : k ≤ L.length) : compCode I (stgL (stgAt L I.iw I.ih) k) = 0 ∧ (composeF I (stgL (stgAt L I.iw I.ih) k)).iw = (whAt L I.iw I.ih k).1 ∧ (composeF I (stgL (stgAt L I.iw I.ih) k)).ih = (whAt L I.iw I.ih k).2 := by
  have hf : firstA L I.iw I.ih I.ic L.length = 0 := by
    unfold allCode at hz
    split at hz
    · omega
    · split at hz
      · omega
      · exact hz
  induction k with
  | zero => exact ⟨rfl, rfl, rfl⟩
  | succ k ih =>
    obtain ⟨i1, i2, i3⟩ := ih (by omega)
    have hb := (firstA_back hf (show k < L.length by omega)).2
    have ho : opCode (opAt L k) (whAt L I.iw I.ih k).1 (whAt L I.iw I.ih k).2 = 0 := by
      by_cases g : opCode (opAt L k) (whAt L I.iw I.ih k).1 (whAt L I.iw I.ih k).2 = 0
      · exact g
      · unfold stepCode at hb
        rw [if_pos g] at hb
        exact absurd hb g
    have hfit : fitsF (whAt L I.iw I.ih (k + 1)).1 (whAt L I.iw I.ih (k + 1)).2 I.ic = true := by
      unfold stepCode at hb
      rw [if_neg (by rw [ho]; decide)] at hb
      cases g : fitsF (whAt L I.iw I.ih (k + 1)).1 (whAt L I.iw I.ih (k + 1)).2 I.ic
      · rw [g] at hb
        exact absurd hb (by decide)
      · rfl
    obtain ⟨ok, ic, _⟩ := compose_ok hI _ i1
    have hok := (okO_iff _ _ _).1 (stg_code ho).1
    obtain ⟨_, hbd, hw, hh, hr⟩ := hok
    have hl : ((stgAt L I.iw I.ih k).lx.length : Int) = (whAt L I.iw I.ih (k + 1)).1 ∧ ((stgAt L I.iw I.ih k).ly.length : Int) = (whAt L I.iw I.ih (k + 1)).2 := by
      show ((xLines (opAt L k) _).length : Int) = toW (opAt L k) _ ∧ ((yLines (opAt L k) _).length : Int) = toH (opAt L k) _
      unfold xLines yLines toW toH
      by_cases hk3 : (opAt L k).kd = 3
      · have := hr hk3
        simp only [if_pos hk3, linesTo_len]
        omega
      · simp only [if_neg hk3, filTo_len]
        omega
    have hst : stepC (composeF I (stgL (stgAt L I.iw I.ih) k)) (stgAt L I.iw I.ih k) = 0 := by
      unfold stepC suitsF
      rw [i2, i3, ic, hl.1, hl.2, hfit]
      have e1 : (stgAt L I.iw I.ih k).fx = (whAt L I.iw I.ih k).1 := rfl
      have e2 : (stgAt L I.iw I.ih k).fy = (whAt L I.iw I.ih k).2 := rfl
      have e3 : (stgAt L I.iw I.ih k).sb = (opAt L k).bd := rfl
      rw [e1, e2, e3]
      simp [hbd.1, hbd.2]
    rw [stgL_snoc]
    refine ⟨(comp_snoc _ _ _ i1).trans hst, ?_, ?_⟩
    · rw [compose_snoc]
      exact hl.1
    · rw [compose_snoc]
      exact hl.2
theorem stgs_one {L : List Opr} {w h c : Int} (hz : allCode L w h c = 0) : ∀ S ∈ stgL (stgAt L w h) L.length, (∀ j, j < S.lx.length → (lnAt S.lx j).2.sum = 16384) ∧ ∀ j, j < S.ly.length → (lnAt S.ly j).2.sum = 16384 := by
  have hf : firstA L w h c L.length = 0 := by
    unfold allCode at hz
    split at hz
    · omega
    · split at hz
      · omega
      · exact hz
  intro S hS
  obtain ⟨k, hk, rfl⟩ := List.mem_map.1 hS
  have hk2 := List.mem_range.1 hk
  have hb := (firstA_back hf hk2).2
  refine stg_one ?_
  by_cases g : opCode (opAt L k) (whAt L w h k).1 (whAt L w h k).2 = 0
  · exact g
  · unfold stepCode at hb
    rw [if_pos g] at hb
    exact absurd hb g
/-- What the program's own calls are to answer. -/
structure DirC (K : World → Prop) : Prop where
  suits : ∀ {w : World} {g h : Nat} {I : Im} {x y : Value} {S : Stg}, K w → ImgAt w g h I → Tab w x S.fx S.lx → Tab w y S.fy S.ly → In64 S.sb →
    Calls Tryz.prog 23 #[.pointer (some ⟨g, 0, none⟩), .agg #[x, y, .int .i64 S.sb]] w fun e w' => e = .returned (.bool (suitsF I S)) ∧ Below w.heap.size w w'
  lacks : ∀ {w : World} {g h : Nat} {I : Im}, K w → ImgAt w g h I →
    Calls Tryz.prog 23 #[.pointer (some ⟨g, 0, none⟩), .agg #[.pointer none, .pointer none, .int .i64 0]] w fun e w' => e = .returned (.bool false) ∧ Below w.heap.size w w'
  sum : ∀ {w : World} {g h : Nat} {I : Im} {x y : Value} {S : Stg}, K w → ImgAt w g h I → Tab w x S.fx S.lx → Tab w y S.fy S.ly → In64 S.sb → SmallS S → ∀ i j c : Int, In64 i → In64 j → In64 c →
    Calls Tryz.prog 25 #[.pointer (some ⟨g, 0, none⟩), .agg #[x, y, .int .i64 S.sb], .int .i64 i, .int .i64 j, .int .i64 c] w fun e w' =>
      e = .returned (.int .i64 (if (suitsF I S && inB (S.lx.length : Int) i && inB (S.ly.length : Int) j && inB I.ic c) = true then sumW I S i.toNat j.toNat c else 0)) ∧ Below w.heap.size w w'
  round : ∀ (w : World) (s t : Int), K w → In64 s → In64 t → Calls Tryz.prog 26 #[.int .i64 s, .int .i64 t] w fun e w' => e = .returned (.int .u16 (roundF s t)) ∧ Below w.heap.size w w'
  apply : ∀ {w : World} {g h : Nat} {I : Im} {x y : Value} {S : Stg}, K w → ImgAt w g h I → Tab w x S.fx S.lx → Tab w y S.fy S.ly → In64 S.sb → SmallS S →
    Calls Tryz.prog 16 #[.pointer (some ⟨g, 0, none⟩), .agg #[x, y, .int .i64 S.sb]] w fun e w' =>
      ((stepC I S = 0 ∧ ∃ v, e = .returned (.tuple #[v, .int .i64 0]) ∧ ImgNew w.heap.size w' v (applyF I S)) ∨ (stepC I S ≠ 0 ∧ e = .returned (.tuple #[.pointer none, .int .i64 (stepC I S)]))) ∧ Below w.heap.size w w'
  compose : ∀ {w : World} {g h : Nat} {I : Im} {ad : Option Addr} {n cap : Nat} {F : Nat → Stg}, K w → ImgAt w g h I → StgsAt w ad n F → n ≤ maxLen → (∀ j, j < n → In64 (F j).sb ∧ SmallS (F j)) →
    Calls Tryz.prog 12 #[.pointer (some ⟨g, 0, none⟩), .slice ad n cap] w fun e w' =>
      ((compCode I (stgL F n) = 0 ∧ ∃ v, e = .returned (.tuple #[v, .int .i64 0]) ∧ ImgNew w.heap.size w' v (composeF I (stgL F n))) ∨ (compCode I (stgL F n) ≠ 0 ∧ e = .returned (.tuple #[.pointer none, .int .i64 (compCode I (stgL F n))]))) ∧ Below w.heap.size w w'
end Go.Proofs.YtaafhjngnjjcmaaGreatDoor

/- What comes out: images filled sample by sample; sums out of rows' sums. Plain; no number of the program stands in it. -/
namespace Go.Proofs.YtaafhjngnjjcmaaGreatDoor
open Go.RowKit

theorem row_at15 {I : Im} (hI : ImOk I) {y : Int} (y0 : 0 ≤ y) (y1 : y < I.ih) {k : Nat} (hk : (k : Int) < I.iw * I.ic) : imAt I ((k : Int) / I.ic) y ((k : Int) % I.ic) = (imRow I y).getD k 0 := by
  obtain ⟨r0, r1, r2, r3, _, _⟩ := row_in hI y0 y1
  obtain ⟨a0, a1, b0, b1, hc, _, _, hm, hl, _⟩ := hI
  have c0 : 0 < I.ic := by omega
  have p0 : 0 ≤ (k : Int) / I.ic := Int.ediv_nonneg (by omega) (by omega)
  have p1 : (k : Int) / I.ic < I.iw := Int.ediv_lt_of_lt_mul c0 hk
  have q0 : 0 ≤ (k : Int) % I.ic := Int.emod_nonneg _ (by omega)
  have q1 : (k : Int) % I.ic < I.ic := Int.emod_lt_of_pos _ c0
  have hh : hasF I ((k : Int) / I.ic) y ((k : Int) % I.ic) = true := hasF_iff.2 ⟨p0, p1, y0, y1, q0, q1⟩
  unfold imAt
  rw [if_pos hh]
  have e : imPlace I ((k : Int) / I.ic) y ((k : Int) % I.ic) = y * I.iw * I.ic + k := by
    unfold imPlace placeF
    have := Int.emod_add_ediv_mul (k : Int) I.ic
    rw [Int.add_mul]
    omega
  rw [e]
  unfold imRow
  rw [List.getD_eq_getElem?_getD, List.getD_eq_getElem?_getD, List.getElem?_take, if_pos (by omega), List.getElem?_drop]
  congr 2
  omega
/-- An image so far. -/
def partI (I : Im) (S : Stg) (k : Nat) : Im := ⟨(S.lx.length : Int), (S.ly.length : Int), I.ic, I.it, padZ ((List.range k).map (outF I S)) (S.ly.length * S.lx.length * I.ic.toNat)⟩
theorem part_len (I : Im) (S : Stg) (k : Nat) : ((List.range k).map (outF I S)).length = k := by rw [List.length_map, List.length_range]
theorem part_all (I : Im) (S : Stg) : partI I S (S.ly.length * S.lx.length * I.ic.toNat) = applyF I S := by
  unfold partI applyF
  rw [padZ_full (part_len I S _)]
theorem part_count {I : Im} {S : Stg} (c0 : 0 ≤ I.ic) : ((S.lx.length : Int) * (S.ly.length : Int) * I.ic).toNat = S.ly.length * S.lx.length * I.ic.toNat := by
  obtain ⟨c, hc⟩ := Int.eq_ofNat_of_zero_le c0
  rw [hc, Int.toNat_natCast, ← Int.natCast_mul, ← Int.natCast_mul, Int.toNat_natCast, Nat.mul_comm S.lx.length]
theorem part_zero {I : Im} {S : Stg} (c0 : 0 ≤ I.ic) : (⟨(S.lx.length : Int), (S.ly.length : Int), I.ic, I.it, List.replicate ((S.lx.length : Int) * (S.ly.length : Int) * I.ic).toNat 0⟩ : Im) = partI I S 0 := by
  unfold partI
  rw [part_count c0]
  show _ = Im.mk _ _ _ _ (padZ [] _)
  rw [padZ_nil]
/-- The next sample is set. -/
theorem part_set {I : Im} (hI : ImOk I) {S : Stg} {x y c : Nat} (hx : x < S.lx.length) (hy : y < S.ly.length) (hc : (c : Int) < I.ic) :
    setOk (partI I S ((y * S.lx.length + x) * I.ic.toNat + c)) (x : Int) (y : Int) (c : Int) (outF I S ((y * S.lx.length + x) * I.ic.toNat + c)) = true ∧ imSet (partI I S ((y * S.lx.length + x) * I.ic.toNat + c)) (x : Int) (y : Int) (c : Int) (outF I S ((y * S.lx.length + x) * I.ic.toNat + c)) = partI I S ((y * S.lx.length + x) * I.ic.toNat + c + 1) ∧ (0 ≤ outF I S ((y * S.lx.length + x) * I.ic.toNat + c) ∧ outF I S ((y * S.lx.length + x) * I.ic.toNat + c) ≤ 65535) := by
  obtain ⟨_, _, _, _, hcc, t0, t1, _, _, _⟩ := hI
  obtain ⟨C, hC⟩ : ∃ C : Nat, I.ic = (C : Int) := ⟨I.ic.toNat, by omega⟩
  have hCt : I.ic.toNat = C := by omega
  rw [hCt]
  obtain ⟨k, hk⟩ : ∃ k, (y * S.lx.length + x) * C + c = k := ⟨_, rfl⟩
  rw [hk]
  have hlt : k < S.ly.length * S.lx.length * C := by
    have h1 : y * S.lx.length + x + 1 ≤ S.ly.length * S.lx.length := by
      have := Nat.mul_le_mul_right S.lx.length (show y + 1 ≤ S.ly.length by omega)
      rw [Nat.add_mul, Nat.one_mul] at this
      omega
    have h2 := Nat.mul_le_mul_right C h1
    rw [Nat.add_mul (y * S.lx.length + x), Nat.one_mul] at h2
    omega
  have hv := roundF_in (sumW I S (k / I.ic.toNat % S.lx.length) (k / I.ic.toNat / S.lx.length) ((k % I.ic.toNat : Nat) : Int)) I.it
  rw [mostC_self (by omega) t1] at hv
  have hv : 0 ≤ outF I S k ∧ outF I S k ≤ I.it := hv
  have hs : setOk (partI I S k) (x : Int) (y : Int) (c : Int) (outF I S k) = true := by
    unfold setOk
    rw [Bool.and_eq_true, decide_eq_true_iff]
    refine ⟨hasF_iff.2 ⟨by omega, ?_, by omega, ?_, by omega, ?_⟩, hv.2⟩
    · show (x : Int) < (S.lx.length : Int); omega
    · show (y : Int) < (S.ly.length : Int); omega
    · show (c : Int) < I.ic; omega
  have hp : (imPlace (partI I S k) (x : Int) (y : Int) (c : Int)).toNat = k := by
    unfold imPlace placeF
    show (((y : Int) * (S.lx.length : Int) + (x : Int)) * I.ic + (c : Int)).toNat = k
    rw [hC, ← Int.natCast_mul, ← Int.natCast_add, ← Int.natCast_mul, ← Int.natCast_add, Int.toNat_natCast, hk]
  refine ⟨hs, ?_, hv.1, by omega⟩
  unfold imSet
  rw [if_pos hs, hp]
  unfold partI
  show Im.mk _ _ _ _ ((padZ ((List.range k).map (outF I S)) (S.ly.length * S.lx.length * I.ic.toNat)).set k (outF I S k)) = _
  rw [padZ_set (part_len I S k) (by rw [hCt]; exact hlt), List.range_succ, List.map_append]
  rfl
/-- What comes out of rows' sums is the sum. -/
theorem sum_down {I : Im} (hI : ImOk I) {S : Stg} (hs : suitsF I S = true) {x y c : Nat} (hc : (c : Int) < I.ic) {P W : List Int} {N n : Nat} (hP : P.length = N) (hW : W.length = N) (hn : I.iw * I.ic = (n : Int)) (g : Gath S.sb (lnAt S.ly y).1 I.ih (lnAt S.ly y).2 P W) (lx : -1099511627776 ≤ (lnAt S.lx x).1 ∧ (lnAt S.lx x).1 ≤ 1099511627776 ∧ (lnAt S.lx x).2.length ≤ 1048576) :
    tapS (lnAt S.lx x).2 (fun k => (dnL I P W n N 0).getD ((spanTo S.sb (lnAt S.lx x).1 S.fx (lnAt S.lx x).2.length).getD k 0 * I.ic + (c : Int)).toNat 0) (lnAt S.lx x).2.length = sumF I S x y (c : Int) := by
  obtain ⟨a0, a1, b0, b1, hcc, _, _, _, _, _⟩ := id hI
  have hs' := hs
  unfold suitsF at hs'
  simp only [Bool.and_eq_true, decide_eq_true_eq] at hs'
  obtain ⟨⟨⟨ef, _⟩, s0⟩, s1⟩ := hs'
  unfold sumF cellF
  refine tapS_congr fun i hi => ?_
  have ha := span_at (p := S.sb) (n := S.fx) lx.1 lx.2.1 lx.2.2 hi
  have hr := span_in s0 s1 (by omega) (by omega) lx.1 lx.2.1 lx.2.2 i hi (n := S.fx) (p := S.sb)
  rw [ha] at hr ⊢
  rw [ef] at hr ⊢
  obtain ⟨p, hp⟩ : ∃ p, atF S.sb ((lnAt S.lx x).1 + (i : Int)) I.iw = p := ⟨_, rfl⟩
  rw [hp] at hr ⊢
  obtain ⟨p0, p1⟩ := hr
  have m0 : 0 ≤ p * I.ic := Int.mul_nonneg p0 (by omega)
  have m1 : p * I.ic + I.ic ≤ I.iw * I.ic := by
    have := Int.mul_le_mul_of_nonneg_right (show p + 1 ≤ I.iw by omega) (show (0 : Int) ≤ I.ic by omega)
    rw [Int.add_mul, Int.one_mul] at this
    exact this
  obtain ⟨j, hj⟩ : ∃ j : Nat, p * I.ic + (c : Int) = (j : Int) := ⟨(p * I.ic + (c : Int)).toNat, by omega⟩
  rw [hj, Int.toNat_natCast, dnL_at I P W N 0 (by omega), if_neg (Nat.not_lt_zero _)]
  have e : ∀ q, q < N → rowF I P j q = imAt I p (P.getD q 0) (c : Int) := by
    intro q hq
    obtain ⟨q0, q1⟩ := g.pin q (by rw [hP]; exact hq)
    have r := row_at15 hI q0 q1 (k := j) (by omega)
    unfold rowF
    rw [← r]
    have e1 : (j : Int) / I.ic = p := by rw [← hj, Int.add_comm, Int.add_mul_ediv_right _ _ (by omega), Int.ediv_eq_zero_of_lt (by omega) hc, Int.zero_add]
    have e2 : (j : Int) % I.ic = (c : Int) := by rw [← hj, Int.add_comm, Int.add_mul_emod_self_right, Int.emod_eq_of_lt (by omega) hc]
    rw [e1, e2]
  rw [tapS_congr e]
  have := g.sum (fun b => imAt I p b (c : Int))
  rw [hW] at this
  exact this
theorem place_lt {p a n : Int} {C c : Nat} (_p0 : 0 ≤ p) (p1 : p < a) (hc : c < C) (hn : a * (C : Int) = n) : p * (C : Int) + (c : Int) < n := by
  have := Int.mul_le_mul_of_nonneg_right (show p + 1 ≤ a by omega) (show (0 : Int) ≤ (C : Int) by omega)
  rw [Int.add_mul, Int.one_mul] at this
  omega
end Go.Proofs.YtaafhjngnjjcmaaGreatDoor

/- What comes out: the program's sums of 128 bits. -/
namespace Go.Proofs.YtaafhjngnjjcmaaGreatDoor
open Go.RowKit

/-- The halves of a product of bits, and what signs take off. -/
theorem bits_mul {a c : Int} (a0 : -9223372036854775808 ≤ a) (a1 : a ≤ 9223372036854775807) (c0 : -9223372036854775808 ≤ c) (c1 : c ≤ 9223372036854775807) :
    lo (IntKind.u64.wrap a * IntKind.u64.wrap c) = lo (a * c) ∧ (hi (IntKind.u64.wrap a * IntKind.u64.wrap c) - (if a < 0 then IntKind.u64.wrap c else 0) - (if c < 0 then IntKind.u64.wrap a else 0)) % 18446744073709551616 = hi (a * c) % 18446744073709551616 := by
  have ea : IntKind.u64.wrap a = a + (if a < 0 then 1 else 0) * 18446744073709551616 := by rw [IntKind.wrap_u64]; split <;> omega
  have ec : IntKind.u64.wrap c = c + (if c < 0 then 1 else 0) * 18446744073709551616 := by rw [IntKind.wrap_u64]; split <;> omega
  by_cases ha : a < 0 <;> by_cases hc : c < 0
  all_goals
    simp only [ha, hc, if_true, if_false] at ea ec ⊢
    rw [ea, ec]
    have e : ∀ s t : Int, (a + s * 18446744073709551616) * (c + t * 18446744073709551616) = a * c + (s * c + t * a + s * t * 18446744073709551616) * 18446744073709551616 := by intro s t; grind
    rw [e]
    generalize a * c = p
    unfold lo hi
    omega
/-- The block b holds a sum of 128 bits. -/
def TotAt (w : World) (b : Nat) (X : Int) : Prop :=
  (w.cell? ⟨b, 0, none⟩ = some (.int .u64 (hi X % 18446744073709551616)) ∧ w.frozen? ⟨b, 0, none⟩ = false) ∧ w.cell? ⟨b, 1, none⟩ = some (.int .u64 (lo X)) ∧ w.frozen? ⟨b, 1, none⟩ = false
theorem TotAt.below {w w' : World} {b : Nat} {X : Int} (h : TotAt w b X) (hb : Below w.heap.size w w') : TotAt w' b X := by
  obtain ⟨⟨c0, f0⟩, c1, f1⟩ := h
  have hl := cell_ltL c0
  exact ⟨⟨cb hb hl c0, fb hb hl f0⟩, cb hb hl c1, fb hb hl f1⟩
theorem TotAt.new (w : World) (T : TypeId) : TotAt (w.alloc (.cells #[.int .u64 0, .int .u64 0] T)) w.heap.size 0 := by
  have e0 : hi 0 % 18446744073709551616 = 0 := rfl
  have e1 : lo 0 = 0 := rfl
  unfold TotAt
  rw [e0, e1]
  simp
theorem tot_sum (X P : Int) : (lo X + lo P) % 18446744073709551616 = lo (X + P) ∧ (hi X % 18446744073709551616 + hi P % 18446744073709551616 + (lo X + lo P) / 18446744073709551616) % 18446744073709551616 = hi (X + P) % 18446744073709551616 := by
  unfold lo hi
  omega
theorem mul64_bits (A C H L : Int) (hH : hi (A * C) = H) (hL : lo (A * C) = L) (a0 : 0 ≤ A) (a1 : A < 18446744073709551616) (c0 : 0 ≤ C) (c1 : C < 18446744073709551616) (w : World) :
    Calls Tryz.prog 86 #[.int .u64 A, .int .u64 C] w fun e w' => e = .returned (.tuple #[.int .u64 H, .int .u64 L]) ∧ w = w' := by
  subst hH hL
  exact mul64_int _ _ a0 a1 c0 c1 w
set_option maxHeartbeats 2000000 in
set_option maxRecDepth 100000 in
theorem tot_add (a c : Int) (a0 : -9223372036854775808 ≤ a) (a1 : a ≤ 9223372036854775807) (c0 : -9223372036854775808 ≤ c) (c1 : c ≤ 9223372036854775807) (b : Nat) (X : Int) (w : World) (h : TotAt w b X) :
    Calls Tryz.prog 57 #[.pointer (some ⟨b, 0, none⟩), .int .i64 a, .int .i64 c] w fun e w' => e = .returned (.tuple #[]) ∧ TotAt w' b (X + a * c) ∧ w.grownBy w' (some b) := by
  obtain ⟨e1, e2⟩ := bits_mul a0 a1 c0 c1
  have ua : 0 ≤ IntKind.u64.wrap a ∧ IntKind.u64.wrap a < 18446744073709551616 := by rw [IntKind.wrap_u64]; omega
  have uc : 0 ≤ IntKind.u64.wrap c ∧ IntKind.u64.wrap c < 18446744073709551616 := by rw [IntKind.wrap_u64]; omega
  obtain ⟨A, hA⟩ : ∃ A, IntKind.u64.wrap a = A := ⟨_, rfl⟩
  obtain ⟨C, hC⟩ : ∃ C, IntKind.u64.wrap c = C := ⟨_, rfl⟩
  rw [hA] at ua
  rw [hC] at uc
  rw [hA, hC] at e1 e2
  obtain ⟨ua0, ua1⟩ := ua
  obtain ⟨uc0, uc1⟩ := uc
  obtain ⟨H, hH⟩ : ∃ H, hi (A * C) = H := ⟨_, rfl⟩
  obtain ⟨L, hL⟩ : ∃ L, lo (A * C) = L := ⟨_, rfl⟩
  have CM := fun w => mul64_bits A C H L hH hL ua0 ua1 uc0 uc1 w
  have l0 : 0 ≤ L := by rw [← hL]; exact lo0 _
  have l1 : L < 18446744073709551616 := by rw [← hL]; exact lo1 _
  have h0 : 0 ≤ H ∧ H < 18446744073709551616 := by
    rw [← hH]
    have p0 := Int.mul_nonneg ua0 uc0
    have p1 : A * C ≤ 18446744073709551615 * 18446744073709551615 := Int.mul_le_mul (by omega) (by omega) uc0 (by omega)
    unfold hi
    omega
  obtain ⟨h0, h1⟩ := h0
  rw [hH] at e2
  rw [hL] at e1
  obtain ⟨c0', f0⟩ := h.1
  obtain ⟨c1', f1⟩ := h.2
  obtain ⟨t1, t2⟩ := tot_sum X (a * c)
  rw [← e1] at t1 t2
  have x0 := lo0 X
  have A1 := hide (fun w => add64_law (lo X) L 0 x0 l0 (by omega) (by omega) w)
  have P := hide (show ∀ R1 R2 : Int, R1 = lo (X + a * c) → R2 = hi (X + a * c) % 18446744073709551616 → TotAt ((w.setCell ⟨b, 1, none⟩ (.int .u64 R1)).setCell ⟨b, 0, none⟩ (.int .u64 R2)) b (X + a * c) ∧ w.grownBy ((w.setCell ⟨b, 1, none⟩ (.int .u64 R1)).setCell ⟨b, 0, none⟩ (.int .u64 R2)) (some b) from by
    intro R1 R2 r1 r2
    subst r1 r2
    refine ⟨⟨⟨?_, by simpa using f0⟩, ?_, by simpa using f1⟩, (grown_set w b 1 _).trans (grown_set _ b 0 _)⟩
    · exact World.cell?_setCell_same' _ _ _ (by rw [World.cell?_setCell_other _ _ _ _ (by intro e; simp at e), c0']; rfl)
    · rw [World.cell?_setCell_other _ _ _ _ (by intro e; simp at e)]
      exact World.cell?_setCell_same' _ _ _ (by rw [c1']; rfl))
  have hx0 : 0 ≤ hi X % 18446744073709551616 := by omega
  have hx1 : lo X < 18446744073709551616 := lo1 X
  generalize hi X % 18446744073709551616 = HX at *
  generalize lo X = LX at *
  generalize X + a * c = Y at *
  generalize a * c = PR at *
  clear h e1 hH hL a0 a1 c0 c1
  by_cases ha : a < 0 <;> by_cases hc : c < 0
  all_goals
    simp only [ha, hc, if_true, if_false] at e2
  · obtain ⟨H1, hH1⟩ : ∃ H1, IntKind.u64.wrap (H - C) = H1 := ⟨_, rfl⟩
    have d1 : H1 = (H - C) % 18446744073709551616 := by rw [← hH1, IntKind.wrap_u64]
    obtain ⟨H2, hH2⟩ : ∃ H2, IntKind.u64.wrap (H1 - A) = H2 := ⟨_, rfl⟩
    have d2 : H2 = (H1 - A) % 18446744073709551616 := by rw [← hH2, IntKind.wrap_u64]
    have A2 := hide (fun w => add64_law HX H2 ((LX + L) / 18446744073709551616) hx0 (by omega) (by omega) (by omega) w)
    have F := hide (P.out _ _ t1 (show (HX + H2 + (LX + L) / 18446744073709551616) % 18446744073709551616 = _ by rw [← t2]; omega))
    clear e2 t1 t2 P d1 d2
    go_enter Tryz.func57, Tryz.ntmps57
    go_wp2_with (first | (go_at_call 86; (with_reducible refine (CM _).mono ?_); rintro e w1 ⟨rfl, rfl⟩) | simp only [A1.out] | simp only [A2.out])
    go_end0
    exact ⟨rfl, F.out⟩
  · obtain ⟨H1, hH1⟩ : ∃ H1, IntKind.u64.wrap (H - C) = H1 := ⟨_, rfl⟩
    have d1 : H1 = (H - C) % 18446744073709551616 := by rw [← hH1, IntKind.wrap_u64]
    have A2 := hide (fun w => add64_law HX H1 ((LX + L) / 18446744073709551616) hx0 (by omega) (by omega) (by omega) w)
    have F := hide (P.out _ _ t1 (show (HX + H1 + (LX + L) / 18446744073709551616) % 18446744073709551616 = _ by rw [← t2]; omega))
    clear e2 t1 t2 P d1
    go_enter Tryz.func57, Tryz.ntmps57
    go_wp2_with (first | (go_at_call 86; (with_reducible refine (CM _).mono ?_); rintro e w1 ⟨rfl, rfl⟩) | simp only [A1.out] | simp only [A2.out])
    go_end0
    exact ⟨rfl, F.out⟩
  · obtain ⟨H2, hH2⟩ : ∃ H2, IntKind.u64.wrap (H - A) = H2 := ⟨_, rfl⟩
    have d2 : H2 = (H - A) % 18446744073709551616 := by rw [← hH2, IntKind.wrap_u64]
    have A2 := hide (fun w => add64_law HX H2 ((LX + L) / 18446744073709551616) hx0 (by omega) (by omega) (by omega) w)
    have F := hide (P.out _ _ t1 (show (HX + H2 + (LX + L) / 18446744073709551616) % 18446744073709551616 = _ by rw [← t2]; omega))
    clear e2 t1 t2 P d2
    go_enter Tryz.func57, Tryz.ntmps57
    go_wp2_with (first | (go_at_call 86; (with_reducible refine (CM _).mono ?_); rintro e w1 ⟨rfl, rfl⟩) | simp only [A1.out] | simp only [A2.out])
    go_end0
    exact ⟨rfl, F.out⟩
  · have A2 := hide (fun w => add64_law HX H ((LX + L) / 18446744073709551616) hx0 (by omega) (by omega) (by omega) w)
    have F := hide (P.out _ _ t1 (show (HX + H + (LX + L) / 18446744073709551616) % 18446744073709551616 = _ by rw [← t2]; omega))
    clear e2 t1 t2 P
    go_enter Tryz.func57, Tryz.ntmps57
    go_wp2_with (first | (go_at_call 86; (with_reducible refine (CM _).mono ?_); rintro e w1 ⟨rfl, rfl⟩) | simp only [A1.out] | simp only [A2.out])
    go_end0
    exact ⟨rfl, F.out⟩
theorem tot_held (b : Nat) (X : Int) (w : World) (h : TotAt w b X) (x0 : -9223372036854775808 ≤ X) (x1 : X ≤ 9223372036854775807) :
    Calls Tryz.prog 58 #[.pointer (some ⟨b, 0, none⟩)] w fun e w' => e = .returned (.int .i64 X) ∧ w = w' := by
  obtain ⟨⟨c0, _⟩, c1, _⟩ := h
  by_cases g : 0 ≤ X
  · rw [show hi X % 18446744073709551616 = 0 by unfold hi; omega] at c0
    rw [show lo X = X by unfold lo; omega] at c1
    have e1 : X / 9223372036854775808 = 0 := by omega
    go_enter Tryz.func58, Tryz.ntmps58
    go_wp2
    go_ret
    exact ⟨rfl, rfl⟩
  · rw [show hi X % 18446744073709551616 = 18446744073709551615 by unfold hi; omega] at c0
    rw [show lo X = X + 18446744073709551616 by unfold lo; omega] at c1
    have e0 : IntKind.i64.wrap (X + 18446744073709551616) = X := by rw [IntKind.wrap_i64]; omega
    have e1 : X / 9223372036854775808 = -1 := by omega
    have e2 : wrap64 18446744073709551615 = -1 := by unfold wrap64; omega
    go_enter Tryz.func58, Tryz.ntmps58
    go_wp2
    go_ret
    exact ⟨rfl, rfl⟩
end Go.Proofs.YtaafhjngnjjcmaaGreatDoor

/- What comes out: a line's columns together. -/
namespace Go.Proofs.YtaafhjngnjjcmaaGreatDoor
open Go.RowKit

theorem row_lt {k : IntKind} {w : World} {b off : Nat} {xs : List Int} (h : RowAt k w (some ⟨b, off, none⟩) xs) {j : Nat} (hj : j < xs.length) : b < w.heap.size := cell_ltL (h.at hj)
set_option maxHeartbeats 4000000 in
set_option maxRecDepth 100000 in
theorem line_along (P W T : List Int) (n m : Nat) (hP : P.length = n) (hW : W.length = n) (hT : T.length = m) (pa wa ta : Option Addr) (pc wc tc : Nat) (ch c : Int) (w : World) (rp : RowAt .i64 w pa P) (rw' : RowAt .i64 w wa W) (rt : RowAt .i64 w ta T)
    (n1 : n ≤ 1048576) (m1 : m ≤ 268435456) (c0 : 0 ≤ c) (hch : c < ch) (ch1 : ch ≤ 3) (hp : ∀ k, k < n → 0 ≤ P.getD k 0 ∧ P.getD k 0 * ch + c < (m : Int) ∧ P.getD k 0 ≤ 65536) (sm : SmallT W) (ht : ∀ j, j < m → -549747425280 ≤ T.getD j 0 ∧ T.getD j 0 ≤ 549747425280) :
    Calls Tryz.prog 50 #[.agg #[.slice pa n pc, .slice wa n wc], .slice ta m tc, .int .i64 ch, .int .i64 c] w fun e w' => e = .returned (.int .i64 (tapS W (fun k => T.getD (P.getD k 0 * ch + c).toNat 0) n)) ∧ Below w.heap.size w w' := by
  obtain ⟨F, hF⟩ : ∃ F : Nat → Int, F = fun k => T.getD (P.getD k 0 * ch + c).toNat 0 := ⟨_, rfl⟩
  have hfin : ∀ k, k < n → -549747425280 ≤ F k ∧ F k ≤ 549747425280 := by
    intro k hk
    obtain ⟨p0, p1, _⟩ := hp k hk
    have : 0 ≤ P.getD k 0 * ch := Int.mul_nonneg p0 (by omega)
    rw [hF]
    exact ht _ (by omega)
  have ball : ∀ k, k ≤ n → -4611615649683210240 ≤ tapS W F k ∧ tapS W F k ≤ 4611615649683210240 := fun k hk => small_all sm (by omega) (fun i hi => hfin i (by omega))
  have wall : ∀ k, k < n → -8388608 ≤ W.getD k 0 ∧ W.getD k 0 ≤ 8388608 := by
    intro k hk
    have a := absS_each W (j := k) (n := W.length) (by omega)
    unfold SmallT at sm
    omega
  have HF := hide (fun k => show F k = T.getD (P.getD k 0 * ch + c).toNat 0 by rw [hF])
  rw [← hF]
  have HP := hide hp
  have HN := hide hP
  have HNW := hide hW
  have HM := hide hT
  have HRP := hide rp
  have HRW := hide rw'
  have HRT := hide rt
  have HFI := hide hfin
  have HBA := hide ball
  have HWA := hide wall
  obtain ⟨W0, hW0⟩ : ∃ W0, (w.alloc (.cells #[.slice pa n pc, .slice wa n wc] 92)).alloc (.cells #[.int .u64 0, .int .u64 0] 105) = W0 := ⟨_, rfl⟩
  have B0 := hide (show Below w.heap.size w W0 by rw [← hW0]; exact ba (below1 _ _) _)
  have L0 := hide (show W0.cell? ⟨w.heap.size, 0, none⟩ = some (.slice pa n pc) ∧ W0.cell? ⟨w.heap.size, 1, none⟩ = some (.slice wa n wc) by rw [← hW0]; constructor <;> simp)
  have T0 := hide (show TotAt W0 (w.heap.size + 1) 0 by rw [← hW0]; simpa using TotAt.new (w.alloc (.cells #[.slice pa n pc, .slice wa n wc] 92)) 105)
  have Z0 := hide (show w.heap.size + 1 < W0.heap.size by rw [← hW0]; simp)
  clear hp hP hW hT rp rw' rt hfin ball wall hF sm ht
  go_enter Tryz.func50, Tryz.ntmps50
  go_upto_region 2 with fail
  clear hW0
  obtain ⟨q0, q1⟩ := L0.out
  go_wp2
  go_loopg [15] n (fun r i wr => ∃ k : Nat, k + r = n ∧ i = .int .i64 (k : Int) ∧ TotAt wr (w.heap.size + 1) (tapS W F k) ∧ W0.grownBy wr (some (w.heap.size + 1)))
  case atStart => exact ⟨0, by omega, rfl, T0.out, grown_below (Below.refl _ _) _⟩
  case round =>
    obtain ⟨k, hk, rfl, ht, hg⟩ := hrel
    have HK := hide hk
    have HT := hide ht
    have HG := hide hg
    clear hk ht hg
    have z9 : w.heap.size < w.heap.size + 1 := Nat.lt_succ_self _
    have nS : some w.heap.size ≠ some (w.heap.size + 1) := fun e => by have := Option.some.inj e; omega
    have x0 := cg HG.out nS q0
    have x1 := cg HG.out nS q1
    clear q0 q1
    by_cases hlt : k < n
    · obtain ⟨xb, xo, rfl, cx⟩ := HRP.out.get (show k < P.length by rw [HN.out]; exact hlt)
      obtain ⟨yb, yo, rfl, cy⟩ := HRW.out.get (show k < W.length by rw [HNW.out]; exact hlt)
      obtain ⟨p0, p1, p2⟩ := HP.out k hlt
      have hm0 : 0 ≤ P.getD k 0 * ch := Int.mul_nonneg p0 (by omega)
      have hm1 : P.getD k 0 * ch ≤ 65536 * 3 := Int.mul_le_mul p2 ch1 (by omega) (by omega)
      obtain ⟨J, hJ⟩ : ∃ J : Nat, (P.getD k 0 * ch + c).toNat = J := ⟨_, rfl⟩
      have hJi : P.getD k 0 * ch + c = (J : Int) := by omega
      obtain ⟨zb, zo, rfl, cz⟩ := HRT.out.get (j := J) (by rw [HM.out]; omega)
      have lx := cell_ltL cx
      have ly := cell_ltL cy
      have lz := cell_ltL cz
      have nx : some xb ≠ some (w.heap.size + 1) := fun e => by have := Option.some.inj e; omega
      have ny : some yb ≠ some (w.heap.size + 1) := fun e => by have := Option.some.inj e; omega
      have nz : some zb ≠ some (w.heap.size + 1) := fun e => by have := Option.some.inj e; omega
      have cx := cg HG.out nx (cb B0.out lx cx)
      have cy := cg HG.out ny (cb B0.out ly cy)
      have cz := cg HG.out nz (cb B0.out lz cz)
      have NY := hide ny
      have NZ := hide nz
      have NS := hide nS
      clear nx ny nz nS
      have fk := HF.out k
      rw [hJ] at fk
      have a1 := HWA.out k hlt
      have b1 := HFI.out k hlt
      have hst : tapS W F (k + 1) = tapS W F k + W.getD k 0 * F k := rfl
      rw [← fk] at cz
      have W2 : IntKind.i64.wrap (P.getD k 0 * ch) = P.getD k 0 * ch := IntWalk.i64_in _ (by omega)
      have W3 : IntKind.i64.wrap (P.getD k 0 * ch + c) = (J : Int) := by rw [← hJi]; exact IntWalk.i64_in _ (by omega)
      have hJm : J < m := by omega
      obtain ⟨p, hp⟩ : ∃ p, P.getD k 0 = p := ⟨_, rfl⟩
      obtain ⟨M, hM⟩ : ∃ M, p * ch = M := ⟨_, rfl⟩
      rw [hp] at cx W2 W3
      rw [hM] at W2 W3
      obtain ⟨A, hA⟩ : ∃ A, W.getD k 0 = A := ⟨_, rfl⟩
      rw [hA] at cy a1 hst
      obtain ⟨V, hV⟩ : ∃ V, F k = V := ⟨_, rfl⟩
      rw [hV] at cz b1 hst
      have HST := hide hst
      have CA := fun w' (h : TotAt w' (w.heap.size + 1) (tapS W F k)) => tot_add A V (by omega) (by omega) (by omega) (by omega) (w.heap.size + 1) (tapS W F k) w' h
      obtain ⟨X, hX⟩ : ∃ X, tapS W F k = X := ⟨_, rfl⟩
      rw [hX] at HST CA
      have HT2 := hide HT.out
      rw [hX] at HT2
      clear hp p0 p1 p2 hm0 hm1 hJ hJi fk hst hA hV hX lx ly lz a1 b1
      go_wp2_with fail
      go_region_held3 (fun w' => w'.cell? ⟨w.heap.size, 1, none⟩ = some (.slice (some ⟨yb, yo, none⟩) n wc) ∧ w'.cell? ⟨yb, yo + k, none⟩ = some (.int .i64 A) ∧ w'.cell? ⟨zb, zo + J, none⟩ = some (.int .i64 V)) (first | with_reducible assumption | (with_reducible exact ⟨x1, cy, cz⟩) | (with_reducible exact ⟨s1, s2, s3⟩) | go_keep)
        (first | (go_at_call 57; (with_reducible refine (CA _ (HT2.out.below (by repeat (first | exact Below.refl _ _ | (with_reducible refine bdN ?_ _) | with_reducible refine bd ?_)))).mono ?_); rintro e w5 ⟨rfl, h5, g5⟩; have HT5 := hide h5; have GA : wr.grownBy w5 (some (w.heap.size + 1)) := (grown_below (by repeat (first | exact Below.refl _ _ | (with_reducible refine bdN ?_ _) | with_reducible refine bd ?_)) _).trans g5; have s1 := cg GA NS.out x1; have s2 := cg GA NY.out cy; have s3 := cg GA NZ.out cz; have HG5 := hide (HG.out.trans GA); clear h5 g5 GA))
      go_wp2
      go_roundg (gk - 1)
      case measure => have := HK.out; omega
      case rel => exact ⟨k + 1, by have := HK.out; omega, by go_num, by rw [HST.out]; exact HT5.out, HG5.out⟩
    · obtain rfl : n = k := by have := HK.out; omega
      clear hlt
      have CH := tot_held (w.heap.size + 1) (tapS W F n) wr HT.out (by have := HBA.out n (Nat.le_refl _); omega) (by have := HBA.out n (Nat.le_refl _); omega)
      go_wp2_with (go_at_call 58; (with_reducible refine CH.mono ?_); rintro e w5 ⟨rfl, rfl⟩)
      go_ret
      exact ⟨rfl, B0.out.grown HG.out B0.out.size (fun j hj => by have := Option.some.inj hj; omega)⟩
end Go.Proofs.YtaafhjngnjjcmaaGreatDoor
