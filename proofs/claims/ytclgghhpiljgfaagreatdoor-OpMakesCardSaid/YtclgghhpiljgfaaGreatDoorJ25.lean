/- Parts, joined. -/
import Derived.Test.YtclgghhpiljgfaaGreatDoorJ18
import Derived.Test.YtclgghhpiljgfaaGreatDoorJ22
import Derived.Test.YtclgghhpiljgfaaGreatDoorJ05
import Derived.Test.YtclgghhpiljgfaaGreatDoorJ23
import Derived.Shelf.SlSortCmp.Insertion
import Derived.Sort.Statements
import Derived.Shelf.SlSortCmp.Kit1
import Derived.Deep.RegionHeld3
/- Weights that come to one: places sorted by their rests, and what is given to the first of them. -/
namespace Go.Proofs.YtclgghhpiljgfaaGreatDoor
open Go.RowKit


/-- 'cmp.Or' of two numbers. -/
def orI (a b : Int) : Int := if a = 0 then b else a
/-- How the program compares two places: the greater rest first, then the lesser place. -/
def cfR (r : List Int) (n : Nat) (x y : Fin n) : Int := orI (Lib.compareInt (r.getD y.val 0) (r.getD x.val 0)) (Lib.compareInt (x.val : Int) (y.val : Int))
theorem cmp_lt (x y : Int) : (Lib.compareInt x y < 0 ↔ x < y) ∧ (Lib.compareInt x y = 0 ↔ x = y) := by
  unfold Lib.compareInt
  by_cases h : x < y
  · rw [if_pos h]; omega
  · rw [if_neg h]
    by_cases g : x > y
    · rw [if_pos g]; omega
    · rw [if_neg g]; omega
theorem cfR_lt (r : List Int) (n : Nat) (x y : Fin n) : ltOf (cfR r n) x y = decide (r.getD y.val 0 < r.getD x.val 0 ∨ (r.getD y.val 0 = r.getD x.val 0 ∧ x.val < y.val)) := by
  unfold ltOf cfR orI
  obtain ⟨a, b⟩ := cmp_lt (r.getD y.val 0) (r.getD x.val 0)
  obtain ⟨c, d⟩ := cmp_lt (x.val : Int) (y.val : Int)
  rw [decide_eq_decide]
  by_cases h : Lib.compareInt (r.getD y.val 0) (r.getD x.val 0) = 0
  · rw [if_pos h]; omega
  · rw [if_neg h]; omega
theorem cfR_swo (r : List Int) (n : Nat) : Sort.SWO (ltOf (cfR r n)) where
  irrefl x := by rw [cfR_lt]; simp
  trans x y z h1 h2 := by rw [cfR_lt] at *; simp only [decide_eq_true_eq] at *; omega
  ntrans x y z h1 h2 := by rw [cfR_lt] at *; simp only [decide_eq_false_iff_not] at *; omega
/-- Places in the order in which what lacks is given. -/
structure Ranked (r : List Int) (p : List Nat) : Prop where
  len : p.length = r.length
  lt : ∀ k, k < p.length → p.getD k 0 < r.length
  all : ∀ j, j < r.length → ∃ k, k < p.length ∧ p.getD k 0 = j
  one : ∀ i k, i < p.length → k < p.length → p.getD i 0 = p.getD k 0 → i = k
  order : ∀ i k, i < k → k < p.length → r.getD (p.getD k 0) 0 < r.getD (p.getD i 0) 0 ∨ (r.getD (p.getD k 0) 0 = r.getD (p.getD i 0) 0 ∧ p.getD i 0 < p.getD k 0)
/-- One more, at each of the first places. -/
def bumpN (o : List Int) (p : List Nat) : Nat → List Int
  | 0 => o
  | m + 1 => (bumpN o p m).set (p.getD m 0) ((bumpN o p m).getD (p.getD m 0) 0 + 1)
theorem bumpN_len (o : List Int) (p : List Nat) (m : Nat) : (bumpN o p m).length = o.length := by
  induction m with
  | zero => rfl
  | succ m ih => unfold bumpN; rw [List.length_set]; exact ih
theorem bumpN_give {o r : List Int} {p : List Nat} (hp : Ranked r p) (hr : ∀ j, j < r.length → 0 ≤ r.getD j 0) (hl : o.length = r.length) (m : Nat) (hm : m ≤ r.length) :
    bumpN o p m = (giveN o r m).1 ∧ (∀ k, k < r.length → (giveN o r m).2.getD (p.getD k 0) 0 = if k < m then -1 else r.getD (p.getD k 0) 0) := by
  induction m with
  | zero => exact ⟨rfl, fun k _ => by rw [if_neg (by omega)]; rfl⟩
  | succ m ih =>
    obtain ⟨e1, e2⟩ := ih (by omega)
    obtain ⟨l1, l2⟩ := giveN_len o r m
    obtain ⟨pl, plt, pall, pone, pord⟩ := hp
    have hb : bestTo (giveN o r m).2 (giveN o r m).2.length = p.getD m 0 := by
      have bl := bestTo_lt (giveN o r m).2 (giveN o r m).2.length
      have bm := bestTo_max (giveN o r m).2 (giveN o r m).2.length
      have bf := bestTo_first (giveN o r m).2 (giveN o r m).2.length
      rw [l2] at bl bm bf ⊢
      generalize bestTo (giveN o r m).2 r.length = b at *
      have vm := e2 m (by omega)
      rw [if_neg (by omega)] at vm
      have pm := plt m (by omega)
      have h0 := hr _ pm
      have mx := bm _ pm
      obtain ⟨k, k1, k2⟩ := pall b (by omega)
      have vk := e2 k (by omega)
      rw [k2] at vk
      by_cases g : k < m
      · rw [if_pos g] at vk; omega
      · rw [if_neg g] at vk
        by_cases gk : k = m
        · subst gk; exact k2.symm
        · have := pord m k (by omega) k1
          rw [k2] at this
          have := bf (p.getD m 0)
          omega
    refine ⟨?_, ?_⟩
    · show (bumpN o p m).set _ _ = ((giveN o r m).1.set _ _)
      rw [e1, hb]
    · intro k hk
      show ((giveN o r m).2.set (bestTo (giveN o r m).2 (giveN o r m).2.length) (-1)).getD (p.getD k 0) 0 = _
      have pm := plt m (by omega)
      rw [hb, getD_set _ _ _ _ (by omega)]
      by_cases g : p.getD m 0 = p.getD k 0
      · have := pone m k (by omega) (by omega) g
        rw [if_pos g, if_pos (by omega)]
      · rw [if_neg g, e2 k hk]
        by_cases g2 : k < m
        · rw [if_pos g2, if_pos (by omega)]
        · rw [if_neg g2]
          by_cases g3 : k < m + 1
          · exfalso; apply g; rw [show k = m by omega]
          · rw [if_neg g3]
/-- The places as the sort leaves them. -/
def placesOf {n : Nat} (d : Array (Fin n)) : List Nat := d.toList.map Fin.val
theorem arr_bang {n : Nat} [Inhabited (Fin n)] (d : Array (Fin n)) {k : Nat} (h : k < d.size) : (placesOf d).getD k 0 = (d[k]!).val := by
  unfold placesOf
  rw [List.getD_eq_getElem?_getD, List.getElem?_map, getElem!_pos d k h]
  simp [h]
theorem ranked_of {r : List Int} {n : Nat} (hn : r.length = n) [Inhabited (Fin n)] (d d' : Array (Fin n)) (h0 : d.toList = List.finRange n) (hp : Sort.PermIn 0 d.size d d') (hs : Sort.SortedIn (ltOf (cfR r n)) 0 d.size d') : Ranked r (placesOf d') := by
  obtain ⟨hz, _, hperm⟩ := hp
  have sz : d.size = n := by rw [← Array.length_toList, h0, List.length_finRange]
  have e0 : (d.extract 0 d.size).toList = d.toList := by simp
  have e1 : (d'.extract 0 d.size).toList = d'.toList := by rw [← hz]; simp
  rw [e0, e1, h0] at hperm
  have pl : (placesOf d').length = n := by unfold placesOf; rw [List.length_map, Array.length_toList]; omega
  have nd : (placesOf d').Nodup := by
    unfold placesOf
    have : d'.toList.Nodup := hperm.nodup_iff.2 (List.nodup_finRange n)
    exact List.pairwise_map.2 (List.Pairwise.imp (fun {a b} h e => h (Fin.ext e)) this)
  refine ⟨by omega, ?_, ?_, ?_, ?_⟩
  · intro k hk
    rw [arr_bang d' (by omega)]
    have := (d'[k]!).isLt
    omega
  · intro j hj
    have hm : (⟨j, by omega⟩ : Fin n) ∈ d'.toList := hperm.mem_iff.2 (List.mem_finRange _)
    obtain ⟨k, hk, e⟩ := List.getElem_of_mem hm
    refine ⟨k, by rw [pl]; simp at hk; omega, ?_⟩
    unfold placesOf
    rw [List.getD_eq_getElem?_getD, List.getElem?_map, List.getElem?_eq_getElem hk, e]
    rfl
  · intro i k hi hk h
    rw [List.getD_eq_getElem?_getD, List.getD_eq_getElem?_getD, List.getElem?_eq_getElem hi, List.getElem?_eq_getElem hk] at h
    exact (List.getElem_inj nd).1 h
  · intro i k hik hk
    have S := hs i k (Nat.zero_le _) hik (by omega)
    rw [cfR_lt] at S
    simp only [decide_eq_false_iff_not] at S
    rw [arr_bang d' (by omega), arr_bang d' (by omega)]
    have ne : (d'[i]!).val ≠ (d'[k]!).val := by
      rw [← arr_bang d' (by omega), ← arr_bang d' (by omega)]
      intro h
      rw [List.getD_eq_getElem?_getD, List.getD_eq_getElem?_getD, List.getElem?_eq_getElem (by omega), List.getElem?_eq_getElem hk] at h
      have := (List.getElem_inj nd).1 h
      omega
    omega
end Go.Proofs.YtclgghhpiljgfaaGreatDoor

/- Weights that come to one: the program's sums, kernels. -/
namespace Go.Proofs.YtclgghhpiljgfaaGreatDoor
open Go.RowKit


theorem absH_in (x : Int) : 0 ≤ absH x ∧ absH x ≤ 9223372036854775807 := by
  unfold absH holdI; have := absI0 x; split <;> (try split) <;> omega
theorem absH_neg {x : Int} (h : x < 0) : absH x = holdI (-x) := by unfold absH absI; rw [if_pos h]
theorem absH_pos {x : Int} (h : ¬ x < 0) (h1 : x ≤ 9223372036854775807) : absH x = x := by unfold absH absI; rw [if_neg h, holdI_in (by omega) (by omega)]
theorem without_any (x : Int) (h0 : -9223372036854775808 ≤ x) (h1 : x ≤ 9223372036854775807) (w : World) :
    Calls Tryz.prog 91 #[.int .i64 x] w fun e w' => e = .returned (.int .i64 (absH x)) ∧ w = w' := by
  by_cases g : x < 0
  · rw [absH_neg g]
    have CM : ∀ w : World, Calls Tryz.prog 123 #[.int .i64 x, .int .i64 (-1)] w fun e w' => e = .returned (.int .i64 (holdI (-x))) ∧ w = w' := fun w => by
      have := fixmul_any x (-1) h0 h1 (by omega) (by omega) w
      rw [show x * -1 = -x by omega] at this
      exact this
    generalize holdI (-x) = y at *
    go_enter Tryz.func91, Tryz.ntmps91
    go_wp2_with (go_at_call 123; (with_reducible refine (CM _).mono ?_); rintro e w1 ⟨rfl, rfl⟩)
    go_ret
    exact ⟨rfl, rfl⟩
  · rw [absH_pos g h1]
    go_enter Tryz.func91, Tryz.ntmps91
    go_wp2
    go_ret
    exact ⟨rfl, rfl⟩
theorem tsum_any (xs : List Int) (ad : Option Addr) (cap : Nat) (w : World) (hr : RowAt .i64 w ad xs) (hx : All64 xs) (hl : xs.length ≤ 9223372036854775807) :
    Calls Tryz.prog 85 #[.slice ad xs.length cap] w fun e w' => e = .returned (.int .i64 (sumH xs)) ∧ w = w' := by
  have HR := hide hr
  have HX := hide hx
  clear hr hx
  obtain ⟨n, hn⟩ : ∃ n, xs.length = n := ⟨_, rfl⟩
  have HN := hide hn
  rw [hn] at hl ⊢
  clear hn
  go_enter Tryz.func85, Tryz.ntmps85
  go_wp2
  go_loop [3, 8] (fun s i => ∃ k : Nat, k ≤ n ∧ i = .int .i64 (k : Int) ∧ s = .int .i64 (sumH (xs.take k))) (fun _ i => n - (intOf i).toNat)
  case atStart => exact ⟨0, by omega, rfl, rfl⟩
  case round =>
    obtain ⟨k, hk, rfl, rfl⟩ := hrel
    by_cases hlt : k < n
    · obtain ⟨b, off, rfl, hc⟩ := HR.out.get (show k < xs.length by rw [HN.out]; exact hlt)
      obtain ⟨x0, x1⟩ := HX.out k (by rw [HN.out]; exact hlt)
      obtain ⟨s0, s1⟩ := sumH_in (xs.take k)
      have hs : sumH (xs.take (k + 1)) = holdI (sumH (xs.take k) + xs.getD k 0) := by rw [take_step xs (by rw [HN.out]; exact hlt), sumH_snoc]; rfl
      have HS := hide hs
      clear hs
      have CP := fun w => fixadd_any (sumH (xs.take k)) (xs.getD k 0) s0 s1 x0 x1 w
      generalize xs.getD k 0 = x at *
      generalize holdI (sumH (xs.take k) + x) = y at *
      go_wp2_with (go_at_call 90; (with_reducible refine (CP _).mono ?_); rintro e w1 ⟨rfl, rfl⟩)
      go_round
      case rel => exact ⟨k + 1, by omega, by go_num, by rw [HS.out]⟩
      case measure => simp [intOf]; omega
    · obtain rfl : k = n := by omega
      have e : xs.take k = xs := List.take_of_length_le (by rw [HN.out]; exact Nat.le_refl _)
      have HE := hide e
      clear e
      go_wp2
      go_ret
      exact ⟨ret_i64 (by rw [HE.out]), rfl⟩
theorem tsize_any (xs : List Int) (ad : Option Addr) (cap : Nat) (w : World) (hr : RowAt .i64 w ad xs) (hx : All64 xs) (hl : xs.length ≤ 9223372036854775807) :
    Calls Tryz.prog 62 #[.slice ad xs.length cap] w fun e w' => e = .returned (.int .i64 (sizeH xs)) ∧ w = w' := by
  have HR := hide hr
  have HX := hide hx
  clear hr hx
  obtain ⟨n, hn⟩ : ∃ n, xs.length = n := ⟨_, rfl⟩
  have HN := hide hn
  rw [hn] at hl ⊢
  clear hn
  go_enter Tryz.func62, Tryz.ntmps62
  go_wp2
  go_loop [3, 8] (fun s i => ∃ k : Nat, k ≤ n ∧ i = .int .i64 (k : Int) ∧ s = .int .i64 (sizeH (xs.take k))) (fun _ i => n - (intOf i).toNat)
  case atStart => exact ⟨0, by omega, rfl, rfl⟩
  case round =>
    obtain ⟨k, hk, rfl, rfl⟩ := hrel
    by_cases hlt : k < n
    · obtain ⟨b, off, rfl, hc⟩ := HR.out.get (show k < xs.length by rw [HN.out]; exact hlt)
      obtain ⟨x0, x1⟩ := HX.out k (by rw [HN.out]; exact hlt)
      obtain ⟨s0, s1⟩ := sizeH_in (xs.take k)
      have hs : sizeH (xs.take (k + 1)) = holdI (sizeH (xs.take k) + absH (xs.getD k 0)) := by rw [take_step xs (by rw [HN.out]; exact hlt), sizeH_snoc]; rfl
      have HS := hide hs
      clear hs
      have CW := fun w => without_any (xs.getD k 0) x0 x1 w
      obtain ⟨a0, a1⟩ := absH_in (xs.getD k 0)
      have CP := fun w => fixadd_any (sizeH (xs.take k)) (absH (xs.getD k 0)) (by omega) s1 (by omega) a1 w
      generalize xs.getD k 0 = x at *
      generalize absH x = a at *
      generalize holdI (sizeH (xs.take k) + a) = y at *
      go_wp2_with (first
        | (go_at_call 90; (with_reducible refine (CP _).mono ?_); rintro e w1 ⟨rfl, rfl⟩)
        | (go_at_call 91; (with_reducible refine (CW _).mono ?_); rintro e w1 ⟨rfl, rfl⟩))
      go_round
      case rel => exact ⟨k + 1, by omega, by go_num, by rw [HS.out]⟩
      case measure => simp [intOf]; omega
    · obtain rfl : k = n := by omega
      have e : xs.take k = xs := List.take_of_length_le (by rw [HN.out]; exact Nat.le_refl _)
      have HE := hide e
      clear e
      go_wp2
      go_ret
      exact ⟨ret_i64 (by rw [HE.out]), rfl⟩
theorem abs_over {x : Int} : smallW x ↔ ¬ 1099511627776 < absH x := by
  unfold smallW absH absI
  by_cases g : x < 0
  · rw [if_pos g]
    by_cases h : -x ≤ 9223372036854775807
    · rw [holdI_in (by omega) (by omega)]; omega
    · rw [holdI_hi (by omega)]; omega
  · rw [if_neg g]
    by_cases h : x ≤ 9223372036854775807
    · rw [holdI_in (by omega) (by omega)]; omega
    · rw [holdI_hi (by omega)]; omega
theorem bounded_any (xs : List Int) (ad : Option Addr) (cap : Nat) (w : World) (hr : RowAt .i64 w ad xs) (hx : All64 xs) (hl : xs.length ≤ 9223372036854775807) (v : Bool) (hv : badB xs = !v) :
    Calls Tryz.prog 84 #[.slice ad xs.length cap] w fun e w' => e = .returned (.bool v) ∧ w = w' := by
  have B := badB_iff xs
  rw [hv] at B
  have HB1 := hide (show (¬ (xs.length < 1 ∨ 1048576 < xs.length)) → (∀ x ∈ xs, smallW x) → v = true from fun h0 h => by
    cases v with
    | true => rfl
    | false =>
      rcases B.1 rfl with h1 | h1 | h1
      · exact absurd (Or.inl h1) h0
      · exact absurd (Or.inr h1) h0
      · exact absurd h h1)
  have HB2 := hide (show (xs.length < 1 ∨ 1048576 < xs.length ∨ ¬ ∀ x ∈ xs, smallW x) → v = false from fun h => by
    have := B.2 h
    cases v with
    | true => cases this
    | false => rfl)
  clear hv B
  have HR := hide hr
  have HX := hide hx
  clear hr hx
  obtain ⟨n, hn⟩ : ∃ n, xs.length = n := ⟨_, rfl⟩
  have HN := hide hn
  rw [hn] at hl ⊢
  clear hn
  by_cases g0 : n = 0
  · obtain rfl := HB2.out (Or.inl (by rw [HN.out]; omega))
    subst g0
    clear HN HB1 HB2
    go_enter Tryz.func84, Tryz.ntmps84
    go_wp2
    go_ret
    exact ⟨rfl, rfl⟩
  by_cases g1 : 1048576 < n
  · obtain rfl := HB2.out (Or.inr (Or.inl (by rw [HN.out]; omega)))
    have b0 : ((n : Int) == 0) = false := beq_eq_false_iff_ne.2 (by omega)
    have b1 : decide ((1048576 : Int) < (n : Int)) = true := decide_eq_true (by omega)
    clear HB1 HB2
    go_enter Tryz.func84, Tryz.ntmps84
    go_wp2
    go_ret
    exact ⟨rfl, rfl⟩
  have HV1 := hide (HB1.out (by rw [HN.out]; omega))
  have b0 : ((n : Int) == 0) = false := beq_eq_false_iff_ne.2 (by omega)
  have b1 : decide ((1048576 : Int) < (n : Int)) = false := decide_eq_false (by omega)
  clear g0 HB1
  go_enter Tryz.func84, Tryz.ntmps84
  go_wp2
  clear b0 b1
  go_loop [15] (fun i => ∃ k : Nat, k ≤ n ∧ i = .int .i64 (k : Int) ∧ Hid (∀ j, j < k → smallW (xs.getD j 0))) (fun i => n - (intOf i).toNat)
  case atStart => exact ⟨0, by omega, rfl, hide (fun j hj => absurd hj (Nat.not_lt_zero _))⟩
  case round =>
    obtain ⟨k, hk, rfl, HJ⟩ := hrel
    by_cases hlt : k < n
    · obtain ⟨b, off, rfl, hc⟩ := HR.out.get (show k < xs.length by rw [HN.out]; exact hlt)
      obtain ⟨x0, x1⟩ := HX.out k (by rw [HN.out]; exact hlt)
      have CW := fun w => without_any (xs.getD k 0) x0 x1 w
      obtain ⟨a0, a1⟩ := absH_in (xs.getD k 0)
      by_cases g : 1099511627776 < absH (xs.getD k 0)
      · obtain rfl := HB2.out (Or.inr (Or.inr (fun h => by
          have := mem_getD h (show k < xs.length by rw [HN.out]; exact hlt)
          exact abs_over.1 this g)))
        generalize xs.getD k 0 = x at hc CW x0 x1 a0 a1 g
        generalize absH x = a at *
        go_wp2_with (go_at_call 91; (with_reducible refine (CW _).mono ?_); rintro e w1 ⟨rfl, rfl⟩)
        go_ret
        exact ⟨rfl, rfl⟩
      · have HS := hide (abs_over.2 g)
        have HK := hide (show ∀ j, j < k + 1 → smallW (xs.getD j 0) from fun j hj => by
          by_cases e : j = k
          · subst e; exact HS.out
          · exact HJ.out j (by omega))
        clear HS
        generalize xs.getD k 0 = x at hc CW x0 x1 a0 a1 g
        generalize absH x = a at *
        go_wp2_with (go_at_call 91; (with_reducible refine (CW _).mono ?_); rintro e w1 ⟨rfl, rfl⟩)
        go_round
        case rel => exact ⟨k + 1, by omega, by go_num, HK⟩
        case measure => simp [intOf]; omega
    · obtain rfl : k = n := by omega
      obtain rfl := HV1.out (getD_mem (fun j hj => HJ.out j (by rw [HN.out] at hj; exact hj)))
      go_wp2
      go_ret
      exact ⟨rfl, rfl⟩
end Go.Proofs.YtclgghhpiljgfaaGreatDoor

/- Weights that come to one: how the program compares two places. -/
namespace Go.Proofs.YtclgghhpiljgfaaGreatDoor
open Go.RowKit


theorem nan64 (x : Int) (w : World) : Calls Tryz.prog 138 #[.int .i64 x] w fun e w' => e = .returned (.bool false) ∧ w = w' := by
  go_enter Tryz.func138, Tryz.ntmps138
  go_wp2
  go_ret
  exact ⟨by simp, rfl⟩
theorem nanI (x : Int) (w : World) : Calls Tryz.prog 139 #[.int .i64 x] w fun e w' => e = .returned (.bool false) ∧ w = w' := by
  go_enter Tryz.func139, Tryz.ntmps139
  go_wp2
  go_ret
  exact ⟨by simp, rfl⟩
theorem cmp64 (x y : Int) (w : World) : Calls Tryz.prog 118 #[.int .i64 x, .int .i64 y] w fun e w' => e = .returned (.int .i64 (Lib.compareInt x y)) ∧ w = w' := by
  unfold Lib.compareInt
  by_cases h : x < y
  · rw [if_pos h]
    go_enter Tryz.func118, Tryz.ntmps118
    go_wp2_with (go_at_call 138; (with_reducible refine (nan64 _ _).mono ?_); rintro e w1 ⟨rfl, rfl⟩)
    go_ret
    exact ⟨rfl, rfl⟩
  · rw [if_neg h]
    by_cases g : x > y
    · rw [if_pos g]
      go_enter Tryz.func118, Tryz.ntmps118
      go_wp2_with (go_at_call 138; (with_reducible refine (nan64 _ _).mono ?_); rintro e w1 ⟨rfl, rfl⟩)
      go_ret
      exact ⟨rfl, rfl⟩
    · rw [if_neg g]
      go_enter Tryz.func118, Tryz.ntmps118
      go_wp2_with (go_at_call 138; (with_reducible refine (nan64 _ _).mono ?_); rintro e w1 ⟨rfl, rfl⟩)
      go_ret
      exact ⟨rfl, rfl⟩
theorem cmpI (x y : Int) (w : World) : Calls Tryz.prog 119 #[.int .i64 x, .int .i64 y] w fun e w' => e = .returned (.int .i64 (Lib.compareInt x y)) ∧ w = w' := by
  unfold Lib.compareInt
  by_cases h : x < y
  · rw [if_pos h]
    go_enter Tryz.func119, Tryz.ntmps119
    go_wp2_with (go_at_call 139; (with_reducible refine (nanI _ _).mono ?_); rintro e w1 ⟨rfl, rfl⟩)
    go_ret
    exact ⟨rfl, rfl⟩
  · rw [if_neg h]
    by_cases g : x > y
    · rw [if_pos g]
      go_enter Tryz.func119, Tryz.ntmps119
      go_wp2_with (go_at_call 139; (with_reducible refine (nanI _ _).mono ?_); rintro e w1 ⟨rfl, rfl⟩)
      go_ret
      exact ⟨rfl, rfl⟩
    · rw [if_neg g]
      go_enter Tryz.func119, Tryz.ntmps119
      go_wp2_with (go_at_call 139; (with_reducible refine (nanI _ _).mono ?_); rintro e w1 ⟨rfl, rfl⟩)
      go_ret
      exact ⟨rfl, rfl⟩
theorem or_two (a b r : Int) (hr : orI a b = r) (k o : Nat) (w : World) (h0 : w.cell? ⟨k, o, none⟩ = some (.int .i64 a)) (h1 : w.cell? ⟨k, o + 1, none⟩ = some (.int .i64 b)) :
    Calls Tryz.prog 117 #[.slice (some ⟨k, o, none⟩) 2 2] w fun e w' => e = .returned (.int .i64 r) ∧ w = w' := by
  unfold orI at hr
  have HR := hide hr
  clear hr
  go_enter Tryz.func117, Tryz.ntmps117
  go_wp2
  go_loop [8] (fun i => ∃ j : Nat, j ≤ 2 ∧ i = .int .i64 (j : Int) ∧ (0 < j → a = 0) ∧ (1 < j → b = 0)) (fun i => 2 - (intOf i).toNat)
  case atStart => exact ⟨0, by omega, rfl, by omega, by omega⟩
  case round =>
    obtain ⟨j, hj, rfl, p0, p1⟩ := hrel
    by_cases j0 : j = 0
    · subst j0
      by_cases ha : a = 0
      · subst ha
        clear p0 p1
        go_wp2
        go_round
        case rel => exact ⟨1, by omega, by go_num, by simp, by simp⟩
        case measure => simp [intOf]
      · have e := HR.out
        rw [if_neg ha] at e
        subst e
        have b0 : (a == 0) = false := beq_eq_false_iff_ne.2 ha
        clear p0 p1
        go_wp2
        go_ret
        exact ⟨rfl, rfl⟩
    by_cases j1 : j = 1
    · subst j1
      obtain rfl := p0 (by omega)
      clear p0 p1
      have e := HR.out
      rw [if_pos rfl] at e
      subst e
      by_cases hb : b = 0
      · subst hb
        go_wp2
        go_round
        case rel => exact ⟨2, by omega, by go_num, by simp, by simp⟩
        case measure => simp [intOf]
      · have b0 : (b == 0) = false := beq_eq_false_iff_ne.2 hb
        go_wp2
        go_ret
        exact ⟨rfl, rfl⟩
    · obtain rfl : j = 2 := by omega
      obtain rfl := p0 (by omega)
      obtain rfl := p1 (by omega)
      have e := HR.out
      rw [if_pos rfl] at e
      subst e
      clear p0 p1
      go_wp2
      go_ret
      exact ⟨rfl, rfl⟩
set_option maxHeartbeats 4000000 in
set_option maxRecDepth 1000000 in
theorem closure_any (rs : List Int) (n : Nat) (hn : rs.length = n) (x y : Fin n) (b1 : Nat) (ad : Option Addr) (cap : Nat) (W : World) (hc : W.cell? ⟨b1, 0, none⟩ = some (.slice ad n cap)) (hr : RowAt .i64 W ad rs) :
    Calls Tryz.prog 116 #[.int .i64 (x.val : Int), .int .i64 (y.val : Int), .pointer (some ⟨b1, 0, none⟩)] W fun e w' => e = .returned (.int .i64 (cfR rs n x y)) ∧ ∃ q os', w' = Sort.grow (W.drewN q) os' := by
  obtain ⟨x, hx⟩ := x
  obtain ⟨y, hy⟩ := y
  obtain ⟨b, off, rfl, c1⟩ := hr.get (show x < rs.length by omega)
  have c2 := hr.at (show y < rs.length by omega)
  unfold cfR
  show Calls _ _ #[.int .i64 (x : Int), .int .i64 (y : Int), _] W _
  simp only
  have C1 := fun w => cmp64 (rs.getD y 0) (rs.getD x 0) w
  have C2 := fun w => cmpI (x : Int) (y : Int) w
  generalize rs.getD y 0 = ry at *
  generalize rs.getD x 0 = rx at *
  generalize Lib.compareInt ry rx = p at *
  generalize Lib.compareInt (x : Int) (y : Int) = q at *
  obtain ⟨r, hr2⟩ : ∃ r, orI p q = r := ⟨_, rfl⟩
  rw [hr2]
  have CO := fun k w => or_two p q r hr2 k 0 w
  have HO := hide hr2
  clear hr hn hr2
  have z1 := World.new_ne W _ hc
  have z2 := World.new_ne W _ c1
  have z3 := World.new_ne W _ c2
  go_enter Tryz.func116, Tryz.ntmps116
  go_wp2_with fail
  go_region_held3 (fun w' => w'.cell? ⟨b1, 0, none⟩ = some (.slice (some ⟨b, off, none⟩) n cap) ∧ w'.cell? ⟨b, off + x, none⟩ = some (.int .i64 rx) ∧ w'.cell? ⟨b, off + y, none⟩ = some (.int .i64 ry)) (go_keep)
    (first
      | (go_at_call 118; (with_reducible refine (C1 _).mono ?_); rintro e w1 ⟨rfl, rfl⟩)
      | (go_at_call 119; (with_reducible refine (C2 _).mono ?_); rintro e w1 ⟨rfl, rfl⟩)
      | (go_at_call 117; (with_reducible refine (CO _ _ (by simp) (by simp)).mono ?_); rintro e w1 ⟨rfl, rfl⟩))
  go_wp2
  go_ret
  exact ⟨rfl, 1, #[_], by rw [Sort.alloc_eq_grow]; rfl⟩
theorem sort_cell {α : Type} [Inhabited α] (enc : α → Value) (w : World) (blk off m : Nat) (dk : Array α) (os : Array Obj) {b o : Nat} {v : Value} (h : w.cell? ⟨b, o, none⟩ = some v) (hne : b ≠ blk) : (sortWorld enc w blk off m dk os).cell? ⟨b, o, none⟩ = some v := by
  unfold sortWorld
  rw [Sort.cell?_grow _ _ _ (by simp only [Sort.size_putRow, Sort.heap_ahead]; exact cell_ltL h), Sort.cell?_putRow_other _ _ _ _ _ _ (Or.inl hne), Sort.cell?_ahead]
  exact h
theorem below_sort {α : Type} [Inhabited α] {enc : α → Value} {B : Nat} {w0 w : World} {g n : Nat} {d : Array α} {os : Array Obj} (h : Below B w0 w) (hg : B ≤ g) (hs : g < w.heap.size) : Below B w0 (sortWorld enc w g 0 n d os) := by
  refine Below.trans h ⟨rfl, rfl, rfl, by unfold sortWorld; simp, fun k hk => ?_⟩
  unfold sortWorld Sort.grow
  show ((Sort.putRow enc (Sort.ahead w n) g 0 d).heap ++ os)[k]? = w.heap[k]?
  rw [Array.getElem?_append_left (by rw [Sort.size_putRow, Sort.heap_ahead]; omega)]
  simp [Sort.putRow, Sort.mapBlock, Sort.ahead, Array.getElem?_modify, show g ≠ k by omega]
end Go.Proofs.YtclgghhpiljgfaaGreatDoor
