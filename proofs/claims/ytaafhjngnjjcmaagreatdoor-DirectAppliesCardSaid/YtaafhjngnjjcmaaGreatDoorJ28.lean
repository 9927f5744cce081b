/- Parts, joined. -/
import Derived.Test.YtaafhjngnjjcmaaGreatDoorJ27
import Derived.OpenShut
import Derived.Lib.LazyBuf
import Derived.BigQuiet
/- Rows of samples: made, copied, compared, their greatest one; new images. -/
namespace Go.Proofs.YtaafhjngnjjcmaaGreatDoor
open Go.RowKit


theorem infoU16 : (Tryz.prog.info? 22).map (fun i => (i.zero, i.size, i.bytes)) = some (some (.int .u16 0), 1, 2) := by kernel_rfl
theorem make16 (n : Nat) (h : n ≤ 268435456) : ∃ zs : Array Value, (∀ w : World, (Instr.makeSlice 23 (.int .i64 (n : Int)) (.int .i64 (n : Int))).run Tryz.prog w = .ok (.slice (some ⟨w.heap.size, 0, none⟩) n n) (w.alloc (.cells zs 22))) ∧ (∀ (w : World) (B : Nat), B ≤ w.heap.size → OwnI .u16 22 (w.alloc (.cells zs 22)) B (.slice (some ⟨w.heap.size, 0, none⟩) n n) (List.replicate n 0)) := by
  obtain ⟨i0, hi, hz0, hz1, hz2⟩ := info_parts infoU16
  have hm : (n : Int) ≤ 9223372036854775807 := by omega
  refine ⟨madeCells (Value.int .u16 0).cells (n * i0.size), fun w => ?_, fun w B hB => ?_⟩
  · have hr := run_make (P := Tryz.prog) w 23 22 i0 (.int .u16 0) Tryz.underlying23 hi hz0 .i64 .i64 n n (by omega) (Int.le_refl _) (by rw [hz2]; omega) hm
    simpa only [Int.toNat_natCast] using hr
  · refine OwnI.made ?_
    rw [hz1]
    exact World.ownsRow_lit w _ n hB (by unfold maxLen; omega) (by rw [size_madeCells])
/-- slices.Clone. -/
theorem clone16 (xs : List Int) (n : Nat) (hn : xs.length = n) (b off cap : Nat) (h1 : n ≤ 268435456) (w : World) (hr : RowAt .u16 w (some ⟨b, off, none⟩) xs) :
    Calls Tryz.prog 44 #[.slice (some ⟨b, off, none⟩) n cap] w fun e w' => ∃ v, e = .returned v ∧ OwnI .u16 22 w' w.heap.size v xs ∧ Below w.heap.size w w' := by
  have HR := hide hr
  have HN := hide hn
  obtain ⟨i0, hi, hz0, hz1, hz2⟩ := info_parts infoU16
  have q : ∀ w : World, (binOp .eql 23 (.slice (some ⟨b, off, none⟩) n cap) (.slice none 0 0)).run Tryz.prog w = .ok (.bool false) w := fun w => Lib.run_eql_slice_nil w _ _ _ n cap 0 0 Tryz.underlying23
  clear hr hn
  go_enter Tryz.func44, Tryz.ntmps44
  go_wp2_with (at_builtin; refine wpList_append_row .u16 _ rfl _ _ 23 rfl w.heap.size 22 i0 (.int .u16 0) 2 Tryz.underlying23 hi hz0 hz1 hz2 rfl (.slice (some ⟨w.heap.size, 0, none⟩) 0 0) [] rfl (own_lit0 _ _ _ _ (Nat.le_refl _)) (some ⟨b, off, none⟩) n cap xs rfl HN.out (HR.out.below (below1 _ _)) (fun e => by cases e) (by simp; unfold maxLen; omega) (by simp; omega) (by simp) ?_; intro v1 w2 own2 grow2 _; have bw2 := grown_lit (Below.refl _ _) grow2; rw [List.nil_append] at own2)
  go_ret
  exact ⟨v1, rfl, own2, bw2⟩
/-- The greatest one of the first ones. -/
def mxTo (xs : List Int) : Nat → Int
  | 0 => xs.getD 0 0
  | k + 1 => max (mxTo xs k) (xs.getD k 0)
theorem mxTo_one (xs : List Int) : mxTo xs 1 = xs.getD 0 0 := by
  show max (xs.getD 0 0) (xs.getD 0 0) = _
  omega
theorem mxTo_in {xs : List Int} (h : ∀ x ∈ xs, 0 ≤ x ∧ x ≤ 65535) (h0 : 1 ≤ xs.length) : ∀ k, k ≤ xs.length → 0 ≤ mxTo xs k ∧ mxTo xs k ≤ 65535
  | 0, _ => allK_u16 h (by omega)
  | k + 1, hk => by
    have a := mxTo_in h h0 k (by omega)
    have b := allK_u16 h (show k < xs.length by omega)
    show 0 ≤ max (mxTo xs k) (xs.getD k 0) ∧ max (mxTo xs k) (xs.getD k 0) ≤ 65535
    omega
theorem mxTo_le {xs : List Int} {t : Int} : ∀ k, 1 ≤ k → (mxTo xs k ≤ t ↔ ∀ j, j < k → xs.getD j 0 ≤ t)
  | 0, h => absurd h (by omega)
  | 1, _ => by
    rw [mxTo_one]
    exact ⟨fun h j hj => by obtain rfl : j = 0 := by omega
                            exact h, fun h => h 0 (by omega)⟩
  | k + 2, _ => by
    have ih := mxTo_le (xs := xs) (t := t) (k + 1) (by omega)
    show max (mxTo xs (k + 1)) (xs.getD (k + 1) 0) ≤ t ↔ _
    constructor
    · intro h j hj
      by_cases e : j = k + 1
      · subst e; omega
      · exact ih.1 (by omega) j (by omega)
    · intro h
      have a := ih.2 (fun j hj => h j (by omega))
      have b := h (k + 1) (by omega)
      omega
theorem mx_all {xs : List Int} {t : Int} (h0 : 1 ≤ xs.length) : mxTo xs xs.length ≤ t ↔ ∀ x ∈ xs, x ≤ t := by
  rw [mxTo_le _ h0]
  constructor
  · intro h x hx
    obtain ⟨j, hj, rfl⟩ := List.mem_iff_getElem.1 hx
    have := h j hj
    rw [List.getD_eq_getElem?_getD, List.getElem?_eq_getElem hj] at this
    exact this
  · intro h j hj
    rw [List.getD_eq_getElem?_getD, List.getElem?_eq_getElem hj]
    exact h _ (List.getElem_mem hj)
/-- slices.Max. -/
theorem max16 (xs : List Int) (n : Nat) (hn : xs.length = n) (ad : Option Addr) (cap : Nat) (h0 : 1 ≤ n) (h1 : n ≤ 268435456) (hx : ∀ x ∈ xs, 0 ≤ x ∧ x ≤ 65535) (w : World) (hr : RowAt .u16 w ad xs) :
    Calls Tryz.prog 67 #[.slice ad n cap] w fun e w' => e = .returned (.int .u16 (mxTo xs n)) ∧ w = w' := by
  have HR := hide hr
  have HN := hide hn
  have HX := hide hx
  obtain ⟨b, off, rfl, c0⟩ := hr.get (show 0 < xs.length by omega)
  rw [← mxTo_one, Nat.add_zero] at c0
  have HI := hide (fun k hk => mxTo_in hx (show 1 ≤ xs.length by omega) k hk)
  clear hr hn hx
  go_enter Tryz.func67, Tryz.ntmps67
  go_wp2
  go_loopw [3, 4] (fun m i wr => ∃ k : Nat, 1 ≤ k ∧ k ≤ n ∧ i = .int .i64 (k : Int) ∧ m = .int .u16 (mxTo xs k) ∧ wr = w) (fun _ i _ => n - (intOf i).toNat)
  case atStart => exact ⟨1, by omega, by omega, rfl, rfl, rfl⟩
  case round =>
    obtain ⟨k, hk0, hk, rfl, rfl, rfl⟩ := hrel
    clear c0
    by_cases hlt : k < n
    · have hc := HR.out.at (show k < xs.length by rw [HN.out]; exact hlt)
      have hm := HI.out k (by rw [HN.out]; exact hk)
      have hy := allK_u16 HX.out (show k < xs.length by rw [HN.out]; exact hlt)
      have HS := hide (show mxTo xs (k + 1) = max (mxTo xs k) (xs.getD k 0) from rfl)
      generalize xs.getD k 0 = x at *
      generalize mxTo xs k = m at *
      go_wp2
      go_roundw
      case rel => exact ⟨k + 1, by omega, by omega, by go_num, (by rw [HS.out]; first | done | exact congrArg _ (by split <;> omega)), trivial⟩
      case measure => simp [intOf]; omega
    · obtain rfl : k = n := by omega
      go_wp2
      go_ret
      exact ⟨rfl, rfl⟩
theorem take_eq_all {xs ys : List Int} {n : Nat} (hx : xs.length = n) (hy : ys.length = n) (h : xs.take n = ys.take n) : xs = ys := by
  rwa [List.take_of_length_le (by omega), List.take_of_length_le (by omega)] at h
theorem take_eq_more {xs ys : List Int} {k : Nat} (hx : k < xs.length) (hy : k < ys.length) (h : xs.take k = ys.take k) (e : xs.getD k 0 = ys.getD k 0) : xs.take (k + 1) = ys.take (k + 1) := by
  rw [take_step xs hx, take_step ys hy, h, e]
/-- slices.Equal. -/
theorem equal16 (xs ys : List Int) (n m : Nat) (hn : xs.length = n) (hm : ys.length = m) (ad bd : Option Addr) (cap cap' : Nat) (h1 : n ≤ 268435456) (w : World) (hr : RowAt .u16 w ad xs) (hq : RowAt .u16 w bd ys) :
    Calls Tryz.prog 45 #[.slice ad n cap, .slice bd m cap'] w fun e w' => e = .returned (.bool (decide (xs = ys))) ∧ Drew w w' := by
  have HR := hide hr
  have HQ := hide hq
  clear hr hq
  by_cases hne : n = m
  · subst hne
    have HN := hide hn
    have HM := hide hm
    clear hn hm
    go_enter Tryz.func45, Tryz.ntmps45
    go_wp2
    go_loopw [13] (fun i wr => ∃ k : Nat, k ≤ n ∧ i = .int .i64 (k : Int) ∧ Hid (xs.take k = ys.take k) ∧ Drew w wr) (fun i _ => n - (intOf i).toNat)
    case atStart => exact ⟨0, by omega, rfl, rfl, Drew.refl _⟩
    case round =>
      obtain ⟨k, hk, rfl, ht, hb⟩ := hrel
      have HB := hide hb
      clear hb
      by_cases hlt : k < n
      · obtain ⟨b, off, rfl, hc⟩ := (HR.out.below HB.out.below).get (show k < xs.length by rw [HN.out]; exact hlt)
        obtain ⟨b', off', rfl, hc'⟩ := (HQ.out.below HB.out.below).get (show k < ys.length by rw [HM.out]; exact hlt)
        have HE := hide (fun e => take_eq_more (show k < xs.length by rw [HN.out]; exact hlt) (show k < ys.length by rw [HM.out]; exact hlt) ht.out e)
        have HF := hide (fun (e : xs = ys) => congrArg (fun l => l.getD k (0 : Int)) e)
        generalize xs.getD k 0 = x at *
        obtain ⟨y, hy⟩ : ∃ y, ys.getD k 0 = y := ⟨_, rfl⟩
        rw [hy] at hc'
        by_cases e : x = y
        · subst e
          have HT := hide (HE.out hy.symm)
          have hxx : (x != x) = false := by simp
          clear hy HE HF
          go_wp2_with fail
          go_quiet (fail)
          go_wp2
          go_roundw
          case rel => exact ⟨k + 1, by omega, by go_num, HT.out, HB.out.more _⟩
          case measure => simp [intOf]; omega
        · have hxy : (x != y) = true := bne_iff_ne.2 e
          have HD := hide (show decide (xs = ys) = false from decide_eq_false (fun g => e ((HF.out g).trans hy)))
          clear hy HE HF e
          go_wp2_with fail
          go_quiet (fail)
          go_wp2
          go_ret
          exact ⟨ret_bool HD.out.symm, HB.out.more _⟩
      · obtain rfl : k = n := by omega
        have HD := hide (show decide (xs = ys) = true from decide_eq_true (take_eq_all HN.out HM.out ht.out))
        go_wp2
        go_ret
        exact ⟨ret_bool HD.out.symm, HB.out⟩
  · have hb : ((n : Int) != (m : Int)) = true := bne_iff_ne.2 (by omega)
    have HD := hide (show decide (xs = ys) = false from decide_eq_false (fun g => hne (by rw [← hn, ← hm, g])))
    clear hn hm hne
    go_enter Tryz.func45, Tryz.ntmps45
    go_wp2
    go_ret
    exact ⟨ret_bool HD.out.symm, Drew.refl _⟩
/-- The document's comparison. -/
theorem dsame_any (xs ys : List Int) (n m : Nat) (hn : xs.length = n) (hm : ys.length = m) (ad bd : Option Addr) (cap cap' : Nat) (h1 : n ≤ 268435456) (w : World) (hr : RowAt .u16 w ad xs) (hq : RowAt .u16 w bd ys) :
    Calls Tryz.prog 51 #[.slice ad n cap, .slice bd m cap'] w fun e w' => e = .returned (.bool (decide (xs = ys))) ∧ Below w.heap.size w w' := by
  have HR := hide hr
  have HQ := hide hq
  clear hr hq
  by_cases hne : n = m
  · subst hne
    have HN := hide hn
    have HM := hide hm
    clear hn hm
    go_enter Tryz.func51, Tryz.ntmps51
    go_wp2
    go_loopw [13] (fun i wr => ∃ k : Nat, k ≤ n ∧ i = .int .i64 (k : Int) ∧ Hid (xs.take k = ys.take k) ∧ Below w.heap.size w wr) (fun i _ => n - (intOf i).toNat)
    case atStart => exact ⟨0, by omega, rfl, rfl, Below.refl _ _⟩
    case round =>
      obtain ⟨k, hk, rfl, ht, hb⟩ := hrel
      have HB := hide hb
      clear hb
      by_cases hlt : k < n
      · obtain ⟨b, off, rfl, hc⟩ := (HR.out.below HB.out).get (show k < xs.length by rw [HN.out]; exact hlt)
        obtain ⟨b', off', rfl, hc'⟩ := (HQ.out.below HB.out).get (show k < ys.length by rw [HM.out]; exact hlt)
        have HE := hide (fun e => take_eq_more (show k < xs.length by rw [HN.out]; exact hlt) (show k < ys.length by rw [HM.out]; exact hlt) ht.out e)
        have HF := hide (fun (e : xs = ys) => congrArg (fun l => l.getD k (0 : Int)) e)
        generalize xs.getD k 0 = x at *
        obtain ⟨y, hy⟩ : ∃ y, ys.getD k 0 = y := ⟨_, rfl⟩
        rw [hy] at hc'
        by_cases e : x = y
        · subst e
          have HT := hide (HE.out hy.symm)
          have hxx : (x != x) = false := by simp
          clear hy HE HF
          go_wp2_with fail
          go_quiet (fail)
          go_wp2
          go_roundw
          case rel => exact ⟨k + 1, by omega, by go_num, HT.out, bdN HB.out _⟩
          case measure => simp [intOf]; omega
        · have hxy : (x != y) = true := bne_iff_ne.2 e
          have HD := hide (show decide (xs = ys) = false from decide_eq_false (fun g => e ((HF.out g).trans hy)))
          clear hy HE HF e
          go_wp2_with fail
          go_quiet (fail)
          go_wp2
          go_ret
          exact ⟨ret_bool HD.out.symm, bdN HB.out _⟩
      · obtain rfl : k = n := by omega
        have HD := hide (show decide (xs = ys) = true from decide_eq_true (take_eq_all HN.out HM.out ht.out))
        go_wp2
        go_ret
        exact ⟨ret_bool HD.out.symm, HB.out⟩
  · have hb : ((n : Int) != (m : Int)) = true := bne_iff_ne.2 (by omega)
    have HD := hide (show decide (xs = ys) = false from decide_eq_false (fun g => hne (by rw [← hn, ← hm, g])))
    clear hn hm hne
    go_enter Tryz.func51, Tryz.ntmps51
    go_wp2
    go_ret
    exact ⟨ret_bool HD.out.symm, Below.refl _ _⟩
end Go.Proofs.YtaafhjngnjjcmaaGreatDoor

/- What comes out: what all columns take (allColumns). -/
namespace Go.Proofs.YtaafhjngnjjcmaaGreatDoor
open Go.RowKit

/-- slices.Equal. -/
theorem equal64 (xs ys : List Int) (n m : Nat) (hn : xs.length = n) (hm : ys.length = m) (ad bd : Option Addr) (cap cap' : Nat) (h1 : n ≤ 268435456) (w : World) (hr : RowAt .i64 w ad xs) (hq : RowAt .i64 w bd ys) :
    Calls Tryz.prog 81 #[.slice ad n cap, .slice bd m cap'] w fun e w' => e = .returned (.bool (decide (xs = ys))) ∧ Drew w w' := by
  have HR := hide hr
  have HQ := hide hq
  clear hr hq
  by_cases hne : n = m
  · subst hne
    have HN := hide hn
    have HM := hide hm
    clear hn hm
    go_enter Tryz.func81, Tryz.ntmps81
    go_wp2
    go_loopw [13] (fun i wr => ∃ k : Nat, k ≤ n ∧ i = .int .i64 (k : Int) ∧ Hid (xs.take k = ys.take k) ∧ Drew w wr) (fun i _ => n - (intOf i).toNat)
    case atStart => exact ⟨0, by omega, rfl, rfl, Drew.refl _⟩
    case round =>
      obtain ⟨k, hk, rfl, ht, hb⟩ := hrel
      have HB := hide hb
      clear hb
      by_cases hlt : k < n
      · obtain ⟨b, off, rfl, hc⟩ := (HR.out.below HB.out.below).get (show k < xs.length by rw [HN.out]; exact hlt)
        obtain ⟨b', off', rfl, hc'⟩ := (HQ.out.below HB.out.below).get (show k < ys.length by rw [HM.out]; exact hlt)
        have HE := hide (fun e => take_eq_more (show k < xs.length by rw [HN.out]; exact hlt) (show k < ys.length by rw [HM.out]; exact hlt) ht.out e)
        have HF := hide (fun (e : xs = ys) => congrArg (fun l => l.getD k (0 : Int)) e)
        generalize xs.getD k 0 = x at *
        obtain ⟨y, hy⟩ : ∃ y, ys.getD k 0 = y := ⟨_, rfl⟩
        rw [hy] at hc'
        by_cases e : x = y
        · subst e
          have HT := hide (HE.out hy.symm)
          have hxx : (x != x) = false := by simp
          clear hy HE HF
          go_wp2_with fail
          go_quiet (fail)
          go_wp2
          go_roundw
          case rel => exact ⟨k + 1, by omega, by go_num, HT.out, HB.out.more _⟩
          case measure => simp [intOf]; omega
        · have hxy : (x != y) = true := bne_iff_ne.2 e
          have HD := hide (show decide (xs = ys) = false from decide_eq_false (fun g => e ((HF.out g).trans hy)))
          clear hy HE HF e
          go_wp2_with fail
          go_quiet (fail)
          go_wp2
          go_ret
          exact ⟨ret_bool HD.out.symm, HB.out.more _⟩
      · obtain rfl : k = n := by omega
        have HD := hide (show decide (xs = ys) = true from decide_eq_true (take_eq_all HN.out HM.out ht.out))
        go_wp2
        go_ret
        exact ⟨ret_bool HD.out.symm, HB.out⟩
  · have hb : ((n : Int) != (m : Int)) = true := bne_iff_ne.2 (by omega)
    have HD := hide (show decide (xs = ys) = false from decide_eq_false (fun g => hne (by rw [← hn, ← hm, g])))
    clear hn hm hne
    go_enter Tryz.func81, Tryz.ntmps81
    go_wp2
    go_ret
    exact ⟨ret_bool HD.out.symm, Drew.refl _⟩
/-! ### Spans of any length -/
theorem make64w (n : Nat) (h : n ≤ 2147483647) : ∃ zs : Array Value, (∀ w : World, (Instr.makeSlice 47 (.int .i64 (n : Int)) (.int .i64 (n : Int))).run Tryz.prog w = .ok (.slice (some ⟨w.heap.size, 0, none⟩) n n) (w.alloc (.cells zs 2))) ∧ (∀ (w : World) (B : Nat), B ≤ w.heap.size → OwnI .i64 2 (w.alloc (.cells zs 2)) B (.slice (some ⟨w.heap.size, 0, none⟩) n n) (List.replicate n 0)) := by
  obtain ⟨i0, hi, hz0, hz1, hz2⟩ := info_parts infoI64Q
  have hm : (n : Int) ≤ 9223372036854775807 := by omega
  refine ⟨madeCells (Value.int .i64 0).cells (n * i0.size), fun w => ?_, fun w B hB => ?_⟩
  · have hr := run_make (P := Tryz.prog) w 47 2 i0 (.int .i64 0) Tryz.underlying47 hi hz0 .i64 .i64 n n (by omega) (Int.le_refl _) (by rw [hz2]; omega) hm
    simpa only [Int.toNat_natCast] using hr
  · refine OwnI.made ?_
    rw [hz1]
    exact World.ownsRow_lit w _ n hB (by unfold maxLen; omega) (by rw [size_madeCells])
set_option maxHeartbeats 1000000 in
theorem span_wide (p first n : Int) (c : Nat) (c0 : 1 ≤ c) (c1 : c ≤ 2147483647) (h0 : -9223372036854775808 ≤ first) (h1 : first ≤ 9223372036854775807) (w : World) :
    Calls Tryz.prog 79 #[.int .i64 p, .int .i64 first, .int .i64 (c : Int), .int .i64 n] w fun e w' => ∃ v, e = .returned v ∧ OwnI .i64 2 w' w.heap.size v (spanTo p first n c) ∧ Below w.heap.size w w' := by
  obtain ⟨zs, MK, MO⟩ := make64w c c1
  have HMO := hide MO
  clear MO
  go_enter Tryz.func79, Tryz.ntmps79
  go_wp2
  have O1 := HMO.out w w.heap.size (Nat.le_refl _)
  rw [← padZ_nil] at O1
  have HO1 := hide O1
  have HB1 := hide (ba (Below.refl w.heap.size w) (.cells zs 2))
  clear MK HMO O1
  generalize w.alloc (.cells zs 2) = w1 at *
  go_loopw [21] (fun i wr => ∃ k : Nat, k ≤ c ∧ i = .int .i64 (k : Int) ∧ OwnI .i64 2 wr w.heap.size (.slice (some ⟨w.heap.size, 0, none⟩) c c) (padZ (spanTo p first n k) c) ∧ Below w.heap.size w wr) (fun i _ => c - (intOf i).toNat)
  case atStart => exact ⟨0, by omega, rfl, HO1.out, HB1.out⟩
  case round =>
    clear HO1 HB1
    obtain ⟨k, hk, rfl, ho, hb⟩ := hrel
    have HO := hide ho
    have HB := hide hb
    clear ho hb
    by_cases hlt : k < c
    · have CA := fun w => fixadd_any first (k : Int) h0 h1 (by omega) (by omega) w
      have d0 := holdI0 (first + (k : Int))
      have d1 := holdI1 (first + (k : Int))
      have HS := hide (spanTo_snoc p first n k)
      have LK := spanTo_len p first n k
      have LP := padZ_len (L := spanTo p first n k) (n := c) (by omega)
      have HP := hide (padZ_set LK hlt (atF p (holdI (first + (k : Int))) n))
      have c1 := HO.out.cellAt LP hlt
      have z1 := HO.out.frozenAt LP k
      have ST := HO.out.stored LP k (atF p (holdI (first + (k : Int))) n)
      rw [HP.out, ← HS.out] at ST
      have H5 := hide (And.intro ST (bs HB.out (Nat.le_refl _) (b := w.heap.size) (o := k) (.int .i64 (atF p (holdI (first + (k : Int))) n))))
      clear LK LP HP ST HS
      generalize holdI (first + (k : Int)) = d at *
      have CE := fun w => at_any p d n d0 d1 w
      generalize atF p d n = x at *
      go_wp2_with (first
        | (go_at_call 112; (with_reducible refine (CA _).mono ?_); rintro e w2 ⟨rfl, rfl⟩)
        | (go_at_call 111; (with_reducible refine (CE _).mono ?_); rintro e w2 ⟨rfl, rfl⟩))
      go_roundw
      case rel => exact ⟨k + 1, by omega, by go_num, H5.out.1, H5.out.2⟩
      case measure => simp [intOf]; omega
    · obtain rfl : k = c := by omega
      have O2 := HO.out
      rw [padZ_full (spanTo_len p first n k)] at O2
      have HO2 := hide O2
      clear O2
      go_wp2
      go_ret
      exact ⟨_, rfl, HO2.out, HB.out⟩
/-- A piece of a span is a span. -/
theorem span_part (p f n : Int) {c d m : Nat} (h : d + m ≤ c) : ((spanTo p f n c).drop d).take m = spanTo p (f + (d : Int)) n m := by
  refine List.ext_getElem (by rw [List.length_take, List.length_drop, spanTo_len, spanTo_len]; omega) (fun j h1 h2 => ?_)
  rw [spanTo_len] at h2
  simp only [spanTo, List.getElem_take, List.getElem_drop, List.getElem_map, List.getElem_range]
  congr 2
  omega
/-- What some outputs take holds each one's. -/
theorem reach_all (L : List (Int × List Int)) (k : Int) (o : Nat) (ho : (o : Int) ≤ k) : (0 < o → (reachTo L 0 k o).2.2 = true) ∧ ∀ j, j < o → (reachTo L 0 k o).1 ≤ (lnAt L j).1 ∧ (lnAt L j).1 + ((lnAt L j).2.length : Int) ≤ (reachTo L 0 k o).2.1 := by
  induction o with
  | zero => exact ⟨fun h => absurd h (Nat.lt_irrefl _), fun j hj => absurd hj (Nat.not_lt_zero _)⟩
  | succ o ih =>
    obtain ⟨i1, i2⟩ := ih (by omega)
    have e : reachTo L 0 k (o + 1) = reachStep (reachTo L 0 k o) (lnAt L o).1 (lnAt L o).2.length := if_neg (by omega)
    rw [e]
    unfold reachStep
    by_cases h0 : o = 0
    · subst h0
      rw [if_neg (by show ¬ (false = true); decide)]
      refine ⟨fun _ => rfl, fun j hj => ?_⟩
      obtain rfl : j = 0 := by omega
      exact ⟨Int.le_refl _, Int.le_refl _⟩
    · rw [if_pos (i1 (by omega))]
      refine ⟨fun _ => rfl, fun j hj => ?_⟩
      show min _ _ ≤ _ ∧ _ ≤ max _ _
      by_cases e2 : j = o
      · subst e2
        omega
      · have := i2 j (by omega)
        omega
theorem reach_near {L : List (Int × List Int)} (h : NearL L) (k : Int) (o : Nat) (ho : o ≤ L.length) : -1048576 ≤ (reachTo L 0 k o).1 ∧ (reachTo L 0 k o).2.1 ≤ 2097152 := by
  induction o with
  | zero =>
    show -1048576 ≤ (0 : Int) ∧ (0 : Int) ≤ 2097152
    omega
  | succ o ih =>
    have i := ih (by omega)
    have a := h o (by omega)
    unfold reachTo
    split
    · exact i
    · unfold reachStep
      split
      · show -1048576 ≤ min _ _ ∧ max _ _ ≤ 2097152
        omega
      · exact a
/-! ### Columns in memory -/
theorem infoLineT : (Tryz.prog.info? 92).map (fun i => (i.zero, i.size, i.bytes)) = some (some (.agg #[.slice none 0 0, .slice none 0 0]), 2, 48) := by kernel_rfl
def ColAt (w : World) (B h : Nat) (S : Stg) (i : Nat) : Prop :=
  ∃ pb po pc wb wo wc, w.cell? ⟨h, i * 2, none⟩ = some (.slice (some ⟨pb, po, none⟩) (lnAt S.lx i).2.length pc) ∧ w.cell? ⟨h, i * 2 + 1, none⟩ = some (.slice (some ⟨wb, wo, none⟩) (lnAt S.lx i).2.length wc) ∧
    RowAt .i64 w (some ⟨pb, po, none⟩) (spanTo S.sb (lnAt S.lx i).1 S.fx (lnAt S.lx i).2.length) ∧ RowAt .i64 w (some ⟨wb, wo, none⟩) (lnAt S.lx i).2 ∧ B ≤ pb ∧ B ≤ wb ∧ pb ≠ h ∧ wb ≠ h
theorem ColAt.grown {w w' : World} {B h R : Nat} {S : Stg} {i : Nat} (H : ColAt w B h S i) (hg : w.grownBy w' (some R)) (hR : R < B) (hh : B ≤ h) : ColAt w' B h S i := by
  obtain ⟨pb, po, pc, wb, wo, wc, c0, c1, rp, rw', b0, b1, n0, n1⟩ := H
  have hne : some h ≠ some R := fun e => by have := Option.some.inj e; omega
  exact ⟨pb, po, pc, wb, wo, wc, cg hg hne c0, cg hg hne c1, rp.grown hg (fun e => by have := Option.some.inj e; omega), rw'.grown hg (fun e => by have := Option.some.inj e; omega), b0, b1, n0, n1⟩
theorem ColAt.below {w w' : World} {B h : Nat} {S : Stg} {i : Nat} (H : ColAt w B h S i) (hb : Below w.heap.size w w') : ColAt w' B h S i := by
  obtain ⟨pb, po, pc, wb, wo, wc, c0, c1, rp, rw', r⟩ := H
  exact ⟨pb, po, pc, wb, wo, wc, cb hb (cell_ltL c0) c0, cb hb (cell_ltL c1) c1, rp.below hb, rw'.below hb, r⟩
def ColFill (w : World) (B h n : Nat) (S : Stg) (k : Nat) : Prop := (∀ j, j < n * 2 → (∃ v, w.cell? ⟨h, j, none⟩ = some v) ∧ w.frozen? ⟨h, j, none⟩ = false) ∧ ∀ i, i < k → ColAt w B h S i
theorem ColFill.below {w w' : World} {B h n : Nat} {S : Stg} {k : Nat} (H : ColFill w B h n S k) (hb : Below w.heap.size w w') : ColFill w' B h n S k := by
  refine ⟨fun j hj => ?_, fun i hi => (H.2 i hi).below hb⟩
  obtain ⟨⟨v, c⟩, f⟩ := H.1 j hj
  exact ⟨⟨v, cb hb (cell_ltL c) c⟩, fb hb (cell_ltL c) f⟩
theorem ColFill.put {w : World} {B h n : Nat} {S : Stg} {k : Nat} (H : ColFill w B h n S k) (hk : k < n) {pb po pc wb wo wc m : Nat} (hm : (lnAt S.lx k).2.length = m) (rp : RowAt .i64 w (some ⟨pb, po, none⟩) (spanTo S.sb (lnAt S.lx k).1 S.fx m)) (rw' : RowAt .i64 w (some ⟨wb, wo, none⟩) (lnAt S.lx k).2) (b0 : B ≤ pb) (b1 : B ≤ wb) (n0 : pb ≠ h) (n1 : wb ≠ h) :
    ColFill ((w.setCell ⟨h, k * 2, none⟩ (.slice (some ⟨pb, po, none⟩) m pc)).setCell ⟨h, k * 2 + 1, none⟩ (.slice (some ⟨wb, wo, none⟩) m wc)) B h n S (k + 1) := by
  obtain ⟨hc, hx⟩ := H
  subst hm
  obtain ⟨⟨v0, c0⟩, _⟩ := hc (k * 2) (by omega)
  obtain ⟨⟨v1, c1⟩, _⟩ := hc (k * 2 + 1) (by omega)
  have hg := (grown_set w h (k * 2) (.slice (some ⟨pb, po, none⟩) (lnAt S.lx k).2.length pc)).trans (grown_set _ h (k * 2 + 1) (.slice (some ⟨wb, wo, none⟩) (lnAt S.lx k).2.length wc))
  have E : ∀ j, j ≠ k * 2 → j ≠ k * 2 + 1 → ((w.setCell ⟨h, k * 2, none⟩ (.slice (some ⟨pb, po, none⟩) (lnAt S.lx k).2.length pc)).setCell ⟨h, k * 2 + 1, none⟩ (.slice (some ⟨wb, wo, none⟩) (lnAt S.lx k).2.length wc)).cell? ⟨h, j, none⟩ = w.cell? ⟨h, j, none⟩ := fun j a b => (set_apart (Or.inr (by omega))).trans (set_apart (Or.inr (by omega)))
  have E0 : ((w.setCell ⟨h, k * 2, none⟩ (.slice (some ⟨pb, po, none⟩) (lnAt S.lx k).2.length pc)).setCell ⟨h, k * 2 + 1, none⟩ (.slice (some ⟨wb, wo, none⟩) (lnAt S.lx k).2.length wc)).cell? ⟨h, k * 2, none⟩ = some (.slice (some ⟨pb, po, none⟩) (lnAt S.lx k).2.length pc) :=
    (set_apart (Or.inr (by omega))).trans (World.cell?_setCell_same' _ _ _ (by rw [c0]; rfl))
  have E1 : ((w.setCell ⟨h, k * 2, none⟩ (.slice (some ⟨pb, po, none⟩) (lnAt S.lx k).2.length pc)).setCell ⟨h, k * 2 + 1, none⟩ (.slice (some ⟨wb, wo, none⟩) (lnAt S.lx k).2.length wc)).cell? ⟨h, k * 2 + 1, none⟩ = some (.slice (some ⟨wb, wo, none⟩) (lnAt S.lx k).2.length wc) :=
    World.cell?_setCell_same' _ _ _ (by rw [set_apart (Or.inr (by omega)), c1]; rfl)
  have K : ∀ {b o : Nat} {xs : List Int}, b ≠ h → RowAt .i64 w (some ⟨b, o, none⟩) xs → RowAt .i64 ((w.setCell ⟨h, k * 2, none⟩ (.slice (some ⟨pb, po, none⟩) (lnAt S.lx k).2.length pc)).setCell ⟨h, k * 2 + 1, none⟩ (.slice (some ⟨wb, wo, none⟩) (lnAt S.lx k).2.length wc)) (some ⟨b, o, none⟩) xs := fun hne r => r.grown hg (fun e => hne (Option.some.inj e))
  refine ⟨fun j hj => ?_, fun i hi => ?_⟩
  · simp only [World.frozen?_setCell]
    refine ⟨?_, (hc j hj).2⟩
    by_cases a : j = k * 2
    · subst a; exact ⟨_, E0⟩
    by_cases b : j = k * 2 + 1
    · subst b; exact ⟨_, E1⟩
    rw [E j a b]
    exact (hc j hj).1
  · by_cases e : i = k
    · subst e
      exact ⟨pb, po, pc, wb, wo, wc, E0, E1, K n0 rp, K n1 rw', b0, b1, n0, n1⟩
    · obtain ⟨pb', po', pc', wb', wo', wc', d0, d1, rp', rw'', b0', b1', n0', n1'⟩ := hx i (by omega)
      exact ⟨pb', po', pc', wb', wo', wc', (E _ (by omega) (by omega)).trans d0, (E _ (by omega) (by omega)).trans d1, K n0' rp', K n1' rw'', b0', b1', n0', n1'⟩
/-- What 'make' makes of lines. -/
theorem makeCol (n : Nat) (h : n ≤ 1048576) : ∃ zs : Array Value, (∀ w : World, (Instr.makeSlice 88 (.int .i64 (n : Int)) (.int .i64 (n : Int))).run Tryz.prog w = .ok (.slice (some ⟨w.heap.size, 0, none⟩) n n) (w.alloc (.cells zs 92))) ∧ (∀ (w : World) (B : Nat) (S : Stg), ColFill (w.alloc (.cells zs 92)) B w.heap.size n S 0) := by
  obtain ⟨i0, hi, hz0, hz1, hz2⟩ := info_parts infoLineT
  have hm : (n : Int) ≤ 9223372036854775807 := by omega
  refine ⟨madeCells (Value.agg #[.slice none 0 0, .slice none 0 0]).cells (n * i0.size), fun w => ?_, fun w B S => ?_⟩
  · have hr := run_make (P := Tryz.prog) w 88 92 i0 (.agg #[.slice none 0 0, .slice none 0 0]) Tryz.underlying88 hi hz0 .i64 .i64 n n (by omega) (Int.le_refl _) (by rw [hz2]; omega) hm
    simpa only [Int.toNat_natCast] using hr
  · rw [hz1]
    have ho : (w.alloc (.cells (madeCells (Value.agg #[.slice none 0 0, .slice none 0 0]).cells (n * 2)) 92)).ownsRow 0 92 2 (.slice (some ⟨w.heap.size, 0, none⟩) n n) n (madeCells (Value.agg #[.slice none 0 0, .slice none 0 0]).cells (n * 2)).toList :=
      World.ownsRow_lit w _ n (Nat.zero_le _) (by unfold maxLen; omega) (by rw [size_madeCells])
    have hl := ho.1
    refine ⟨fun j hj => ⟨?_, ho.frozenAt j⟩, fun i hi => absurd hi (Nat.not_lt_zero _)⟩
    rw [ho.cellAt j hj]
    exact ⟨_, List.getElem?_eq_getElem (by omega)⟩
end Go.Proofs.YtaafhjngnjjcmaaGreatDoor
