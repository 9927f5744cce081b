/- Rows of samples: made, copied, compared, their greatest one; new images. -/
import Derived.Test.YtoppojilndnghaaDoorS09C
import Derived.OpenShut
import Derived.Lib.LazyBuf
namespace Go.Proofs.YtoppojilndnghaaDoor
open Go.RowKit


theorem infoU16 : (Tryd.prog.info? 36).map (fun i => (i.zero, i.size, i.bytes)) = some (some (.int .u16 0), 1, 2) := by kernel_rfl
theorem make16 (n : Nat) (h : n ≤ 268435456) : ∃ zs : Array Value, (∀ w : World, (Instr.makeSlice 28 (.int .i64 (n : Int)) (.int .i64 (n : Int))).run Tryd.prog w = .ok (.slice (some ⟨w.heap.size, 0, none⟩) n n) (w.alloc (.cells zs 36))) ∧ (∀ (w : World) (B : Nat), B ≤ w.heap.size → OwnI .u16 36 (w.alloc (.cells zs 36)) B (.slice (some ⟨w.heap.size, 0, none⟩) n n) (List.replicate n 0)) := by
  obtain ⟨i0, hi, hz0, hz1, hz2⟩ := info_parts infoU16
  have hm : (n : Int) ≤ 9223372036854775807 := by omega
  refine ⟨madeCells (Value.int .u16 0).cells (n * i0.size), fun w => ?_, fun w B hB => ?_⟩
  · have hr := run_make (P := Tryd.prog) w 28 36 i0 (.int .u16 0) Tryd.underlying28 hi hz0 .i64 .i64 n n (by omega) (Int.le_refl _) (by rw [hz2]; omega) hm
    simpa only [Int.toNat_natCast] using hr
  · refine OwnI.made ?_
    rw [hz1]
    exact World.ownsRow_lit w _ n hB (by unfold maxLen; omega) (by rw [size_madeCells])
/-- slices.Clone. -/
theorem clone16 (xs : List Int) (n : Nat) (hn : xs.length = n) (b off cap : Nat) (h1 : n ≤ 268435456) (w : World) (hr : RowAt .u16 w (some ⟨b, off, none⟩) xs) :
    Calls Tryd.prog 35 #[.slice (some ⟨b, off, none⟩) n cap] w fun e w' => ∃ v, e = .returned v ∧ OwnI .u16 36 w' w.heap.size v xs ∧ Below w.heap.size w w' := by
  have HR := hide hr
  have HN := hide hn
  obtain ⟨i0, hi, hz0, hz1, hz2⟩ := info_parts infoU16
  have q : ∀ w : World, (binOp .eql 28 (.slice (some ⟨b, off, none⟩) n cap) (.slice none 0 0)).run Tryd.prog w = .ok (.bool false) w := fun w => Lib.run_eql_slice_nil w _ _ _ n cap 0 0 Tryd.underlying28
  clear hr hn
  go_enter Tryd.func35, Tryd.ntmps35
  go_wp2_with (at_builtin; refine wpList_append_row .u16 _ rfl _ _ 28 rfl w.heap.size 36 i0 (.int .u16 0) 2 Tryd.underlying28 hi hz0 hz1 hz2 rfl (.slice (some ⟨w.heap.size, 0, none⟩) 0 0) [] rfl (own_lit0 _ _ _ _ (Nat.le_refl _)) (some ⟨b, off, none⟩) n cap xs rfl HN.out (HR.out.below (below1 _ _)) (fun e => by cases e) (by simp; unfold maxLen; omega) (by simp; omega) (by simp) ?_; intro v1 w2 own2 grow2 _; have bw2 := grown_lit (Below.refl _ _) grow2; rw [List.nil_append] at own2)
  go_ret
  exact ⟨v1, rfl, own2, bw2⟩
/-- The greatest one of the first ones. -/
def mxTo (xs : List Int) : Nat → Int
  | 0 => xs.getD 0 0
  | k + 1 => max (mxTo xs k) (xs.getD k 0)
theorem mxTo_one (xs : List Int) : mxTo xs 1 = xs.getD 0 0 := by
  show max (xs.getD 0 0) (xs.getD 0 0) = _
  omega
theorem mxTo_in {xs : List Int} (h : ∀ x ∈ xs, 0 ≤ x ∧ x ≤ 65535) (h0 : 1 ≤ xs.length) : ∀ k, k ≤ xs.length → 0 ≤ mxTo xs k ∧ mxTo xs k ≤ 65535
  | 0, _ => allK_u16 h (by omega)
  | k + 1, hk => by
    have a := mxTo_in h h0 k (by omega)
    have b := allK_u16 h (show k < xs.length by omega)
    show 0 ≤ max (mxTo xs k) (xs.getD k 0) ∧ max (mxTo xs k) (xs.getD k 0) ≤ 65535
    omega
theorem mxTo_le {xs : List Int} {t : Int} : ∀ k, 1 ≤ k → (mxTo xs k ≤ t ↔ ∀ j, j < k → xs.getD j 0 ≤ t)
  | 0, h => absurd h (by omega)
  | 1, _ => by
    rw [mxTo_one]
    exact ⟨fun h j hj => by obtain rfl : j = 0 := by omega
                            exact h, fun h => h 0 (by omega)⟩
  | k + 2, _ => by
    have ih := mxTo_le (xs := xs) (t := t) (k + 1) (by omega)
    show max (mxTo xs (k + 1)) (xs.getD (k + 1) 0) ≤ t ↔ _
    constructor
    · intro h j hj
      by_cases e : j = k + 1
      · subst e; omega
      · exact ih.1 (by omega) j (by omega)
    · intro h
      have a := ih.2 (fun j hj => h j (by omega))
      have b := h (k + 1) (by omega)
      omega
theorem mx_all {xs : List Int} {t : Int} (h0 : 1 ≤ xs.length) : mxTo xs xs.length ≤ t ↔ ∀ x ∈ xs, x ≤ t := by
  rw [mxTo_le _ h0]
  constructor
  · intro h x hx
    obtain ⟨j, hj, rfl⟩ := List.mem_iff_getElem.1 hx
    have := h j hj
    rw [List.getD_eq_getElem?_getD, List.getElem?_eq_getElem hj] at this
    exact this
  · intro h j hj
    rw [List.getD_eq_getElem?_getD, List.getElem?_eq_getElem hj]
    exact h _ (List.getElem_mem hj)
/-- slices.Max. -/
theorem max16 (xs : List Int) (n : Nat) (hn : xs.length = n) (ad : Option Addr) (cap : Nat) (h0 : 1 ≤ n) (h1 : n ≤ 268435456) (hx : ∀ x ∈ xs, 0 ≤ x ∧ x ≤ 65535) (w : World) (hr : RowAt .u16 w ad xs) :
    Calls Tryd.prog 39 #[.slice ad n cap] w fun e w' => e = .returned (.int .u16 (mxTo xs n)) ∧ w = w' := by
  have HR := hide hr
  have HN := hide hn
  have HX := hide hx
  obtain ⟨b, off, rfl, c0⟩ := hr.get (show 0 < xs.length by omega)
  rw [← mxTo_one, Nat.add_zero] at c0
  have HI := hide (fun k hk => mxTo_in hx (show 1 ≤ xs.length by omega) k hk)
  clear hr hn hx
  go_enter Tryd.func39, Tryd.ntmps39
  go_wp2
  go_loopw [3, 4] (fun m i wr => ∃ k : Nat, 1 ≤ k ∧ k ≤ n ∧ i = .int .i64 (k : Int) ∧ m = .int .u16 (mxTo xs k) ∧ wr = w) (fun _ i _ => n - (intOf i).toNat)
  case atStart => exact ⟨1, by omega, by omega, rfl, rfl, rfl⟩
  case round =>
    obtain ⟨k, hk0, hk, rfl, rfl, rfl⟩ := hrel
    clear c0
    by_cases hlt : k < n
    · have hc := HR.out.at (show k < xs.length by rw [HN.out]; exact hlt)
      have hm := HI.out k (by rw [HN.out]; exact hk)
      have hy := allK_u16 HX.out (show k < xs.length by rw [HN.out]; exact hlt)
      have HS := hide (show mxTo xs (k + 1) = max (mxTo xs k) (xs.getD k 0) from rfl)
      generalize xs.getD k 0 = x at *
      generalize mxTo xs k = m at *
      go_wp2
      go_roundw
      case rel => exact ⟨k + 1, by omega, by omega, by go_num, (by rw [HS.out]; exact congrArg _ (by split <;> omega)), trivial⟩
      case measure => simp [intOf]; omega
    · obtain rfl : k = n := by omega
      go_wp2
      go_ret
      exact ⟨rfl, rfl⟩
theorem take_eq_all {xs ys : List Int} {n : Nat} (hx : xs.length = n) (hy : ys.length = n) (h : xs.take n = ys.take n) : xs = ys := by
  rwa [List.take_of_length_le (by omega), List.take_of_length_le (by omega)] at h
theorem take_eq_more {xs ys : List Int} {k : Nat} (hx : k < xs.length) (hy : k < ys.length) (h : xs.take k = ys.take k) (e : xs.getD k 0 = ys.getD k 0) : xs.take (k + 1) = ys.take (k + 1) := by
  rw [take_step xs hx, take_step ys hy, h, e]
/-- slices.Equal. -/
theorem equal16 (xs ys : List Int) (n m : Nat) (hn : xs.length = n) (hm : ys.length = m) (ad bd : Option Addr) (cap cap' : Nat) (h1 : n ≤ 268435456) (w : World) (hr : RowAt .u16 w ad xs) (hq : RowAt .u16 w bd ys) :
    Calls Tryd.prog 34 #[.slice ad n cap, .slice bd m cap'] w fun e w' => e = .returned (.bool (decide (xs = ys))) ∧ Drew w w' := by
  have HR := hide hr
  have HQ := hide hq
  clear hr hq
  by_cases hne : n = m
  · subst hne
    have HN := hide hn
    have HM := hide hm
    clear hn hm
    go_enter Tryd.func34, Tryd.ntmps34
    go_wp2
    go_loopw [13] (fun i wr => ∃ k : Nat, k ≤ n ∧ i = .int .i64 (k : Int) ∧ Hid (xs.take k = ys.take k) ∧ Drew w wr) (fun i _ => n - (intOf i).toNat)
    case atStart => exact ⟨0, by omega, rfl, rfl, Drew.refl _⟩
    case round =>
      obtain ⟨k, hk, rfl, ht, hb⟩ := hrel
      have HB := hide hb
      clear hb
      by_cases hlt : k < n
      · obtain ⟨b, off, rfl, hc⟩ := (HR.out.below HB.out.below).get (show k < xs.length by rw [HN.out]; exact hlt)
        obtain ⟨b', off', rfl, hc'⟩ := (HQ.out.below HB.out.below).get (show k < ys.length by rw [HM.out]; exact hlt)
        have HE := hide (fun e => take_eq_more (show k < xs.length by rw [HN.out]; exact hlt) (show k < ys.length by rw [HM.out]; exact hlt) ht.out e)
        have HF := hide (fun (e : xs = ys) => congrArg (fun l => l.getD k (0 : Int)) e)
        generalize xs.getD k 0 = x at *
        obtain ⟨y, hy⟩ : ∃ y, ys.getD k 0 = y := ⟨_, rfl⟩
        rw [hy] at hc'
        by_cases e : x = y
        · subst e
          have HT := hide (HE.out hy.symm)
          have hxx : (x != x) = false := by simp
          clear hy HE HF
          go_wp2_with fail
          go_quiet (fail)
          go_wp2
          go_roundw
          case rel => exact ⟨k + 1, by omega, by go_num, HT.out, HB.out.more _⟩
          case measure => simp [intOf]; omega
        · have hxy : (x != y) = true := bne_iff_ne.2 e
          have HD := hide (show decide (xs = ys) = false from decide_eq_false (fun g => e ((HF.out g).trans hy)))
          clear hy HE HF e
          go_wp2_with fail
          go_quiet (fail)
          go_wp2
          go_ret
          exact ⟨ret_bool HD.out.symm, HB.out.more _⟩
      · obtain rfl : k = n := by omega
        have HD := hide (show decide (xs = ys) = true from decide_eq_true (take_eq_all HN.out HM.out ht.out))
        go_wp2
        go_ret
        exact ⟨ret_bool HD.out.symm, HB.out⟩
  · have hb : ((n : Int) != (m : Int)) = true := bne_iff_ne.2 (by omega)
    have HD := hide (show decide (xs = ys) = false from decide_eq_false (fun g => hne (by rw [← hn, ← hm, g])))
    clear hn hm hne
    go_enter Tryd.func34, Tryd.ntmps34
    go_wp2
    go_ret
    exact ⟨ret_bool HD.out.symm, Drew.refl _⟩
/-- The document's comparison. -/
theorem dsame_any (xs ys : List Int) (n m : Nat) (hn : xs.length = n) (hm : ys.length = m) (ad bd : Option Addr) (cap cap' : Nat) (h1 : n ≤ 268435456) (w : World) (hr : RowAt .u16 w ad xs) (hq : RowAt .u16 w bd ys) :
    Calls Tryd.prog 28 #[.slice ad n cap, .slice bd m cap'] w fun e w' => e = .returned (.bool (decide (xs = ys))) ∧ Below w.heap.size w w' := by
  have HR := hide hr
  have HQ := hide hq
  clear hr hq
  by_cases hne : n = m
  · subst hne
    have HN := hide hn
    have HM := hide hm
    clear hn hm
    go_enter Tryd.func28, Tryd.ntmps28
    go_wp2
    go_loopw [13] (fun i wr => ∃ k : Nat, k ≤ n ∧ i = .int .i64 (k : Int) ∧ Hid (xs.take k = ys.take k) ∧ Below w.heap.size w wr) (fun i _ => n - (intOf i).toNat)
    case atStart => exact ⟨0, by omega, rfl, rfl, Below.refl _ _⟩
    case round =>
      obtain ⟨k, hk, rfl, ht, hb⟩ := hrel
      have HB := hide hb
      clear hb
      by_cases hlt : k < n
      · obtain ⟨b, off, rfl, hc⟩ := (HR.out.below HB.out).get (show k < xs.length by rw [HN.out]; exact hlt)
        obtain ⟨b', off', rfl, hc'⟩ := (HQ.out.below HB.out).get (show k < ys.length by rw [HM.out]; exact hlt)
        have HE := hide (fun e => take_eq_more (show k < xs.length by rw [HN.out]; exact hlt) (show k < ys.length by rw [HM.out]; exact hlt) ht.out e)
        have HF := hide (fun (e : xs = ys) => congrArg (fun l => l.getD k (0 : Int)) e)
        generalize xs.getD k 0 = x at *
        obtain ⟨y, hy⟩ : ∃ y, ys.getD k 0 = y := ⟨_, rfl⟩
        rw [hy] at hc'
        by_cases e : x = y
        · subst e
          have HT := hide (HE.out hy.symm)
          have hxx : (x != x) = false := by simp
          clear hy HE HF
          go_wp2_with fail
          go_quiet (fail)
          go_wp2
          go_roundw
          case rel => exact ⟨k + 1, by omega, by go_num, HT.out, bdN HB.out _⟩
          case measure => simp [intOf]; omega
        · have hxy : (x != y) = true := bne_iff_ne.2 e
          have HD := hide (show decide (xs = ys) = false from decide_eq_false (fun g => e ((HF.out g).trans hy)))
          clear hy HE HF e
          go_wp2_with fail
          go_quiet (fail)
          go_wp2
          go_ret
          exact ⟨ret_bool HD.out.symm, bdN HB.out _⟩
      · obtain rfl : k = n := by omega
        have HD := hide (show decide (xs = ys) = true from decide_eq_true (take_eq_all HN.out HM.out ht.out))
        go_wp2
        go_ret
        exact ⟨ret_bool HD.out.symm, HB.out⟩
  · have hb : ((n : Int) != (m : Int)) = true := bne_iff_ne.2 (by omega)
    have HD := hide (show decide (xs = ys) = false from decide_eq_false (fun g => hne (by rw [← hn, ← hm, g])))
    clear hn hm hne
    go_enter Tryd.func28, Tryd.ntmps28
    go_wp2
    go_ret
    exact ⟨ret_bool HD.out.symm, Below.refl _ _⟩
end Go.Proofs.YtoppojilndnghaaDoor
