/- Parts, joined. -/
import Derived.Test.YtaafhjngnjjcmaaGreatDoorJ03
import Derived.Test.YtaafhjngnjjcmaaGreatDoorJ18
import Derived.Test.YtaafhjngnjjcmaaGreatDoorJ12
import Derived.Deep.RegionLaw
import Derived.Laws.CopyOwn
import Derived.OpenShut
import Derived.Shelf.SlSortCmp.Insertion
import Derived.Sort.Statements
/- Slices of numbers that are made whole and filled, number by number. No number of the program stands in it. -/
namespace Go.Proofs.YtaafhjngnjjcmaaGreatDoor
open Go.RowKit


/-- 'make' of so many, as one step of a region that draws its order. -/
theorem step_make_full {P : Program} {ops : Array Oper} {o : Oper} {a : Act} {w : World} {K : Act → World → Prop} {Q : Exit → Act → World → Prop} {E : Prop}
    (hg : o.guard = none) (l c : Operand) (t : TypeId) (hop : o.op = Op.makeSlice t l c)
    (base : Nat) (e : TypeId) (i : TypeInfo) (z : Value) (size : Nat) (h1 : P.underlying t = some (.slice e)) (h2 : P.info? e = some i) (h3 : i.zero = some z) (h4 : i.size = size)
    (kl kc : IntKind) (L C : Int) (n : Nat) (hl : a.eval l = .int kl L) (hc : a.eval c = .int kc C) (hL : L = (n : Int)) (hC : C = (n : Int)) (b2 : i.bytes * n ≤ 281474976710656) (b3 : n ≤ maxLen) (b4 : base ≤ w.heap.size)
    (hK : ∀ w', w'.ownsRow base e size (.slice (some ⟨w.heap.size, 0, none⟩) n n) n (madeCells z.cells (n * size)).toList → w.grownBy w' none → K (a.put o.dst (.slice (some ⟨w.heap.size, 0, none⟩) n n)) w') :
    if Region.wanted o (yielded ops a.tmps) = true then Oper.wp P o a w K Q else E := by
  have hw : Region.wanted o (yielded ops a.tmps) = true := by simp [Region.wanted, hg]
  rw [if_pos hw]
  obtain ⟨w', hrun, r1, r2⟩ := run_make_full (P := P) w base t e i z size h1 h2 h3 h4 kl kc n b2 b3 b4
  subst hL
  subst hC
  unfold Oper.wp
  simp [execOp, hop, hl, hc, hrun, Result.andThen]
  exact hK w' r1 r2
/-- What is made owns noughts. -/
theorem OwnI.made {k : IntKind} {T : TypeId} {w : World} {base : Nat} {v : Value} {n : Nat} (h : w.ownsRow base T 1 v n (madeCells (Value.int k 0).cells (n * 1)).toList) : OwnI k T w base v (List.replicate n 0) := by
  unfold OwnI
  rw [List.length_replicate, List.map_replicate, ← toList_madeCells_one]
  rw [Nat.mul_one] at h
  exact h
/-- So many numbers, the rest nought. -/
def padZ (L : List Int) (n : Nat) : List Int := L ++ List.replicate (n - L.length) 0
theorem padZ_nil (n : Nat) : padZ [] n = List.replicate n 0 := by unfold padZ; simp
theorem padZ_len {L : List Int} {n : Nat} (h : L.length ≤ n) : (padZ L n).length = n := by unfold padZ; rw [List.length_append, List.length_replicate]; omega
theorem padZ_full {L : List Int} {n : Nat} (h : L.length = n) : padZ L n = L := by unfold padZ; rw [h, Nat.sub_self]; simp
theorem padZ_set {L : List Int} {n j : Nat} (hj : L.length = j) (h : j < n) (x : Int) : (padZ L n).set j x = padZ (L ++ [x]) n := by
  subst hj
  unfold padZ
  rw [List.set_append_right _ _ (Nat.le_refl _), Nat.sub_self, List.length_append, List.length_singleton]
  obtain ⟨d, hd⟩ : ∃ d, n - L.length = d + 1 := ⟨n - L.length - 1, by omega⟩
  rw [hd, show n - (L.length + 1) = d by omega, List.replicate_succ, List.set_cons_zero, List.append_assoc]
  rfl
/-- Filled so far. -/
def fillZ (F : Int → Int) (xs : List Int) (n j : Nat) : List Int := padZ ((xs.take j).map F) n
theorem fillZ_zero (F : Int → Int) (xs : List Int) (n : Nat) : fillZ F xs n 0 = List.replicate n 0 := by unfold fillZ; rw [List.take_zero, List.map_nil, padZ_nil]
theorem fillZ_len {F : Int → Int} {xs : List Int} {n j : Nat} (hx : xs.length = n) : (fillZ F xs n j).length = n := padZ_len (by rw [List.length_map, List.length_take]; omega)
theorem fillZ_all {F : Int → Int} {xs : List Int} {n : Nat} (hx : xs.length = n) : fillZ F xs n n = xs.map F := by
  unfold fillZ
  rw [List.take_of_length_le (by omega), padZ_full (by rw [List.length_map]; exact hx)]
theorem fillZ_set {F : Int → Int} {xs : List Int} {n j : Nat} (hx : xs.length = n) (h : j < n) : (fillZ F xs n j).set j (F (xs.getD j 0)) = fillZ F xs n (j + 1) := by
  unfold fillZ
  rw [padZ_set (by rw [List.length_map, List.length_take]; omega) h, take_step xs (by omega), List.map_append]
  rfl
theorem OwnI.of_block {k : IntKind} {T : TypeId} {w : World} {base g n : Nat} {xs : List Int} (hg : w.heap[g]? = some (.cells (xs.map (Value.int k)).toArray T (0, 0))) (hn : xs.length = n) (hb : base ≤ g) (hm : n ≤ maxLen) : OwnI k T w base (.slice (some ⟨g, 0, none⟩) n n) xs := by
  subst hn
  exact ⟨by simp, Or.inr ⟨g, xs.length, _, rfl, hb, hg, Nat.le_refl _, hm, by simp, by rw [List.toList_toArray, Nat.mul_one]; exact List.take_of_length_le (by rw [List.length_map]; exact Nat.le_refl _)⟩⟩
/-- 'copy' into a block that is known whole: what the call answers, and what the block holds then. -/
theorem copy_run {P : Program} (w : World) (dT sT ty elem : TypeId) (hu : P.underlying dT = some (.slice elem)) (hs : (P.info? elem).map (·.size) = some 1) (g o dLen dCap : Nat) (a : Addr) (sLen sCap : Nat) (cur : List Value) (t : TypeId) (cs : List Value) (c : Nat)
    (hg : w.heap[g]? = some (.cells cur.toArray t (0, 0))) (hc : cs.length = c) (hn : c = Nat.min sLen dLen)
    (hsrc : ∀ j v, cs[j]? = some v → w.cell? (a.add j) = some v) (hfit : o + c ≤ cur.length) (h1 : ∀ v ∈ cs, v.oneCell' = true) (B : Nat) (hB : B ≤ g) :
    ∃ w', (Builtin.copy_ #[dT, sT] ty #[.slice (some ⟨g, o, none⟩) dLen dCap, .slice (some a) sLen sCap]).run P w = .ok (.int .i64 (c : Int)) w' ∧ w'.heap[g]? = some (.cells (splice cur o cs).toArray t (0, 0)) ∧ Below B w w' := by
  subst hc
  refine ⟨_, run_copy_row (P := P) w dT sT ty elem g o dLen dCap a sLen sCap cur.toArray t cs hu hs hg hn hsrc (by simpa using hfit) h1, ?_, below_setRow (Below.refl _ _) hB _⟩
  simpa [splice] using setRow_heap w g _ _ t _ hg
theorem below_made {w w1 w2 : World} (h : Below w.heap.size w w1) (hg : w1.grownBy w2 none) : Below w.heap.size w w2 := h.grown hg h.size (fun j hj => by cases hj)
end Go.Proofs.YtaafhjngnjjcmaaGreatDoor

/- What 'make' makes of numbers of 64 bits. -/
namespace Go.Proofs.YtaafhjngnjjcmaaGreatDoor
open Go.RowKit


theorem infoI64Q : (Tryz.prog.info? 2).map (fun i => (i.zero, i.size, i.bytes)) = some (some (.int .i64 0), 1, 8) := by kernel_rfl
theorem make64 (n : Nat) (h : n ≤ 1048576) : ∃ zs : Array Value, (∀ w : World, (Instr.makeSlice 47 (.int .i64 (n : Int)) (.int .i64 (n : Int))).run Tryz.prog w = .ok (.slice (some ⟨w.heap.size, 0, none⟩) n n) (w.alloc (.cells zs 2))) ∧ (∀ (w : World) (B : Nat), B ≤ w.heap.size → OwnI .i64 2 (w.alloc (.cells zs 2)) B (.slice (some ⟨w.heap.size, 0, none⟩) n n) (List.replicate n 0)) ∧ zs.toList = List.replicate n (.int .i64 0) := by
  obtain ⟨i0, hi, hz0, hz1, hz2⟩ := info_parts infoI64Q
  have hm : (n : Int) ≤ 9223372036854775807 := by omega
  refine ⟨madeCells (Value.int .i64 0).cells (n * i0.size), fun w => ?_, fun w B hB => ?_, ?_⟩
  · have hr := run_make (P := Tryz.prog) w 47 2 i0 (.int .i64 0) Tryz.underlying47 hi hz0 .i64 .i64 n n (by omega) (Int.le_refl _) (by rw [hz2]; omega) hm
    simpa only [Int.toNat_natCast] using hr
  · refine OwnI.made ?_
    rw [hz1]
    exact World.ownsRow_lit w _ n hB (by unfold maxLen; omega) (by rw [size_madeCells])
  · rw [hz1, Nat.mul_one]; exact toList_madeCells_one _ _
end Go.Proofs.YtaafhjngnjjcmaaGreatDoor

/- What stands beyond the edge: so many, one behind the other; and the laws. -/
namespace Go.Proofs.YtaafhjngnjjcmaaGreatDoor
open Go.RowKit


/-- Those of first, and of so many behind it. -/
def spanTo (p first n : Int) (j : Nat) : List Int := (List.range j).map fun k : Nat => atF p (holdI (first + (k : Int))) n
theorem spanTo_snoc (p first n : Int) (j : Nat) : spanTo p first n (j + 1) = spanTo p first n j ++ [atF p (holdI (first + (j : Int))) n] := by unfold spanTo; rw [List.range_succ, List.map_append]; rfl
theorem spanTo_len (p first n : Int) (j : Nat) : (spanTo p first n j).length = j := by unfold spanTo; rw [List.length_map, List.length_range]
theorem span_none (p first c n : Int) (h : c ≤ 0) (w : World) :
    Calls Tryz.prog 79 #[.int .i64 p, .int .i64 first, .int .i64 c, .int .i64 n] w fun e w' => e = .returned (.slice none 0 0) ∧ w = w' := by
  go_enter Tryz.func79, Tryz.ntmps79
  go_wp2
  go_ret
  exact ⟨rfl, rfl⟩
set_option maxHeartbeats 1000000 in
theorem span_some (p first n : Int) (c : Nat) (c0 : 1 ≤ c) (c1 : c ≤ 1048576) (h0 : -9223372036854775808 ≤ first) (h1 : first ≤ 9223372036854775807) (w : World) :
    Calls Tryz.prog 79 #[.int .i64 p, .int .i64 first, .int .i64 (c : Int), .int .i64 n] w fun e w' => ∃ v, e = .returned v ∧ OwnI .i64 2 w' w.heap.size v (spanTo p first n c) ∧ Below w.heap.size w w' := by
  obtain ⟨zs, MK, MO, _⟩ := make64 c c1
  have HMO := hide MO
  clear MO
  go_enter Tryz.func79, Tryz.ntmps79
  go_wp2
  have O1 := HMO.out w w.heap.size (Nat.le_refl _)
  rw [← padZ_nil] at O1
  have HO1 := hide O1
  have HB1 := hide (ba (Below.refl w.heap.size w) (.cells zs 2))
  clear MK HMO O1
  generalize w.alloc (.cells zs 2) = w1 at *
  go_loopw [21] (fun i wr => ∃ k : Nat, k ≤ c ∧ i = .int .i64 (k : Int) ∧ OwnI .i64 2 wr w.heap.size (.slice (some ⟨w.heap.size, 0, none⟩) c c) (padZ (spanTo p first n k) c) ∧ Below w.heap.size w wr) (fun i _ => c - (intOf i).toNat)
  case atStart => exact ⟨0, by omega, rfl, HO1.out, HB1.out⟩
  case round =>
    clear HO1 HB1
    obtain ⟨k, hk, rfl, ho, hb⟩ := hrel
    have HO := hide ho
    have HB := hide hb
    clear ho hb
    by_cases hlt : k < c
    · have CA := fun w => fixadd_any first (k : Int) h0 h1 (by omega) (by omega) w
      have d0 := holdI0 (first + (k : Int))
      have d1 := holdI1 (first + (k : Int))
      have HS := hide (spanTo_snoc p first n k)
      have LK := spanTo_len p first n k
      have LP := padZ_len (L := spanTo p first n k) (n := c) (by omega)
      have HP := hide (padZ_set LK hlt (atF p (holdI (first + (k : Int))) n))
      have c1 := HO.out.cellAt LP hlt
      have z1 := HO.out.frozenAt LP k
      have ST := HO.out.stored LP k (atF p (holdI (first + (k : Int))) n)
      rw [HP.out, ← HS.out] at ST
      have H5 := hide (And.intro ST (bs HB.out (Nat.le_refl _) (b := w.heap.size) (o := k) (.int .i64 (atF p (holdI (first + (k : Int))) n))))
      clear LK LP HP ST HS
      generalize holdI (first + (k : Int)) = d at *
      have CE := fun w => at_any p d n d0 d1 w
      generalize atF p d n = x at *
      go_wp2_with (first
        | (go_at_call 112; (with_reducible refine (CA _).mono ?_); rintro e w2 ⟨rfl, rfl⟩)
        | (go_at_call 111; (with_reducible refine (CE _).mono ?_); rintro e w2 ⟨rfl, rfl⟩))
      go_roundw
      case rel => exact ⟨k + 1, by omega, by go_num, H5.out.1, H5.out.2⟩
      case measure => simp [intOf]; omega
    · obtain rfl : k = c := by omega
      have O2 := HO.out
      rw [padZ_full (spanTo_len p first n k)] at O2
      have HO2 := hide O2
      clear O2
      go_wp2
      go_ret
      exact ⟨_, rfl, HO2.out, HB.out⟩
end Go.Proofs.YtaafhjngnjjcmaaGreatDoor

/- What one sample stands for goes together: places and weights. Plain; no number of the program stands in it. -/
namespace Go.Proofs.YtaafhjngnjjcmaaGreatDoor
open Go.RowKit

theorem tapS_low {xa xb : List Int} {g : Nat → Int} (n : Nat) (h : ∀ j, j < n → xa.getD j 0 = xb.getD j 0) : tapS xa g n = tapS xb g n := by
  induction n with
  | zero => rfl
  | succ n ih => show tapS xa g n + xa.getD n 0 * g n = tapS xb g n + xb.getD n 0 * g n; rw [ih (fun j hj => h j (by omega)), h n (by omega)]
theorem tapS_set {ws : List Int} {i n : Nat} (hi : i < n) (hn : n ≤ ws.length) (d : Int) (g : Nat → Int) : tapS (ws.set i (ws.getD i 0 + d)) g n = tapS ws g n + d * g i := by
  induction n with
  | zero => omega
  | succ n ih =>
    show tapS (ws.set i _) g n + (ws.set i _).getD n 0 * g n = tapS ws g n + ws.getD n 0 * g n + d * g i
    rw [getD_set _ _ _ _ (by omega)]
    by_cases e : i = n
    · subst e
      rw [if_pos rfl, tapS_low (xb := ws) i (fun j hj => by rw [getD_set _ _ _ _ (by omega), if_neg (by omega)]), Int.add_mul]
      omega
    · rw [if_neg e, ih (by omega) (by omega)]
      omega
theorem absS_low {xa xb : List Int} (n : Nat) (h : ∀ j, j < n → xa.getD j 0 = xb.getD j 0) : absS xa n = absS xb n := by
  induction n with
  | zero => rfl
  | succ n ih => show absS xa n + absI (xa.getD n 0) = absS xb n + absI (xb.getD n 0); rw [ih (fun j hj => h j (by omega)), h n (by omega)]
theorem absI_add (a b : Int) : absI (a + b) ≤ absI a + absI b := by unfold absI; split <;> split <;> split <;> omega
theorem absS_set {ws : List Int} {i n : Nat} (hi : i < n) (hn : n ≤ ws.length) (d : Int) : absS (ws.set i (ws.getD i 0 + d)) n ≤ absS ws n + absI d := by
  induction n with
  | zero => omega
  | succ n ih =>
    show absS (ws.set i _) n + absI ((ws.set i _).getD n 0) ≤ absS ws n + absI (ws.getD n 0) + absI d
    rw [getD_set _ _ _ _ (by omega)]
    by_cases e : i = n
    · subst e
      rw [if_pos rfl, absS_low (xb := ws) i (fun j hj => by rw [getD_set _ _ _ _ (by omega), if_neg (by omega)])]
      have := absI_add (ws.getD i 0) d
      omega
    · rw [if_neg e]
      have := ih (by omega) (by omega)
      omega
theorem absS_each (ts : List Int) {j n : Nat} (h : j < n) : -absS ts n ≤ ts.getD j 0 ∧ ts.getD j 0 ≤ absS ts n := by
  have a := absS_mono ts (show j + 1 ≤ n by omega)
  have b : absS ts (j + 1) = absS ts j + absI (ts.getD j 0) := rfl
  have c := absS0 ts j
  have d : -absI (ts.getD j 0) ≤ ts.getD j 0 ∧ ts.getD j 0 ≤ absI (ts.getD j 0) := by unfold absI; split <;> omega
  omega
/-- Weights, gone together by what they stand for: so many of them. -/
def gatL (ts ps : List Int) (n : Nat) : Nat → List Int
  | 0 => List.replicate n 0
  | k + 1 => (gatL ts ps n k).set (ps.getD k 0).toNat ((gatL ts ps n k).getD (ps.getD k 0).toNat 0 + ts.getD k 0)
theorem gatL_len (ts ps : List Int) (n k : Nat) : (gatL ts ps n k).length = n := by
  induction k with
  | zero => exact List.length_replicate
  | succ k ih => show ((gatL ts ps n k).set _ _).length = n; rw [List.length_set, ih]
theorem gat_sum {ts ps : List Int} {n K : Nat} (hp : ∀ k, k < K → 0 ≤ ps.getD k 0 ∧ ps.getD k 0 < (n : Int)) (g : Nat → Int) (k : Nat) (hk : k ≤ K) : tapS (gatL ts ps n k) g n = tapS ts (fun j => g (ps.getD j 0).toNat) k := by
  induction k with
  | zero =>
    have e : ∀ m, m ≤ n → tapS (List.replicate n (0 : Int)) g m = 0 := by
      intro m hm
      induction m with
      | zero => rfl
      | succ m ih =>
        show tapS _ g m + (List.replicate n (0 : Int)).getD m 0 * g m = 0
        rw [ih (by omega), List.getD_eq_getElem?_getD, List.getElem?_replicate, if_pos (by omega)]
        show 0 + 0 * g m = 0
        omega
    exact e n (Nat.le_refl _)
  | succ k ih =>
    have h := hp k (by omega)
    show tapS ((gatL ts ps n k).set _ _) g n = tapS ts _ k + ts.getD k 0 * g (ps.getD k 0).toNat
    rw [tapS_set (by omega) (by rw [gatL_len]; exact Nat.le_refl _), ih (by omega)]
theorem gat_abs {ts ps : List Int} {n K : Nat} (hp : ∀ k, k < K → 0 ≤ ps.getD k 0 ∧ ps.getD k 0 < (n : Int)) (k : Nat) (hk : k ≤ K) : absS (gatL ts ps n k) n ≤ absS ts k := by
  induction k with
  | zero =>
    have := absS_le (List.replicate n (0 : Int)) 0 n (fun j hj => by rw [List.getD_eq_getElem?_getD, List.getElem?_replicate, if_pos (by omega)]; exact ⟨by decide, by decide⟩)
    show absS (List.replicate n 0) n ≤ 0
    omega
  | succ k ih =>
    have h := hp k (by omega)
    have a := absS_set (ws := gatL ts ps n k) (i := (ps.getD k 0).toNat) (n := n) (by omega) (by rw [gatL_len]; exact Nat.le_refl _) (ts.getD k 0)
    have b := ih (by omega)
    show absS ((gatL ts ps n k).set _ _) n ≤ absS ts k + absI (ts.getD k 0)
    omega
/-! ### What is taken: places and weights -/
structure Gath (p f n : Int) (ts P W : List Int) : Prop where
  len : P.length = W.length
  most : W.length ≤ 1048576
  pin : ∀ k, k < P.length → 0 ≤ P.getD k 0 ∧ P.getD k 0 < n
  small : SmallT W
  sum : ∀ g : Int → Int, tapS W (fun k => g (P.getD k 0)) W.length = tapS ts (fun k => g (atF p (f + (k : Int)) n)) ts.length
theorem span_at {p f n : Int} {m j : Nat} (f0 : -1099511627776 ≤ f) (f1 : f ≤ 1099511627776) (hm : m ≤ 1048576) (h : j < m) : (spanTo p f n m).getD j 0 = atF p (f + (j : Int)) n := by
  unfold spanTo
  rw [List.getD_eq_getElem?_getD, List.getElem?_map, List.getElem?_range h]
  show atF p (holdI (f + (j : Int))) n = _
  rw [holdI_in (by omega) (by omega)]
theorem span_in {p f n : Int} (p0 : 0 ≤ p) (p1 : p ≤ 2) (n0 : 1 ≤ n) (n1 : n ≤ 65536) {m : Nat} (f0 : -1099511627776 ≤ f) (f1 : f ≤ 1099511627776) (hm : m ≤ 1048576) (j : Nat) (h : j < m) : 0 ≤ (spanTo p f n m).getD j 0 ∧ (spanTo p f n m).getD j 0 < n := by
  rw [span_at f0 f1 hm h]
  have := atF_in (p := p) (n := n) (j := f + (j : Int))
  exact this ⟨p0, p1, n0, n1⟩
theorem gath_self {p f n : Int} {ts : List Int} (p0 : 0 ≤ p) (p1 : p ≤ 2) (n0 : 1 ≤ n) (n1 : n ≤ 65536) (f0 : -1099511627776 ≤ f) (f1 : f ≤ 1099511627776) (hs : SmallT ts) (hl : ts.length ≤ 1048576) : Gath p f n ts (spanTo p f n ts.length) ts :=
  ⟨spanTo_len _ _ _ _, hl, fun k hk => by rw [spanTo_len] at hk; exact span_in p0 p1 n0 n1 f0 f1 hl k hk, hs, fun g => tapS_congr fun i hi => by rw [span_at f0 f1 hl hi]⟩
theorem gath_more {p f : Int} {n : Nat} {ts : List Int} (p0 : 0 ≤ p) (p1 : p ≤ 2) (n0 : 1 ≤ n) (n1 : n ≤ 65536) (f0 : -1099511627776 ≤ f) (f1 : f ≤ 1099511627776) (hs : SmallT ts) (hl : ts.length ≤ 1048576) : Gath p f (n : Int) ts (spanTo p 0 (n : Int) n) (gatL ts (spanTo p f (n : Int) ts.length) n ts.length) := by
  have hp : ∀ k, k < ts.length → 0 ≤ (spanTo p f (n : Int) ts.length).getD k 0 ∧ (spanTo p f (n : Int) ts.length).getD k 0 < (n : Int) := fun k hk => span_in p0 p1 (by omega) (by omega) f0 f1 hl k hk
  have e0 : ∀ j, j < n → (spanTo p 0 (n : Int) n).getD j 0 = (j : Int) := by
    intro j hj
    rw [span_at (by decide) (by decide) (by omega) hj, Int.zero_add]
    exact atF_self ⟨p0, p1, by omega, by omega⟩ (by omega) (by omega)
  refine ⟨by rw [spanTo_len, gatL_len], by rw [gatL_len]; omega, fun k hk => ?_, ?_, fun g => ?_⟩
  · rw [spanTo_len] at hk
    rw [e0 k hk]
    omega
  · have := gat_abs (ts := ts) hp ts.length (Nat.le_refl _)
    unfold SmallT at hs ⊢
    rw [gatL_len]
    omega
  · rw [gatL_len, tapS_congr (g := fun k : Nat => g (k : Int)) (fun i hi => by rw [e0 i hi]), gat_sum hp (fun k : Nat => g (k : Int)) ts.length (Nat.le_refl _)]
    refine tapS_congr fun i hi => ?_
    have h := hp i hi
    rw [show (((spanTo p f (n : Int) ts.length).getD i 0).toNat : Int) = (spanTo p f (n : Int) ts.length).getD i 0 by omega, span_at f0 f1 hl hi]
theorem gath_none (p f n : Int) : Gath p f n [] [] [] := ⟨rfl, by decide, fun k hk => absurd hk (Nat.not_lt_zero _), small_nil, fun _ => rfl⟩
/-! ### Sums over what is taken -/
/-- A line of a table; that of one that there isn't. -/
def lnI (L : List (Int × List Int)) (i : Int) : Int × List Int := if 0 ≤ i then lnAt L i.toNat else (0, [])
theorem lnI_at (L : List (Int × List Int)) (j : Nat) : lnI L (j : Int) = lnAt L j := by unfold lnI; rw [if_pos (by omega), Int.toNat_natCast]
theorem lnI_out {L : List (Int × List Int)} {i : Int} (h : i < 0 ∨ (L.length : Int) ≤ i) : lnI L i = (0, []) := by
  unfold lnI
  split
  · exact lnAt_out (by omega)
  · rfl
def sumI (I : Im) (S : Stg) (x y c : Int) : Int := tapS (lnI S.lx x).2 (fun i => tapS (lnI S.ly y).2 (fun k => imAt I (atF S.sb ((lnI S.lx x).1 + (i : Int)) I.iw) (atF S.sb ((lnI S.ly y).1 + (k : Int)) I.ih) c) (lnI S.ly y).2.length) (lnI S.lx x).2.length
theorem sumI_at (I : Im) (S : Stg) (x y : Nat) (c : Int) : sumI I S (x : Int) (y : Int) c = sumF I S x y c := by unfold sumI sumF cellF; rw [lnI_at, lnI_at]
/-- The sum, over what goes together. -/
theorem sum_gath {I : Im} {S : Stg} {x y c : Int} {px wx py wy : List Int} (gx : Gath S.sb (lnI S.lx x).1 I.iw (lnI S.lx x).2 px wx) (gy : Gath S.sb (lnI S.ly y).1 I.ih (lnI S.ly y).2 py wy) :
    tapS wx (fun i => tapS wy (fun k => imAt I (px.getD i 0) (py.getD k 0) c) wy.length) wx.length = sumI I S x y c := by
  unfold sumI
  rw [← gx.sum (fun a => tapS (lnI S.ly y).2 (fun k => imAt I a (atF S.sb ((lnI S.ly y).1 + (k : Int)) I.ih) c) (lnI S.ly y).2.length)]
  exact tapS_congr fun i _ => gy.sum (fun b => imAt I (px.getD i 0) b c)
theorem im16 {I : Im} (hI : ImOk I) (x y z : Int) : 0 ≤ imAt I x y z ∧ imAt I x y z ≤ 65535 := by
  obtain ⟨_, _, _, _, _, _, t1, _, _, hall⟩ := hI
  unfold imAt
  split
  · rw [List.getD_eq_getElem?_getD]
    cases h : I.il[(imPlace I x y z).toNat]? with
    | none => exact ⟨by decide, by decide⟩
    | some v =>
      have := hall v (List.mem_of_getElem? h)
      exact ⟨this.1, by show v ≤ _; omega⟩
  · exact ⟨by decide, by decide⟩
theorem sumI_in {I : Im} {S : Stg} (hI : ImOk I) (hs : SmallS S) (x y c : Int) : -4611615649683210240 ≤ sumI I S x y c ∧ sumI I S x y c ≤ 4611615649683210240 := by
  have sx : SmallT (lnI S.lx x).2 := by unfold lnI; split; exact small_at hs.1 _; exact small_nil
  have sy : SmallT (lnI S.ly y).2 := by unfold lnI; split; exact small_at hs.2.1 _; exact small_nil
  exact small_all sx (Nat.le_refl _) (fun i _ => small_row sy (Nat.le_refl _) (fun k _ => im16 hI _ _ _))
theorem sumW_small {I : Im} {S : Stg} (hI : ImOk I) (hs : SmallS S) (x y : Nat) (c : Int) : sumW I S x y c = sumF I S x y c := by
  have h := sumI_in hI hs (x : Int) (y : Int) c
  rw [sumI_at] at h
  exact w64_self (by omega) (by omega)
end Go.Proofs.YtaafhjngnjjcmaaGreatDoor

/- Weights that come to one: places sorted by their rests, and what is given to the first of them. -/
namespace Go.Proofs.YtaafhjngnjjcmaaGreatDoor
open Go.RowKit


/-- 'cmp.Or' of two numbers. -/
def orI (a b : Int) : Int := if a = 0 then b else a
/-- How the program compares two places: the greater rest first, then the lesser place. -/
def cfR (r : List Int) (n : Nat) (x y : Fin n) : Int := orI (Lib.compareInt (r.getD y.val 0) (r.getD x.val 0)) (Lib.compareInt (x.val : Int) (y.val : Int))
theorem cmp_lt (x y : Int) : (Lib.compareInt x y < 0 ↔ x < y) ∧ (Lib.compareInt x y = 0 ↔ x = y) := by
  unfold Lib.compareInt
  by_cases h : x < y
  · rw [if_pos h]; omega
  · rw [if_neg h]
    by_cases g : x > y
    · rw [if_pos g]; omega
    · rw [if_neg g]; omega
theorem cfR_lt (r : List Int) (n : Nat) (x y : Fin n) : ltOf (cfR r n) x y = decide (r.getD y.val 0 < r.getD x.val 0 ∨ (r.getD y.val 0 = r.getD x.val 0 ∧ x.val < y.val)) := by
  unfold ltOf cfR orI
  obtain ⟨a, b⟩ := cmp_lt (r.getD y.val 0) (r.getD x.val 0)
  obtain ⟨c, d⟩ := cmp_lt (x.val : Int) (y.val : Int)
  rw [decide_eq_decide]
  by_cases h : Lib.compareInt (r.getD y.val 0) (r.getD x.val 0) = 0
  · rw [if_pos h]; omega
  · rw [if_neg h]; omega
theorem cfR_swo (r : List Int) (n : Nat) : Sort.SWO (ltOf (cfR r n)) where
  irrefl x := by rw [cfR_lt]; simp
  trans x y z h1 h2 := by rw [cfR_lt] at *; simp only [decide_eq_true_eq] at *; omega
  ntrans x y z h1 h2 := by rw [cfR_lt] at *; simp only [decide_eq_false_iff_not] at *; omega
/-- Places in the order in which what lacks is given. -/
structure Ranked (r : List Int) (p : List Nat) : Prop where
  len : p.length = r.length
  lt : ∀ k, k < p.length → p.getD k 0 < r.length
  all : ∀ j, j < r.length → ∃ k, k < p.length ∧ p.getD k 0 = j
  one : ∀ i k, i < p.length → k < p.length → p.getD i 0 = p.getD k 0 → i = k
  order : ∀ i k, i < k → k < p.length → r.getD (p.getD k 0) 0 < r.getD (p.getD i 0) 0 ∨ (r.getD (p.getD k 0) 0 = r.getD (p.getD i 0) 0 ∧ p.getD i 0 < p.getD k 0)
/-- One more, at each of the first places. -/
def bumpN (o : List Int) (p : List Nat) : Nat → List Int
  | 0 => o
  | m + 1 => (bumpN o p m).set (p.getD m 0) ((bumpN o p m).getD (p.getD m 0) 0 + 1)
theorem bumpN_len (o : List Int) (p : List Nat) (m : Nat) : (bumpN o p m).length = o.length := by
  induction m with
  | zero => rfl
  | succ m ih => unfold bumpN; rw [List.length_set]; exact ih
theorem bumpN_give {o r : List Int} {p : List Nat} (hp : Ranked r p) (hr : ∀ j, j < r.length → 0 ≤ r.getD j 0) (hl : o.length = r.length) (m : Nat) (hm : m ≤ r.length) :
    bumpN o p m = (giveN o r m).1 ∧ (∀ k, k < r.length → (giveN o r m).2.getD (p.getD k 0) 0 = if k < m then -1 else r.getD (p.getD k 0) 0) := by
  induction m with
  | zero => exact ⟨rfl, fun k _ => by rw [if_neg (by omega)]; rfl⟩
  | succ m ih =>
    obtain ⟨e1, e2⟩ := ih (by omega)
    obtain ⟨l1, l2⟩ := giveN_len o r m
    obtain ⟨pl, plt, pall, pone, pord⟩ := hp
    have hb : bestTo (giveN o r m).2 (giveN o r m).2.length = p.getD m 0 := by
      have bl := bestTo_lt (giveN o r m).2 (giveN o r m).2.length
      have bm := bestTo_max (giveN o r m).2 (giveN o r m).2.length
      have bf := bestTo_first (giveN o r m).2 (giveN o r m).2.length
      rw [l2] at bl bm bf ⊢
      generalize bestTo (giveN o r m).2 r.length = b at *
      have vm := e2 m (by omega)
      rw [if_neg (by omega)] at vm
      have pm := plt m (by omega)
      have h0 := hr _ pm
      have mx := bm _ pm
      obtain ⟨k, k1, k2⟩ := pall b (by omega)
      have vk := e2 k (by omega)
      rw [k2] at vk
      by_cases g : k < m
      · rw [if_pos g] at vk; omega
      · rw [if_neg g] at vk
        by_cases gk : k = m
        · subst gk; exact k2.symm
        · have := pord m k (by omega) k1
          rw [k2] at this
          have := bf (p.getD m 0)
          omega
    refine ⟨?_, ?_⟩
    · show (bumpN o p m).set _ _ = ((giveN o r m).1.set _ _)
      rw [e1, hb]
    · intro k hk
      show ((giveN o r m).2.set (bestTo (giveN o r m).2 (giveN o r m).2.length) (-1)).getD (p.getD k 0) 0 = _
      have pm := plt m (by omega)
      rw [hb, getD_set _ _ _ _ (by omega)]
      by_cases g : p.getD m 0 = p.getD k 0
      · have := pone m k (by omega) (by omega) g
        rw [if_pos g, if_pos (by omega)]
      · rw [if_neg g, e2 k hk]
        by_cases g2 : k < m
        · rw [if_pos g2, if_pos (by omega)]
        · rw [if_neg g2]
          by_cases g3 : k < m + 1
          · exfalso; apply g; rw [show k = m by omega]
          · rw [if_neg g3]
/-- The places as the sort leaves them. -/
def placesOf {n : Nat} (d : Array (Fin n)) : List Nat := d.toList.map Fin.val
theorem arr_bang {n : Nat} [Inhabited (Fin n)] (d : Array (Fin n)) {k : Nat} (h : k < d.size) : (placesOf d).getD k 0 = (d[k]!).val := by
  unfold placesOf
  rw [List.getD_eq_getElem?_getD, List.getElem?_map, getElem!_pos d k h]
  simp [h]
theorem ranked_of {r : List Int} {n : Nat} (hn : r.length = n) [Inhabited (Fin n)] (d d' : Array (Fin n)) (h0 : d.toList = List.finRange n) (hp : Sort.PermIn 0 d.size d d') (hs : Sort.SortedIn (ltOf (cfR r n)) 0 d.size d') : Ranked r (placesOf d') := by
  obtain ⟨hz, _, hperm⟩ := hp
  have sz : d.size = n := by rw [← Array.length_toList, h0, List.length_finRange]
  have e0 : (d.extract 0 d.size).toList = d.toList := by simp
  have e1 : (d'.extract 0 d.size).toList = d'.toList := by rw [← hz]; simp
  rw [e0, e1, h0] at hperm
  have pl : (placesOf d').length = n := by unfold placesOf; rw [List.length_map, Array.length_toList]; omega
  have nd : (placesOf d').Nodup := by
    unfold placesOf
    have : d'.toList.Nodup := hperm.nodup_iff.2 (List.nodup_finRange n)
    exact List.pairwise_map.2 (List.Pairwise.imp (fun {a b} h e => h (Fin.ext e)) this)
  refine ⟨by omega, ?_, ?_, ?_, ?_⟩
  · intro k hk
    rw [arr_bang d' (by omega)]
    have := (d'[k]!).isLt
    omega
  · intro j hj
    have hm : (⟨j, by omega⟩ : Fin n) ∈ d'.toList := hperm.mem_iff.2 (List.mem_finRange _)
    obtain ⟨k, hk, e⟩ := List.getElem_of_mem hm
    refine ⟨k, by rw [pl]; simp at hk; omega, ?_⟩
    unfold placesOf
    rw [List.getD_eq_getElem?_getD, List.getElem?_map, List.getElem?_eq_getElem hk, e]
    rfl
  · intro i k hi hk h
    rw [List.getD_eq_getElem?_getD, List.getD_eq_getElem?_getD, List.getElem?_eq_getElem hi, List.getElem?_eq_getElem hk] at h
    exact (List.getElem_inj nd).1 h
  · intro i k hik hk
    have S := hs i k (Nat.zero_le _) hik (by omega)
    rw [cfR_lt] at S
    simp only [decide_eq_false_iff_not] at S
    rw [arr_bang d' (by omega), arr_bang d' (by omega)]
    have ne : (d'[i]!).val ≠ (d'[k]!).val := by
      rw [← arr_bang d' (by omega), ← arr_bang d' (by omega)]
      intro h
      rw [List.getD_eq_getElem?_getD, List.getD_eq_getElem?_getD, List.getElem?_eq_getElem (by omega), List.getElem?_eq_getElem hk] at h
      have := (List.getElem_inj nd).1 h
      omega
    omega
end Go.Proofs.YtaafhjngnjjcmaaGreatDoor
