/- Parts, joined. -/
import Derived.Test.YtclgghhpiljgfaaGreatDoorJ15
import Derived.Test.YtclgghhpiljgfaaGreatDoorJ22
import Derived.Test.YtclgghhpiljgfaaGreatDoorRows
import Derived.Test.YtclgghhpiljgfaaGreatDoorJ21
import Derived.Test.YtclgghhpiljgfaaGreatDoorJ16
import Derived.Deep.RegionLaw
import Derived.Laws.CopyOwn
import Derived.OpenShut
import Derived.ProofKit
import Derived.LaidMore
import Derived.ChangeMaps5
import Derived.Laws.Strings
import Derived.Deep.LoopGhost
import Derived.Deep.RegionHeld3
/- Slices of numbers that are made whole and filled, number by number. No number of the program stands in it. -/
namespace Go.Proofs.YtclgghhpiljgfaaGreatDoor
open Go.RowKit


/-- 'make' of so many, as one step of a region that draws its order. -/
theorem step_make_full {P : Program} {ops : Array Oper} {o : Oper} {a : Act} {w : World} {K : Act → World → Prop} {Q : Exit → Act → World → Prop} {E : Prop}
    (hg : o.guard = none) (l c : Operand) (t : TypeId) (hop : o.op = Op.makeSlice t l c)
    (base : Nat) (e : TypeId) (i : TypeInfo) (z : Value) (size : Nat) (h1 : P.underlying t = some (.slice e)) (h2 : P.info? e = some i) (h3 : i.zero = some z) (h4 : i.size = size)
    (kl kc : IntKind) (L C : Int) (n : Nat) (hl : a.eval l = .int kl L) (hc : a.eval c = .int kc C) (hL : L = (n : Int)) (hC : C = (n : Int)) (b2 : i.bytes * n ≤ 281474976710656) (b3 : n ≤ maxLen) (b4 : base ≤ w.heap.size)
    (hK : ∀ w', w'.ownsRow base e size (.slice (some ⟨w.heap.size, 0, none⟩) n n) n (madeCells z.cells (n * size)).toList → w.grownBy w' none → K (a.put o.dst (.slice (some ⟨w.heap.size, 0, none⟩) n n)) w') :
    if Region.wanted o (yielded ops a.tmps) = true then Oper.wp P o a w K Q else E := by
  have hw : Region.wanted o (yielded ops a.tmps) = true := by simp [Region.wanted, hg]
  rw [if_pos hw]
  obtain ⟨w', hrun, r1, r2⟩ := run_make_full (P := P) w base t e i z size h1 h2 h3 h4 kl kc n b2 b3 b4
  subst hL
  subst hC
  unfold Oper.wp
  simp [execOp, hop, hl, hc, hrun, Result.andThen]
  exact hK w' r1 r2
/-- What is made owns noughts. -/
theorem OwnI.made {k : IntKind} {T : TypeId} {w : World} {base : Nat} {v : Value} {n : Nat} (h : w.ownsRow base T 1 v n (madeCells (Value.int k 0).cells (n * 1)).toList) : OwnI k T w base v (List.replicate n 0) := by
  unfold OwnI
  rw [List.length_replicate, List.map_replicate, ← toList_madeCells_one]
  rw [Nat.mul_one] at h
  exact h
/-- So many numbers, the rest nought. -/
def padZ (L : List Int) (n : Nat) : List Int := L ++ List.replicate (n - L.length) 0
theorem padZ_nil (n : Nat) : padZ [] n = List.replicate n 0 := by unfold padZ; simp
theorem padZ_len {L : List Int} {n : Nat} (h : L.length ≤ n) : (padZ L n).length = n := by unfold padZ; rw [List.length_append, List.length_replicate]; omega
theorem padZ_full {L : List Int} {n : Nat} (h : L.length = n) : padZ L n = L := by unfold padZ; rw [h, Nat.sub_self]; simp
theorem padZ_set {L : List Int} {n j : Nat} (hj : L.length = j) (h : j < n) (x : Int) : (padZ L n).set j x = padZ (L ++ [x]) n := by
  subst hj
  unfold padZ
  rw [List.set_append_right _ _ (Nat.le_refl _), Nat.sub_self, List.length_append, List.length_singleton]
  obtain ⟨d, hd⟩ : ∃ d, n - L.length = d + 1 := ⟨n - L.length - 1, by omega⟩
  rw [hd, show n - (L.length + 1) = d by omega, List.replicate_succ, List.set_cons_zero, List.append_assoc]
  rfl
/-- Filled so far. -/
def fillZ (F : Int → Int) (xs : List Int) (n j : Nat) : List Int := padZ ((xs.take j).map F) n
theorem fillZ_zero (F : Int → Int) (xs : List Int) (n : Nat) : fillZ F xs n 0 = List.replicate n 0 := by unfold fillZ; rw [List.take_zero, List.map_nil, padZ_nil]
theorem fillZ_len {F : Int → Int} {xs : List Int} {n j : Nat} (hx : xs.length = n) : (fillZ F xs n j).length = n := padZ_len (by rw [List.length_map, List.length_take]; omega)
theorem fillZ_all {F : Int → Int} {xs : List Int} {n : Nat} (hx : xs.length = n) : fillZ F xs n n = xs.map F := by
  unfold fillZ
  rw [List.take_of_length_le (by omega), padZ_full (by rw [List.length_map]; exact hx)]
theorem fillZ_set {F : Int → Int} {xs : List Int} {n j : Nat} (hx : xs.length = n) (h : j < n) : (fillZ F xs n j).set j (F (xs.getD j 0)) = fillZ F xs n (j + 1) := by
  unfold fillZ
  rw [padZ_set (by rw [List.length_map, List.length_take]; omega) h, take_step xs (by omega), List.map_append]
  rfl
theorem OwnI.of_block {k : IntKind} {T : TypeId} {w : World} {base g n : Nat} {xs : List Int} (hg : w.heap[g]? = some (.cells (xs.map (Value.int k)).toArray T (0, 0))) (hn : xs.length = n) (hb : base ≤ g) (hm : n ≤ maxLen) : OwnI k T w base (.slice (some ⟨g, 0, none⟩) n n) xs := by
  subst hn
  exact ⟨by simp, Or.inr ⟨g, xs.length, _, rfl, hb, hg, Nat.le_refl _, hm, by simp, by rw [List.toList_toArray, Nat.mul_one]; exact List.take_of_length_le (by rw [List.length_map]; exact Nat.le_refl _)⟩⟩
/-- 'copy' into a block that is known whole: what the call answers, and what the block holds then. -/
theorem copy_run {P : Program} (w : World) (dT sT ty elem : TypeId) (hu : P.underlying dT = some (.slice elem)) (hs : (P.info? elem).map (·.size) = some 1) (g o dLen dCap : Nat) (a : Addr) (sLen sCap : Nat) (cur : List Value) (t : TypeId) (cs : List Value) (c : Nat)
    (hg : w.heap[g]? = some (.cells cur.toArray t (0, 0))) (hc : cs.length = c) (hn : c = Nat.min sLen dLen)
    (hsrc : ∀ j v, cs[j]? = some v → w.cell? (a.add j) = some v) (hfit : o + c ≤ cur.length) (h1 : ∀ v ∈ cs, v.oneCell' = true) (B : Nat) (hB : B ≤ g) :
    ∃ w', (Builtin.copy_ #[dT, sT] ty #[.slice (some ⟨g, o, none⟩) dLen dCap, .slice (some a) sLen sCap]).run P w = .ok (.int .i64 (c : Int)) w' ∧ w'.heap[g]? = some (.cells (splice cur o cs).toArray t (0, 0)) ∧ Below B w w' := by
  subst hc
  refine ⟨_, run_copy_row (P := P) w dT sT ty elem g o dLen dCap a sLen sCap cur.toArray t cs hu hs hg hn hsrc (by simpa using hfit) h1, ?_, below_setRow (Below.refl _ _) hB _⟩
  simpa [splice] using setRow_heap w g _ _ t _ hg
theorem below_made {w w1 w2 : World} (h : Below w.heap.size w w1) (hg : w1.grownBy w2 none) : Below w.heap.size w w2 := h.grown hg h.size (fun j hj => by cases hj)
end Go.Proofs.YtclgghhpiljgfaaGreatDoor

/- What 'make' makes of numbers of 64 bits. -/
namespace Go.Proofs.YtclgghhpiljgfaaGreatDoor
open Go.RowKit


theorem infoI64Q : (Tryz.prog.info? 2).map (fun i => (i.zero, i.size, i.bytes)) = some (some (.int .i64 0), 1, 8) := by kernel_rfl
theorem make64 (n : Nat) (h : n ≤ 1048576) : ∃ zs : Array Value, (∀ w : World, (Instr.makeSlice 25 (.int .i64 (n : Int)) (.int .i64 (n : Int))).run Tryz.prog w = .ok (.slice (some ⟨w.heap.size, 0, none⟩) n n) (w.alloc (.cells zs 2))) ∧ (∀ (w : World) (B : Nat), B ≤ w.heap.size → OwnI .i64 2 (w.alloc (.cells zs 2)) B (.slice (some ⟨w.heap.size, 0, none⟩) n n) (List.replicate n 0)) ∧ zs.toList = List.replicate n (.int .i64 0) := by
  obtain ⟨i0, hi, hz0, hz1, hz2⟩ := info_parts infoI64Q
  have hm : (n : Int) ≤ 9223372036854775807 := by omega
  refine ⟨madeCells (Value.int .i64 0).cells (n * i0.size), fun w => ?_, fun w B hB => ?_, ?_⟩
  · have hr := run_make (P := Tryz.prog) w 25 2 i0 (.int .i64 0) Tryz.underlying25 hi hz0 .i64 .i64 n n (by omega) (Int.le_refl _) (by rw [hz2]; omega) hm
    simpa only [Int.toNat_natCast] using hr
  · refine OwnI.made ?_
    rw [hz1]
    exact World.ownsRow_lit w _ n hB (by unfold maxLen; omega) (by rw [size_madeCells])
  · rw [hz1, Nat.mul_one]; exact toList_madeCells_one _ _
end Go.Proofs.YtclgghhpiljgfaaGreatDoor

/- The policies' names: the table out of what the row lists, the program's answers, and the law. -/
namespace Go.Proofs.YtclgghhpiljgfaaGreatDoor
open Go.ChangeShapes Go.WideShapes Go.ChangeAt Go.WideMaps Go.WideElems Go.RowKit

theorem gNamesE : Tryz.prog.globalNamed "smalto/border.names" = some 1 := by kernel_rfl
theorem tNamesE : (Tryz.prog.globals[1]?).map (·.type) = some 90 := by kernel_rfl
theorem cellsNamesE : Tryz.prog.cellsOf 90 = 3 := by kernel_rfl
theorem cellsStrE : Tryz.prog.cellsOf 9 = 1 := by kernel_rfl
/-- The names' bytes. -/
abbrev nClamp : ByteArray := ⟨#[99, 108, 97, 109, 112]⟩
abbrev nMirror : ByteArray := ⟨#[109, 105, 114, 114, 111, 114]⟩
abbrev nWrap : ByteArray := ⟨#[119, 114, 97, 112]⟩
theorem bytes_of {s : ByteArray} {l : List UInt8} (h : s.data.toList = l) : s = ⟨l.toArray⟩ := by
  subst h; rfl
theorem str_cell {H : Type} {enc : TypeId × Value → H} {w : World} {base : Nat} {sp : Nat → Bool} {held : Bool} {fuel : Nat} {a : Value} {l : List UInt8} {y : DataW H × List MemPlace}
    (h : DataW.trod enc Tryz.prog w base sp held fuel 9 [a] = some y) (hy : y.1 = .lit (.string l)) : a = .string ⟨l.toArray⟩ := by
  obtain ⟨s, e0, rfl, _⟩ := DataW.trod_string Tryz.underlying9 h
  simp at e0 hy
  rw [e0, bytes_of hy]
set_option maxRecDepth 100000 in
theorem names_cells {H : Type} {enc : TypeId × Value → H} {w : World} {base : Nat} {sp : Nat → Bool} {held : Bool} {fuel : Nat} {cs : Array Value} {p : List MemPlace}
    (h : DataW.trod enc Tryz.prog w base sp held fuel 90 cs.toList = some (Rows.laid_smalto_border_names, p)) :
    cs = #[.string nClamp, .string nMirror, .string nWrap] := by
  obtain ⟨l⟩ := cs
  obtain ⟨xs, m, rfl, hx, hl, hn, he⟩ := DataW.trod_array Tryz.underlying90 h
  rw [cellsNamesE] at hl
  rw [cellsStrE] at he
  obtain ⟨c0, c1, c2, rfl⟩ : ∃ c0 c1 c2, l = [c0, c1, c2] := by
    match l, hl with
    | [a, b, c], _ => exact ⟨a, b, c, rfl⟩
  obtain ⟨y0, y1, y2, rfl⟩ : ∃ y0 y1 y2, xs = [y0, y1, y2] := by
    match xs, hn with
    | [a, b, c], _ => exact ⟨a, b, c, rfl⟩
  have h0 := he 0 (by omega)
  have h1 := he 1 (by omega)
  have h2 := he 2 (by omega)
  simp at h0 h1 h2
  simp [Rows.laid_smalto_border_names] at hx
  obtain ⟨⟨g0, g1, g2⟩, _⟩ := hx
  obtain rfl := str_cell h0 g0.symm
  obtain rfl := str_cell h1 g1.symm
  obtain rfl := str_cell h2 g2.symm
  rfl
/-- What the program's table of names holds. -/
def NamesE (w : World) : Prop :=
  w.cell? ⟨1, 0, none⟩ = some (.string nClamp) ∧ w.cell? ⟨1, 1, none⟩ = some (.string nMirror) ∧ w.cell? ⟨1, 2, none⟩ = some (.string nWrap)
theorem cell_ltE {w : World} {b o : Nat} {v : Value} (h : w.cell? ⟨b, o, none⟩ = some v) : b < w.heap.size := by
  by_cases g : b < w.heap.size
  · exact g
  · have e : w.heap[b]? = none := Array.getElem?_eq_none (by omega)
    simp [World.cell?, e] at h
theorem namesE_below {w w1 : World} (h : NamesE w) (b : Below w.heap.size w w1) : NamesE w1 := by
  obtain ⟨c0, c1, c2⟩ := h
  have lc := cell_ltE c0
  exact ⟨cb b lc c0, cb b lc c1, cb b lc c2⟩
/-! ### The program's answers -/
def nameE (p : Int) : Value := if p = 0 then .string nClamp else if p = 1 then .string nMirror else if p = 2 then .string nWrap else .string ⟨#[]⟩
theorem nameE_any (p : Int) (w : World) (hk : NamesE w) :
    Calls Tryz.prog 26 #[.int .i64 p] w fun e w' => e = .returned (nameE p) ∧ w = w' := by
  obtain ⟨k0, k1, k2⟩ := hk
  by_cases h0 : p = 0
  · subst h0
    have C := fun w => knownE_yes 0 (by omega) (by omega) w
    go_enter Tryz.func26, Tryz.ntmps26
    go_wp2_with (go_at_call 45; (with_reducible refine (C _).mono ?_); rintro e w1 ⟨rfl, rfl⟩)
    go_ret
    exact ⟨rfl, rfl⟩
  by_cases h1 : p = 1
  · subst h1
    have C := fun w => knownE_yes 1 (by omega) (by omega) w
    go_enter Tryz.func26, Tryz.ntmps26
    go_wp2_with (go_at_call 45; (with_reducible refine (C _).mono ?_); rintro e w1 ⟨rfl, rfl⟩)
    go_ret
    exact ⟨rfl, rfl⟩
  by_cases h2 : p = 2
  · subst h2
    have C := fun w => knownE_yes 2 (by omega) (by omega) w
    go_enter Tryz.func26, Tryz.ntmps26
    go_wp2_with (go_at_call 45; (with_reducible refine (C _).mono ?_); rintro e w1 ⟨rfl, rfl⟩)
    go_ret
    exact ⟨rfl, rfl⟩
  · have C := fun w => knownE_no p (by omega) w
    rw [show nameE p = .string ⟨#[]⟩ by unfold nameE; rw [if_neg h0, if_neg h1, if_neg h2]]
    clear h0 h1 h2 k0 k1 k2
    go_enter Tryz.func26, Tryz.ntmps26
    go_wp2_with (go_at_call 45; (with_reducible refine (C _).mono ?_); rintro e w1 ⟨rfl, rfl⟩)
    go_ret
    exact ⟨rfl, rfl⟩
theorem str_ne {s : ByteArray} {l : List UInt8} (h : s ≠ ⟨l.toArray⟩) : (l == s.toList) = false := by
  refine beq_eq_false_iff_ne.2 fun e => h ?_
  rw [ByteArray.toList_eq] at e
  exact bytes_of e.symm
end Go.Proofs.YtclgghhpiljgfaaGreatDoor

/- Operations: the program's own small calls: which kinds there are, sides, names, sizes. -/
namespace Go.Proofs.YtclgghhpiljgfaaGreatDoor
open Go.RowKit


theorem oknown_yes (k : Int) (h0 : 0 ≤ k) (h1 : k ≤ 3) (w : World) :
    Calls Tryz.prog 25 #[.int .i64 k] w fun e w' => e = .returned (.bool true) ∧ w = w' := by
  go_enter Tryz.func25, Tryz.ntmps25
  go_wp2
  go_ret
  first | exact ⟨rfl, rfl⟩ | exact ⟨ret_bool (decide_eq_true (by omega)), rfl⟩
theorem oknown_no (k : Int) (h : k < 0 ∨ 3 < k) (w : World) :
    Calls Tryz.prog 25 #[.int .i64 k] w fun e w' => e = .returned (.bool false) ∧ w = w' := by
  rcases h with h | h
  all_goals
    go_enter Tryz.func25, Tryz.ntmps25
    go_wp2
    go_ret
    first | exact ⟨rfl, rfl⟩ | exact ⟨ret_bool (decide_eq_false (by omega)), rfl⟩
theorem oside_yes (n : Int) (h0 : 1 ≤ n) (h1 : n ≤ 65536) (w : World) :
    Calls Tryz.prog 27 #[.int .i64 n] w fun e w' => e = .returned (.bool true) ∧ w = w' := by
  go_enter Tryz.func27, Tryz.ntmps27
  go_wp2
  go_ret
  first | exact ⟨rfl, rfl⟩ | exact ⟨ret_bool (decide_eq_true (by omega)), rfl⟩
theorem oside_no (n : Int) (h : n < 1 ∨ 65536 < n) (w : World) :
    Calls Tryz.prog 27 #[.int .i64 n] w fun e w' => e = .returned (.bool false) ∧ w = w' := by
  rcases h with h | h
  all_goals
    go_enter Tryz.func27, Tryz.ntmps27
    go_wp2
    go_ret
    first | exact ⟨rfl, rfl⟩ | exact ⟨ret_bool (decide_eq_false (by omega)), rfl⟩
/-- The sizes that an operation leads to. -/
theorem osize_any (o : Opr) (ax : Option Addr) (cx : Nat) (ay : Option Addr) (cy : Nat) (a b : Int) (w : World) :
    Calls Tryz.prog 15 #[opV o ax cx ay cy, .int .i64 a, .int .i64 b] w fun e w' => e = .returned (.tuple #[.int .i64 (toW o a), .int .i64 (toH o b)]) ∧ Below w.heap.size w w' := by
  unfold opV toW toH
  obtain ⟨kd, bd, sg, rd, xs, ys, fl, wd, ht⟩ := o
  simp only
  generalize xs.length = nx at *
  generalize ys.length = ny at *
  by_cases h : kd = 3
  · rw [if_pos h, if_pos h]
    subst h
    go_enter Tryz.func15, Tryz.ntmps15
    go_wp2
    go_quiet (fail)
    go_wp2
    exact bodyPost_ret (v := .tuple #[.int .i64 wd, .int .i64 ht]) (by simp [results, Tryz.results15, go_sem]) rfl ⟨rfl, by repeat (first | exact Below.refl _ _ | with_reducible refine bdN ?_ _ | with_reducible refine bd ?_ | with_reducible refine ba ?_ _)⟩
  · rw [if_neg h, if_neg h]
    have hq : (kd == 3) = false := by simpa using h
    clear h
    go_enter Tryz.func15, Tryz.ntmps15
    go_wp2
    exact bodyPost_ret (v := .tuple #[.int .i64 a, .int .i64 b]) (by simp [results, Tryz.results15, go_sem]) rfl ⟨rfl, by repeat (first | exact Below.refl _ _ | with_reducible refine bd ?_ | with_reducible refine ba ?_ _)⟩
theorem nameE_some (p : Int) (p0 : 0 ≤ p) (p1 : p ≤ 2) : ∃ s, nameE p = .string s ∧ s.toList.isEmpty = false := by
  unfold nameE
  by_cases h0 : p = 0
  · rw [if_pos h0]; exact ⟨_, rfl, by decide +kernel⟩
  by_cases h1 : p = 1
  · rw [if_neg h0, if_pos h1]; exact ⟨_, rfl, by decide +kernel⟩
  · rw [if_neg h0, if_neg h1, if_pos (by omega)]; exact ⟨_, rfl, by decide +kernel⟩
theorem nameE_none (p : Int) (h : p < 0 ∨ 2 < p) : nameE p = .string ⟨#[]⟩ := by
  unfold nameE
  rw [if_neg (by omega), if_neg (by omega), if_neg (by omega)]
end Go.Proofs.YtclgghhpiljgfaaGreatDoor

/- Tables: a side that stays as it is. Plain arithmetic but for its imports. -/
namespace Go.Proofs.YtclgghhpiljgfaaGreatDoor
open Go.RowKit


theorem cen_same (n i : Int) : cenR n n i = 2 * (i * n) := by
  unfold cenR; rw [Int.add_mul, Int.mul_assoc, Int.one_mul]; omega
theorem same_quot (n i : Int) : 2 * n * i = 2 * (i * n) := by rw [Int.mul_assoc, Int.mul_comm n i]
theorem same_low (n i : Int) (n0 : 1 ≤ n) : lowW 0 n n i = i - 1 ∧ topW 0 n n i = i ∧ lowW 1 n n i = i - 2 ∧ topW 1 n n i = i + 1 := by
  have e := same_quot n i
  have s0 : sprR 0 n n = 2 * n := by unfold sprR; rw [if_pos rfl]; omega
  have s1 : sprR 1 n n = 4 * n := by unfold sprR; rw [if_neg (by omega), if_neg (by omega)]; omega
  unfold lowW topW
  rw [cen_same, s0, s1]
  refine ⟨div_of (r := 0) ?_ (by omega) (by omega), div_of (r := 2 * n - 1) ?_ (by omega) (by omega), div_of (r := 0) ?_ (by omega) (by omega), div_of (r := 2 * n - 1) ?_ (by omega) (by omega)⟩
  · rw [Int.mul_sub, e]; omega
  · rw [e]; omega
  · rw [Int.mul_sub, e]; omega
  · rw [Int.mul_add, e]; omega
theorem box_one {n i : Int} (n0 : 1 ≤ n) : weightR 0 n n i i = 1073741824 := by
  unfold weightR
  rw [if_pos rfl]
  have e : min ((i + 1) * n) ((i + 1) * n) - max (i * n) (i * n) = n := by rw [Int.add_mul, Int.one_mul]; omega
  rw [e, Int.mul_comm]
  exact divF_exact (by omega) (by omega) (by omega)
theorem frac_same (n i j : Int) : fracP n n i j = 2 * ((j - i) * n) := by
  rw [frac_at, Int.sub_mul]; omega
theorem fracQ_same (n : Int) : fracQ n n = 2 * n := by unfold fracQ; rw [if_neg (by omega)]
theorem cubic_mid {n i : Int} (n0 : 1 ≤ n) (n1 : n ≤ 65536) : weightR 1 n n i i = 1073741824 := by
  unfold weightR
  rw [if_neg (by omega), if_pos rfl, frac_same, fracQ_same]
  have e : 2 * ((i - i) * n) = 0 := by rw [Int.sub_self, Int.zero_mul]; rfl
  rw [e]
  unfold keysF
  rw [if_pos (by omega), show absI 0 = 0 from rfl, if_pos (by omega)]
  have e2 : lowK 0 (2 * n) * 1073741824 = 1073741824 * (2 * (2 * n * (2 * n) * (2 * n))) := by
    unfold lowK
    simp only [Int.mul_zero, Int.zero_mul, Int.zero_add, Int.sub_self]
    rw [Int.mul_comm]
  rw [e2]
  have h : 0 < 2 * n * (2 * n) * (2 * n) := Int.mul_pos (Int.mul_pos (by omega) (by omega)) (by omega)
  exact divF_exact (by omega) (by omega) (by omega)
theorem keys_one {q : Int} (q0 : 1 ≤ q) (q1 : q ≤ 262144) : keysF q q = 0 := by
  unfold keysF
  rw [if_pos (by omega), absI_pos (by omega), if_neg (by omega)]
  have e : highK q q = 0 := by
    unfold highK
    rw [show 5 * (q * q) * q = 5 * (q * q * q) by rw [Int.mul_assoc], show 8 * q * (q * q) = 8 * (q * q * q) by rw [Int.mul_assoc, Int.mul_assoc]]
    omega
  rw [e, Int.zero_mul]
  have h : 0 < q * q * q := Int.mul_pos (Int.mul_pos (by omega) (by omega)) (by omega)
  have := divF_exact (a := 0) (d := 2 * (q * q * q)) (by omega) (by omega) (by omega)
  rw [Int.zero_mul] at this
  exact this
theorem cubic_side {n i : Int} (n0 : 1 ≤ n) (n1 : n ≤ 65536) : weightR 1 n n i (i + 1) = 0 ∧ weightR 1 n n i (i - 1) = 0 := by
  have wk : ∀ j, weightR 1 n n i j = keysF (fracP n n i j) (fracQ n n) := fun j => by unfold weightR; rw [if_neg (by omega), if_pos rfl]
  rw [wk, wk, frac_same, frac_same, fracQ_same]
  have e1 : 2 * ((i + 1 - i) * n) = 2 * n := by rw [show i + 1 - i = 1 by omega, Int.one_mul]
  have e2 : 2 * ((i - 1 - i) * n) = -(2 * n) := by rw [show i - 1 - i = -1 by omega, Int.neg_mul, Int.one_mul]; omega
  rw [e1, e2, keysF_neg]
  exact ⟨keys_one (by omega) (by omega), keys_one (by omega) (by omega)⟩
theorem row_box {n i : Int} (n0 : 1 ≤ n) : startR 0 n n i = i ∧ rowI 0 n n i = [1073741824] := by
  obtain ⟨a, b, _⟩ := same_low n i n0
  have hs : startR 0 n n i = i := by unfold startR; rw [a]; omega
  have hc : countR 0 n n i = 1 := by unfold countR; rw [a, b]; omega
  refine ⟨hs, ?_⟩
  unfold rowI
  rw [hc, hs]
  show [weightR 0 n n i (i + ((0 : Nat) : Int))] = _
  rw [show i + ((0 : Nat) : Int) = i by omega, box_one n0]
theorem row_cubic {n i : Int} (n0 : 1 ≤ n) (n1 : n ≤ 65536) : startR 1 n n i = i - 1 ∧ rowI 1 n n i = [0, 1073741824, 0] := by
  obtain ⟨_, _, a, b⟩ := same_low n i n0
  have hs : startR 1 n n i = i - 1 := by unfold startR; rw [a]; omega
  have hc : countR 1 n n i = 3 := by unfold countR; rw [a, b]; omega
  refine ⟨hs, ?_⟩
  unfold rowI
  rw [hc, hs]
  show [weightR 1 n n i (i - 1 + ((0 : Nat) : Int)), weightR 1 n n i (i - 1 + ((1 : Nat) : Int)), weightR 1 n n i (i - 1 + ((2 : Nat) : Int))] = _
  obtain ⟨x, y⟩ := cubic_side (i := i) n0 n1
  rw [show i - 1 + ((0 : Nat) : Int) = i - 1 by omega, show i - 1 + ((1 : Nat) : Int) = i by omega, show i - 1 + ((2 : Nat) : Int) = i + 1 by omega, x, y, cubic_mid n0 n1]
theorem app_box : appCode [1073741824] = 0 ∧ appR [1073741824] = [16384] := by decide +kernel
theorem app_cubic : appCode [0, 1073741824, 0] = 0 ∧ appR [0, 1073741824, 0] = [0, 16384, 0] := by decide +kernel
theorem first_all {f n m : Int} (k : Nat) (h : ∀ i : Nat, codeR f n m i = 0) : firstCode f n m k = 0 := by
  induction k with
  | zero => rfl
  | succ k ih =>
    have s : firstCode f n m (k + 1) = if firstCode f n m k = 0 then codeR f n m k else firstCode f n m k := rfl
    rw [s, if_pos ih, h]
/-- A side that stays: its codes, and its lines. -/
theorem res_box {n : Int} (n0 : 1 ≤ n) (n1 : n ≤ 65536) : resCode 0 n n = 0 ∧ ∀ j : Nat, lineR 0 n n j = ((j : Int), [16384]) := by
  refine ⟨?_, fun j => ?_⟩
  · unfold resCode
    rw [if_pos ((resB_iff 0 n n).2 ⟨by omega, by omega, ⟨n0, n1⟩, n0, n1⟩)]
    refine first_all _ fun i => ?_
    unfold codeR
    rw [(row_box n0).2, app_box.1]
  · unfold lineR
    rw [(row_box n0).1, (row_box n0).2, app_box.2]
theorem res_cubic {n : Int} (n0 : 1 ≤ n) (n1 : n ≤ 65536) : resCode 1 n n = 0 ∧ ∀ j : Nat, lineR 1 n n j = ((j : Int) - 1, [0, 16384, 0]) := by
  refine ⟨?_, fun j => ?_⟩
  · unfold resCode
    rw [if_pos ((resB_iff 1 n n).2 ⟨by omega, by omega, ⟨n0, n1⟩, n0, n1⟩)]
    refine first_all _ fun i => ?_
    unfold codeR
    rw [(row_cubic n0 n1).2, app_cubic.1]
  · unfold lineR
    rw [(row_cubic n0 n1).1, (row_cubic n0 n1).2, app_cubic.2]
def sameTo (k : Nat) : List (Int × List Int) := (List.range k).map fun i : Nat => ((i : Int), [16384])
theorem sameTo_len (k : Nat) : (sameTo k).length = k := by unfold sameTo; rw [List.length_map, List.length_range]
theorem sameTo_at {k j : Nat} (h : j < k) : lnAt (sameTo k) j = ((j : Int), [16384]) := lnAt_map _ h
theorem linesTo_at {f n m : Int} {k j : Nat} (h : j < k) : lnAt (linesTo f n m k) j = lineR f n m j := lnAt_map _ h
/-- All of a line is where i is. -/
def OneLn (i : Int) (x : Int × List Int) : Prop := 1 ≤ x.2.length ∧ ∀ t : Nat, t < x.2.length → (x.1 + (t : Int) = i → x.2.getD t 0 = 16384) ∧ (x.1 + (t : Int) ≠ i → x.2.getD t 0 = 0)
theorem one_box (i : Int) : OneLn i (i, [16384]) := by
  refine ⟨(by show 1 ≤ 1; omega), fun t ht => ?_⟩
  match t, ht with
  | 0, _ => exact ⟨fun _ => rfl, fun h => absurd (by simp) h⟩
theorem one_cubic (i : Int) : OneLn i (i - 1, [0, 16384, 0]) := by
  refine ⟨(by show 1 ≤ 3; omega), fun t ht => ?_⟩
  match t, ht with
  | 0, _ => exact ⟨fun h => (by simp at h; omega), fun _ => rfl⟩
  | 1, _ => exact ⟨fun _ => rfl, fun h => absurd (by simp) h⟩
  | 2, _ => exact ⟨fun h => by simp at h; omega, fun _ => rfl⟩
theorem most_same (k : Nat) (h : 1 ≤ k) : mostF (sameTo k) = 1 := by
  have e : ∀ o, o ≤ k → mostTo (sameTo k) o = if o = 0 then 0 else 1 := by
    intro o ho
    induction o with
    | zero => rfl
    | succ o ih =>
      have s : mostTo (sameTo k) (o + 1) = max (mostTo (sameTo k) o) ((lnAt (sameTo k) o).2.length : Int) := rfl
      rw [s, ih (by omega), sameTo_at (by omega)]
      show max _ (((1 : Nat)) : Int) = _
      split <;> omega
  unfold mostF
  rw [sameTo_len, e k (Nat.le_refl _), if_neg (by omega)]
end Go.Proofs.YtclgghhpiljgfaaGreatDoor

/- Tables: what the program's calls are to answer; and that a table is the document's. -/
namespace Go.Proofs.YtclgghhpiljgfaaGreatDoor
open Go.RowKit

def ResizeC (K : World → Prop) (T : World → Value → Int → List (Int × List Int) → Prop) : Prop := ∀ (f n m : Int), -9223372036854775808 ≤ f → f ≤ 9223372036854775807 → -9223372036854775808 ≤ n → n ≤ 9223372036854775807 → -9223372036854775808 ≤ m → m ≤ 9223372036854775807 → ∀ w : World, K w →
  Calls Tryz.prog 42 #[.int .i64 f, .int .i64 n, .int .i64 m] w fun e w' => ∃ v, e = .returned (.tuple #[v, .int .i64 (resCode f n m)]) ∧ (resCode f n m = 0 → T w' v n (linesTo f n m m.toNat)) ∧ (resCode f n m ≠ 0 → v = .pointer none) ∧ Below w.heap.size w w'
def FilterC (K : World → Prop) (T : World → Value → Int → List (Int × List Int) → Prop) : Prop := ∀ (xs : List Int) (ad : Option Addr) (cap : Nat) (n : Int) (w : World), K w → RowAt .i64 w ad xs → All64 xs → xs.length ≤ 9223372036854775807 → -9223372036854775808 ≤ n → n ≤ 9223372036854775807 →
  Calls Tryz.prog 48 #[.slice ad xs.length cap, .int .i64 n] w fun e w' => ∃ v, e = .returned (.tuple #[v, .int .i64 (filCode xs n)]) ∧ (filCode xs n = 0 → T w' v n (filTo xs n.toNat)) ∧ (filCode xs n ≠ 0 → v = .pointer none) ∧ Below w.heap.size w w'
end Go.Proofs.YtclgghhpiljgfaaGreatDoor

/- Tables: the example, and the laws on resizes and filters, out of what the program's calls answer. -/
namespace Go.Proofs.YtclgghhpiljgfaaGreatDoor
open Go.RowKit


def LiveC (K : World → Prop) (f : FuncId) : Prop := ∀ w : World, K w → Calls Tryz.prog f #[] w fun e w' => e = .returned (.bool true) ∧ Below w.heap.size w w'
theorem res_ex : resCode 0 4 2 = 0 ∧ linesTo 0 4 2 2 = [(0, [8192, 8192]), (2, [8192, 8192])] ∧ reachF [(0, [8192, 8192]), (2, [8192, 8192])] 0 2 = (0, 4, true) := by decide +kernel
theorem lit2 (w : World) (a b : Int) (t : TypeId) : RowAt .i64 (w.alloc (.cells #[.int .i64 a, .int .i64 b] t)) (some ⟨w.heap.size, 0, none⟩) [a, b] := by
  refine Or.inr ⟨w.heap.size, 0, rfl, fun j hj => ?_⟩
  match j, hj with
  | 0, _ => simp
  | 1, _ => simp
theorem field_first (x : Int) (ad : Option Addr) (n c : Nat) : ∀ w : World, (Instr.field 38 (.agg #[.int .i64 x, .slice ad n c]) 0).run Tryz.prog w = .ok (.int .i64 x) w := fun _ => by kernel_rfl
end Go.Proofs.YtclgghhpiljgfaaGreatDoor

/- Tables: windows move on. Out of what the program's calls answer, and that a resize has no code. -/
namespace Go.Proofs.YtclgghhpiljgfaaGreatDoor
open Go.RowKit


theorem cen_next (n m i : Int) : cenR n m (i + 1) = cenR n m i + 2 * n := by
  unfold cenR
  rw [show 2 * (i + 1) + 1 = (2 * i + 1) + 2 by omega, Int.add_mul]
  omega
theorem low_mono {f n m i : Int} (n0 : 1 ≤ n) (m0 : 1 ≤ m) : lowW f n m i ≤ lowW f n m (i + 1) ∧ topW f n m i ≤ topW f n m (i + 1) := by
  unfold lowW topW
  rw [cen_next]
  exact ⟨Int.ediv_le_ediv (by omega) (by omega), Int.ediv_le_ediv (by omega) (by omega)⟩
/-- Windows move on. -/
def Moves (L : List (Int × List Int)) : Prop := ∀ j, j + 1 < L.length → (lnAt L j).1 ≤ (lnAt L (j + 1)).1 ∧ (lnAt L j).1 + ((lnAt L j).2.length : Int) ≤ (lnAt L (j + 1)).1 + ((lnAt L (j + 1)).2.length : Int)
theorem appR_length (xs : List Int) : (appR xs).length = xs.length := by
  unfold appR
  rw [(giveN_len _ _ _).1, quotsW_len]
theorem moves_lines {f n : Int} {m : Nat} (f0 : 0 ≤ f) (f1 : f ≤ 2) (n0 : 1 ≤ n) (n1 : n ≤ 65536) (m1 : m ≤ 65536) : Moves (linesTo f n m m) := by
  intro j hj
  rw [linesTo_len] at hj
  have e : ∀ i : Nat, i < m → lnAt (linesTo f n m m) i = lineR f n m i := fun i hi => lnAt_map _ hi
  rw [e j (by omega), e (j + 1) (by omega)]
  have en : ∀ i : Nat, i < m → (lineR f n m i).1 + ((lineR f n m i).2.length : Int) = topW f n m i + 1 := by
    intro i hi
    have hM : MayP f n m i := ⟨f0, f1, n0, n1, by omega, by omega, by omega, by omega⟩
    have := win_closed hM
    show startR f n m i + ((appR (rowI f n m i)).length : Int) = _
    rw [appR_length, rowI_len]
    unfold startR countR
    omega
  rw [en j (by omega), en (j + 1) (by omega)]
  obtain ⟨a, b⟩ := low_mono (f := f) (n := n) (m := (m : Int)) (i := (j : Int)) n0 (by omega)
  refine ⟨?_, ?_⟩
  · show lowW f n m j + 1 ≤ lowW f n m ((j + 1 : Nat) : Int) + 1
    rw [show ((j + 1 : Nat) : Int) = (j : Int) + 1 by omega]; omega
  · rw [show ((j + 1 : Nat) : Int) = (j : Int) + 1 by omega]; omega
theorem reach_below {L : List (Int × List Int)} {i k : Int} (o : Nat) (h : (o : Int) ≤ i) : reachTo L i k o = (0, 0, false) := by
  induction o with
  | zero => rfl
  | succ o ih =>
    unfold reachTo
    rw [if_pos (Or.inl (by omega))]
    exact ih (by omega)
theorem reach_above {L : List (Int × List Int)} {i k : Int} (a d : Nat) (h : k ≤ (a : Int)) : reachTo L i k (a + d) = reachTo L i k a := by
  induction d with
  | zero => rfl
  | succ d ih =>
    have s : reachTo L i k (a + (d + 1)) = if ((a + d : Nat) : Int) < i ∨ k ≤ ((a + d : Nat) : Int) then reachTo L i k (a + d) else reachStep (reachTo L i k (a + d)) (lnAt L (a + d)).1 (lnAt L (a + d)).2.length := rfl
    rw [s, if_pos (Or.inr (by omega)), ih]
end Go.Proofs.YtclgghhpiljgfaaGreatDoor

/- Tables: all taps of an output come to just 2^14. Out of what the program's calls answer, that a resize has no code, and no great size. -/
namespace Go.Proofs.YtclgghhpiljgfaaGreatDoor
open Go.RowKit


theorem code_line {f n : Int} {m : Nat} (h : resCode f n m = 0) (hB : resB f n m = true) {j : Nat} (hj : j < m) : Fits (rowI f n m j) := by
  unfold resCode at h
  rw [if_pos hB, Int.toNat_natCast] at h
  exact appCode_fits.1 (firstCode_code h hj).1
end Go.Proofs.YtclgghhpiljgfaaGreatDoor
