/- Parts, joined. -/
import Derived.Test.YtaafhjngnjjcmaaGreatDoorJ19
import Derived.Test.YtaafhjngnjjcmaaGreatDoorJ03
import Derived.Test.YtaafhjngnjjcmaaGreatDoorRows
import Derived.Test.YtaafhjngnjjcmaaGreatDoorJ23
import Derived.ProofKit
import Derived.LaidMore
import Derived.OpenShut
import Derived.ChangeMaps5
import Derived.Laws.Strings
/- The policies' names: the table out of what the row lists, the program's answers, and the law. -/
namespace Go.Proofs.YtaafhjngnjjcmaaGreatDoor
open Go.ChangeShapes Go.WideShapes Go.ChangeAt Go.WideMaps Go.WideElems Go.RowKit

theorem gNamesE : Tryz.prog.globalNamed "smalto/border.names" = some 0 := by kernel_rfl
theorem tNamesE : (Tryz.prog.globals[0]?).map (·.type) = some 133 := by kernel_rfl
theorem cellsNamesE : Tryz.prog.cellsOf 133 = 3 := by kernel_rfl
theorem cellsStrE : Tryz.prog.cellsOf 9 = 1 := by kernel_rfl
/-- The names' bytes. -/
abbrev nClamp : ByteArray := ⟨#[99, 108, 97, 109, 112]⟩
abbrev nMirror : ByteArray := ⟨#[109, 105, 114, 114, 111, 114]⟩
abbrev nWrap : ByteArray := ⟨#[119, 114, 97, 112]⟩
theorem bytes_of {s : ByteArray} {l : List UInt8} (h : s.data.toList = l) : s = ⟨l.toArray⟩ := by
  subst h; rfl
theorem str_cell {H : Type} {enc : TypeId × Value → H} {w : World} {base : Nat} {sp : Nat → Bool} {held : Bool} {fuel : Nat} {a : Value} {l : List UInt8} {y : DataW H × List MemPlace}
    (h : DataW.trod enc Tryz.prog w base sp held fuel 9 [a] = some y) (hy : y.1 = .lit (.string l)) : a = .string ⟨l.toArray⟩ := by
  obtain ⟨s, e0, rfl, _⟩ := DataW.trod_string Tryz.underlying9 h
  simp at e0 hy
  rw [e0, bytes_of hy]
set_option maxRecDepth 100000 in
theorem names_cells {H : Type} {enc : TypeId × Value → H} {w : World} {base : Nat} {sp : Nat → Bool} {held : Bool} {fuel : Nat} {cs : Array Value} {p : List MemPlace}
    (h : DataW.trod enc Tryz.prog w base sp held fuel 133 cs.toList = some (Rows.laid_smalto_border_names, p)) :
    cs = #[.string nClamp, .string nMirror, .string nWrap] := by
  obtain ⟨l⟩ := cs
  obtain ⟨xs, m, rfl, hx, hl, hn, he⟩ := DataW.trod_array Tryz.underlying133 h
  rw [cellsNamesE] at hl
  rw [cellsStrE] at he
  obtain ⟨c0, c1, c2, rfl⟩ : ∃ c0 c1 c2, l = [c0, c1, c2] := by
    match l, hl with
    | [a, b, c], _ => exact ⟨a, b, c, rfl⟩
  obtain ⟨y0, y1, y2, rfl⟩ : ∃ y0 y1 y2, xs = [y0, y1, y2] := by
    match xs, hn with
    | [a, b, c], _ => exact ⟨a, b, c, rfl⟩
  have h0 := he 0 (by omega)
  have h1 := he 1 (by omega)
  have h2 := he 2 (by omega)
  simp at h0 h1 h2
  simp [Rows.laid_smalto_border_names] at hx
  obtain ⟨⟨g0, g1, g2⟩, _⟩ := hx
  obtain rfl := str_cell h0 g0.symm
  obtain rfl := str_cell h1 g1.symm
  obtain rfl := str_cell h2 g2.symm
  rfl
/-- What the program's table of names holds. -/
def NamesE (w : World) : Prop :=
  w.cell? ⟨0, 0, none⟩ = some (.string nClamp) ∧ w.cell? ⟨0, 1, none⟩ = some (.string nMirror) ∧ w.cell? ⟨0, 2, none⟩ = some (.string nWrap)
theorem cell_ltE {w : World} {b o : Nat} {v : Value} (h : w.cell? ⟨b, o, none⟩ = some v) : b < w.heap.size := by
  by_cases g : b < w.heap.size
  · exact g
  · have e : w.heap[b]? = none := Array.getElem?_eq_none (by omega)
    simp [World.cell?, e] at h
theorem namesE_below {w w1 : World} (h : NamesE w) (b : Below w.heap.size w w1) : NamesE w1 := by
  obtain ⟨c0, c1, c2⟩ := h
  have lc := cell_ltE c0
  exact ⟨cb b lc c0, cb b lc c1, cb b lc c2⟩
/-! ### The program's answers -/
def nameE (p : Int) : Value := if p = 0 then .string nClamp else if p = 1 then .string nMirror else if p = 2 then .string nWrap else .string ⟨#[]⟩
theorem nameE_any (p : Int) (w : World) (hk : NamesE w) :
    Calls Tryz.prog 52 #[.int .i64 p] w fun e w' => e = .returned (nameE p) ∧ w = w' := by
  obtain ⟨k0, k1, k2⟩ := hk
  by_cases h0 : p = 0
  · subst h0
    have C := fun w => knownE_yes 0 (by omega) (by omega) w
    go_enter Tryz.func52, Tryz.ntmps52
    go_wp2_with (go_at_call 84; (with_reducible refine (C _).mono ?_); rintro e w1 ⟨rfl, rfl⟩)
    go_ret
    exact ⟨rfl, rfl⟩
  by_cases h1 : p = 1
  · subst h1
    have C := fun w => knownE_yes 1 (by omega) (by omega) w
    go_enter Tryz.func52, Tryz.ntmps52
    go_wp2_with (go_at_call 84; (with_reducible refine (C _).mono ?_); rintro e w1 ⟨rfl, rfl⟩)
    go_ret
    exact ⟨rfl, rfl⟩
  by_cases h2 : p = 2
  · subst h2
    have C := fun w => knownE_yes 2 (by omega) (by omega) w
    go_enter Tryz.func52, Tryz.ntmps52
    go_wp2_with (go_at_call 84; (with_reducible refine (C _).mono ?_); rintro e w1 ⟨rfl, rfl⟩)
    go_ret
    exact ⟨rfl, rfl⟩
  · have C := fun w => knownE_no p (by omega) w
    rw [show nameE p = .string ⟨#[]⟩ by unfold nameE; rw [if_neg h0, if_neg h1, if_neg h2]]
    clear h0 h1 h2 k0 k1 k2
    go_enter Tryz.func52, Tryz.ntmps52
    go_wp2_with (go_at_call 84; (with_reducible refine (C _).mono ?_); rintro e w1 ⟨rfl, rfl⟩)
    go_ret
    exact ⟨rfl, rfl⟩
end Go.Proofs.YtaafhjngnjjcmaaGreatDoor

/- Operations: the program's own small calls: which kinds there are, sides, names, sizes. -/
namespace Go.Proofs.YtaafhjngnjjcmaaGreatDoor
open Go.RowKit


theorem oknown_yes (k : Int) (h0 : 0 ≤ k) (h1 : k ≤ 3) (w : World) :
    Calls Tryz.prog 68 #[.int .i64 k] w fun e w' => e = .returned (.bool true) ∧ w = w' := by
  go_enter Tryz.func68, Tryz.ntmps68
  go_wp2
  go_ret
  first | exact ⟨rfl, rfl⟩ | exact ⟨ret_bool (decide_eq_true (by omega)), rfl⟩
theorem oknown_no (k : Int) (h : k < 0 ∨ 3 < k) (w : World) :
    Calls Tryz.prog 68 #[.int .i64 k] w fun e w' => e = .returned (.bool false) ∧ w = w' := by
  rcases h with h | h
  all_goals
    go_enter Tryz.func68, Tryz.ntmps68
    go_wp2
    go_ret
    first | exact ⟨rfl, rfl⟩ | exact ⟨ret_bool (decide_eq_false (by omega)), rfl⟩
theorem oside_yes (n : Int) (h0 : 1 ≤ n) (h1 : n ≤ 65536) (w : World) :
    Calls Tryz.prog 69 #[.int .i64 n] w fun e w' => e = .returned (.bool true) ∧ w = w' := by
  go_enter Tryz.func69, Tryz.ntmps69
  go_wp2
  go_ret
  first | exact ⟨rfl, rfl⟩ | exact ⟨ret_bool (decide_eq_true (by omega)), rfl⟩
theorem oside_no (n : Int) (h : n < 1 ∨ 65536 < n) (w : World) :
    Calls Tryz.prog 69 #[.int .i64 n] w fun e w' => e = .returned (.bool false) ∧ w = w' := by
  rcases h with h | h
  all_goals
    go_enter Tryz.func69, Tryz.ntmps69
    go_wp2
    go_ret
    first | exact ⟨rfl, rfl⟩ | exact ⟨ret_bool (decide_eq_false (by omega)), rfl⟩
/-- The sizes that an operation leads to. -/
theorem osize_any (o : Opr) (ax : Option Addr) (cx : Nat) (ay : Option Addr) (cy : Nat) (a b : Int) (w : World) :
    Calls Tryz.prog 74 #[opV o ax cx ay cy, .int .i64 a, .int .i64 b] w fun e w' => e = .returned (.tuple #[.int .i64 (toW o a), .int .i64 (toH o b)]) ∧ Below w.heap.size w w' := by
  unfold opV toW toH
  obtain ⟨kd, bd, sg, rd, xs, ys, fl, wd, ht⟩ := o
  simp only
  generalize xs.length = nx at *
  generalize ys.length = ny at *
  by_cases h : kd = 3
  · rw [if_pos h, if_pos h]
    subst h
    go_enter Tryz.func74, Tryz.ntmps74
    go_wp2
    go_quiet (fail)
    go_wp2
    exact bodyPost_ret (v := .tuple #[.int .i64 wd, .int .i64 ht]) (by simp [results, Tryz.results74, go_sem]) rfl ⟨rfl, by repeat (first | exact Below.refl _ _ | with_reducible refine bdN ?_ _ | with_reducible refine bd ?_ | with_reducible refine ba ?_ _)⟩
  · rw [if_neg h, if_neg h]
    have hq : (kd == 3) = false := by simpa using h
    clear h
    go_enter Tryz.func74, Tryz.ntmps74
    go_wp2
    exact bodyPost_ret (v := .tuple #[.int .i64 a, .int .i64 b]) (by simp [results, Tryz.results74, go_sem]) rfl ⟨rfl, by repeat (first | exact Below.refl _ _ | with_reducible refine bd ?_ | with_reducible refine ba ?_ _)⟩
theorem nameE_some (p : Int) (p0 : 0 ≤ p) (p1 : p ≤ 2) : ∃ s, nameE p = .string s ∧ s.toList.isEmpty = false := by
  unfold nameE
  by_cases h0 : p = 0
  · rw [if_pos h0]; exact ⟨_, rfl, by decide +kernel⟩
  by_cases h1 : p = 1
  · rw [if_neg h0, if_pos h1]; exact ⟨_, rfl, by decide +kernel⟩
  · rw [if_neg h0, if_neg h1, if_pos (by omega)]; exact ⟨_, rfl, by decide +kernel⟩
theorem nameE_none (p : Int) (h : p < 0 ∨ 2 < p) : nameE p = .string ⟨#[]⟩ := by
  unfold nameE
  rw [if_neg (by omega), if_neg (by omega), if_neg (by omega)]
end Go.Proofs.YtaafhjngnjjcmaaGreatDoor
