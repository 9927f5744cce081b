/- The policies' names: the table out of what the row lists, the program's answers, and the law. -/
import Derived.Test.YthhdclgpllnenaaDoorS07C
import Derived.Test.YthhdclgpllnenaaDoorLA
import Derived.Test.YthhdclgpllnenaaDoorRows
import Derived.ProofKit
import Derived.LaidMore
import Derived.OpenShut
import Derived.ChangeMaps5
import Derived.Laws.Strings
namespace Go.Proofs.YthhdclgpllnenaaDoor
open Go.ChangeShapes Go.WideShapes Go.ChangeAt Go.WideMaps Go.WideElems Go.RowKit


theorem ownE : ownKnob Tryd.prog.godebug = none := by kernel_rfl
theorem gNamesE : Tryd.prog.globalNamed "smalto/border.names" = some 0 := by kernel_rfl
theorem tNamesE : (Tryd.prog.globals[0]?).map (·.type) = some 31 := by kernel_rfl
theorem cellsNamesE : Tryd.prog.cellsOf 31 = 3 := by kernel_rfl
theorem cellsStrE : Tryd.prog.cellsOf 9 = 1 := by kernel_rfl
def laidE {H : Type} : List (String × DataW H) := [("smalto/border.names", Rows.laid_smalto_border_names)]
theorem door_metE (os : Os) (args : Array Value) : laidMetH Tryd.prog laidE ((World.doorLaid Tryd.prog 400 os).forCall (fun _ _ => 0) ⟨#[], args, []⟩).memory :=
  laidMetH_of_parts3 (fuel := 8) (laidMet_of_run' 8 (by kernel_rfl) (by kernel_rfl)) (by kernel_rfl) (by kernel_rfl)
/-- The names' bytes. -/
abbrev nClamp : ByteArray := ⟨#[99, 108, 97, 109, 112]⟩
abbrev nMirror : ByteArray := ⟨#[109, 105, 114, 114, 111, 114]⟩
abbrev nWrap : ByteArray := ⟨#[119, 114, 97, 112]⟩
theorem bytes_of {s : ByteArray} {l : List UInt8} (h : s.data.toList = l) : s = ⟨l.toArray⟩ := by
  subst h; rfl
theorem str_cell {H : Type} {enc : TypeId × Value → H} {w : World} {base : Nat} {sp : Nat → Bool} {held : Bool} {fuel : Nat} {a : Value} {l : List UInt8} {y : DataW H × List MemPlace}
    (h : DataW.trod enc Tryd.prog w base sp held fuel 9 [a] = some y) (hy : y.1 = .lit (.string l)) : a = .string ⟨l.toArray⟩ := by
  obtain ⟨s, e0, rfl, _⟩ := DataW.trod_string Tryd.underlying9 h
  simp at e0 hy
  rw [e0, bytes_of hy]
theorem names_cells {H : Type} {enc : TypeId × Value → H} {w : World} {base : Nat} {sp : Nat → Bool} {held : Bool} {fuel : Nat} {cs : Array Value} {p : List MemPlace}
    (h : DataW.trod enc Tryd.prog w base sp held fuel 31 cs.toList = some (Rows.laid_smalto_border_names, p)) :
    cs = #[.string nClamp, .string nMirror, .string nWrap] := by
  obtain ⟨l⟩ := cs
  obtain ⟨xs, m, rfl, hx, hl, hn, he⟩ := DataW.trod_array Tryd.underlying31 h
  rw [cellsNamesE] at hl
  rw [cellsStrE] at he
  obtain ⟨c0, c1, c2, rfl⟩ : ∃ c0 c1 c2, l = [c0, c1, c2] := by
    match l, hl with
    | [a, b, c], _ => exact ⟨a, b, c, rfl⟩
  obtain ⟨y0, y1, y2, rfl⟩ : ∃ y0 y1 y2, xs = [y0, y1, y2] := by
    match xs, hn with
    | [a, b, c], _ => exact ⟨a, b, c, rfl⟩
  have h0 := he 0 (by omega)
  have h1 := he 1 (by omega)
  have h2 := he 2 (by omega)
  simp at h0 h1 h2
  simp [Rows.laid_smalto_border_names] at hx
  obtain ⟨⟨g0, g1, g2⟩, _⟩ := hx
  obtain rfl := str_cell h0 g0.symm
  obtain rfl := str_cell h1 g1.symm
  obtain rfl := str_cell h2 g2.symm
  rfl
/-- What the program's table of names holds. -/
def NamesE (w : World) : Prop :=
  w.cell? ⟨0, 0, none⟩ = some (.string nClamp) ∧ w.cell? ⟨0, 1, none⟩ = some (.string nMirror) ∧ w.cell? ⟨0, 2, none⟩ = some (.string nWrap)
theorem cell_ltE {w : World} {b o : Nat} {v : Value} (h : w.cell? ⟨b, o, none⟩ = some v) : b < w.heap.size := by
  by_cases g : b < w.heap.size
  · exact g
  · have e : w.heap[b]? = none := Array.getElem?_eq_none (by omega)
    simp [World.cell?, e] at h
theorem namesE_below {w w1 : World} (h : NamesE w) (b : Below w.heap.size w w1) : NamesE w1 := by
  obtain ⟨c0, c1, c2⟩ := h
  have lc := cell_ltE c0
  exact ⟨cb b lc c0, cb b lc c1, cb b lc c2⟩
theorem names_of_laid {W : World} (h : laidMetH Tryd.prog laidE W) : NamesE W := by
  rw [MakeChecks.laidMetH_plain _ _ _ (by kernel_rfl)] at h
  obtain ⟨ps, ⟨g0, t0, cs0, f0, p0, q0, hg0, ht0, hv0, hd0, _, _⟩, _, _⟩ := h
  obtain rfl := Option.some.inj (gNamesE.symm.trans hg0)
  obtain rfl := Option.some.inj (tNamesE.symm.trans ht0)
  obtain rfl := names_cells hd0
  exact ⟨World.var?_cell hg0 hv0 0, World.var?_cell hg0 hv0 1, World.var?_cell hg0 hv0 2⟩
/-! ### The program's answers -/
def nameE (p : Int) : Value := if p = 0 then .string nClamp else if p = 1 then .string nMirror else if p = 2 then .string nWrap else .string ⟨#[]⟩
theorem nameE_any (p : Int) (w : World) (hk : NamesE w) :
    Calls Tryd.prog 5 #[.int .i64 p] w fun e w' => e = .returned (nameE p) ∧ w = w' := by
  obtain ⟨k0, k1, k2⟩ := hk
  by_cases h0 : p = 0
  · subst h0
    have C := fun w => knownE_yes 0 (by omega) (by omega) w
    go_enter Tryd.func5, Tryd.ntmps5
    go_wp2_with (go_at_call 8; (with_reducible refine (C _).mono ?_); rintro e w1 ⟨rfl, rfl⟩)
    go_ret
    exact ⟨rfl, rfl⟩
  by_cases h1 : p = 1
  · subst h1
    have C := fun w => knownE_yes 1 (by omega) (by omega) w
    go_enter Tryd.func5, Tryd.ntmps5
    go_wp2_with (go_at_call 8; (with_reducible refine (C _).mono ?_); rintro e w1 ⟨rfl, rfl⟩)
    go_ret
    exact ⟨rfl, rfl⟩
  by_cases h2 : p = 2
  · subst h2
    have C := fun w => knownE_yes 2 (by omega) (by omega) w
    go_enter Tryd.func5, Tryd.ntmps5
    go_wp2_with (go_at_call 8; (with_reducible refine (C _).mono ?_); rintro e w1 ⟨rfl, rfl⟩)
    go_ret
    exact ⟨rfl, rfl⟩
  · have C := fun w => knownE_no p (by omega) w
    rw [show nameE p = .string ⟨#[]⟩ by unfold nameE; rw [if_neg h0, if_neg h1, if_neg h2]]
    clear h0 h1 h2 k0 k1 k2
    go_enter Tryd.func5, Tryd.ntmps5
    go_wp2_with (go_at_call 8; (with_reducible refine (C _).mono ?_); rintro e w1 ⟨rfl, rfl⟩)
    go_ret
    exact ⟨rfl, rfl⟩
theorem str_ne {s : ByteArray} {l : List UInt8} (h : s ≠ ⟨l.toArray⟩) : (l == s.toList) = false := by
  refine beq_eq_false_iff_ne.2 fun e => h ?_
  rw [ByteArray.toList_eq] at e
  exact bytes_of e.symm
theorem at_name0 : ∀ w : World, (Instr.index 31 (.agg #[.string nClamp, .string nMirror, .string nWrap]) (.int .i64 0)).run Tryd.prog w = .ok (.string nClamp) w := fun _ => by kernel_rfl
theorem at_name1 : ∀ w : World, (Instr.index 31 (.agg #[.string nClamp, .string nMirror, .string nWrap]) (.int .i64 1)).run Tryd.prog w = .ok (.string nMirror) w := fun _ => by kernel_rfl
theorem at_name2 : ∀ w : World, (Instr.index 31 (.agg #[.string nClamp, .string nMirror, .string nWrap]) (.int .i64 2)).run Tryd.prog w = .ok (.string nWrap) w := fun _ => by kernel_rfl
theorem named_0 (w : World) (hk : NamesE w) :
    Calls Tryd.prog 6 #[.string nClamp] w fun e w' => e = .returned (.tuple #[.int .i64 0, .bool true]) ∧ w = w' := by
  obtain ⟨k0, k1, k2⟩ := hk
  have x0 := at_name0
  go_enter Tryd.func6, Tryd.ntmps6
  go_wp2
  go_loop [7] (fun i => ∃ x : Int, 0 ≤ x ∧ x ≤ 0 ∧ i = .int .i64 x) (fun i => (0 - intOf i).toNat)
  case atStart => exact ⟨0, by omega, by omega, rfl⟩
  case round =>
    obtain ⟨x, z0, z1, rfl⟩ := hrel
    obtain rfl : x = 0 := by omega
    go_wp2
    go_ret2
    exact ⟨rfl, rfl⟩
theorem named_1 (w : World) (hk : NamesE w) :
    Calls Tryd.prog 6 #[.string nMirror] w fun e w' => e = .returned (.tuple #[.int .i64 1, .bool true]) ∧ w = w' := by
  obtain ⟨k0, k1, k2⟩ := hk
  have x0 := at_name0
  have x1 := at_name1
  go_enter Tryd.func6, Tryd.ntmps6
  go_wp2
  go_loop [7] (fun i => ∃ x : Int, 0 ≤ x ∧ x ≤ 1 ∧ i = .int .i64 x) (fun i => (1 - intOf i).toNat)
  case atStart => exact ⟨0, by omega, by omega, rfl⟩
  case round =>
    obtain ⟨x, z0, z1, rfl⟩ := hrel
    by_cases h0 : x = 0
    · subst h0
      go_wp2
      go_round
      case rel => exact ⟨1, by omega, by omega, rfl⟩
      case measure => simp [intOf]
    obtain rfl : x = 1 := by omega
    clear h0
    go_wp2
    go_ret2
    exact ⟨rfl, rfl⟩
theorem named_2 (w : World) (hk : NamesE w) :
    Calls Tryd.prog 6 #[.string nWrap] w fun e w' => e = .returned (.tuple #[.int .i64 2, .bool true]) ∧ w = w' := by
  obtain ⟨k0, k1, k2⟩ := hk
  have x0 := at_name0
  have x1 := at_name1
  have x2 := at_name2
  go_enter Tryd.func6, Tryd.ntmps6
  go_wp2
  go_loop [7] (fun i => ∃ x : Int, 0 ≤ x ∧ x ≤ 2 ∧ i = .int .i64 x) (fun i => (2 - intOf i).toNat)
  case atStart => exact ⟨0, by omega, by omega, rfl⟩
  case round =>
    obtain ⟨x, z0, z1, rfl⟩ := hrel
    by_cases h0 : x = 0
    · subst h0
      go_wp2
      go_round
      case rel => exact ⟨1, by omega, by omega, rfl⟩
      case measure => simp [intOf]
    by_cases h1 : x = 1
    · subst h1
      go_wp2
      go_round
      case rel => exact ⟨2, by omega, by omega, rfl⟩
      case measure => simp [intOf]
    obtain rfl : x = 2 := by omega
    clear h0 h1
    go_wp2
    go_ret2
    exact ⟨rfl, rfl⟩
theorem named_none (s : ByteArray) (h0 : s ≠ nClamp) (h1 : s ≠ nMirror) (h2 : s ≠ nWrap) (w : World) (hk : NamesE w) :
    Calls Tryd.prog 6 #[.string s] w fun e w' => e = .returned (.tuple #[.int .i64 0, .bool false]) ∧ w = w' := by
  have q0 : (([99, 108, 97, 109, 112] : List UInt8) == s.toList) = false := str_ne h0
  have q1 : (([109, 105, 114, 114, 111, 114] : List UInt8) == s.toList) = false := str_ne h1
  have q2 : (([119, 114, 97, 112] : List UInt8) == s.toList) = false := str_ne h2
  clear h0 h1 h2
  obtain ⟨k0, k1, k2⟩ := hk
  have x0 := at_name0
  have x1 := at_name1
  have x2 := at_name2
  go_enter Tryd.func6, Tryd.ntmps6
  go_wp2
  go_loop [7] (fun i => ∃ x : Int, 0 ≤ x ∧ x ≤ 3 ∧ i = .int .i64 x) (fun i => (3 - intOf i).toNat)
  case atStart => exact ⟨0, by omega, by omega, rfl⟩
  case round =>
    obtain ⟨x, z0, z1, rfl⟩ := hrel
    by_cases h0 : x = 0
    · subst h0
      go_wp2
      go_round
      case rel => exact ⟨1, by omega, by omega, rfl⟩
      case measure => simp [intOf]
    by_cases h1 : x = 1
    · subst h1
      go_wp2
      go_round
      case rel => exact ⟨2, by omega, by omega, rfl⟩
      case measure => simp [intOf]
    by_cases h2 : x = 2
    · subst h2
      go_wp2
      go_round
      case rel => exact ⟨3, by omega, by omega, rfl⟩
      case measure => simp [intOf]
    obtain rfl : x = 3 := by omega
    clear h0 h1 h2
    go_wp2
    go_ret2
    exact ⟨rfl, rfl⟩
set_option maxHeartbeats 1000000 in
theorem names_0 (p : Int) (w : World) (hk : NamesE w) :
    Calls Tryd.prog 3 #[.int .i64 p, .string nClamp] w fun e w' => e = .returned (.bool true) ∧ Below w.heap.size w w' := by
  have CL := elives
  have CN := fun w hk => nameE_any p w hk
  have C0 := fun w hk => named_0 w hk
  have hp : p < 0 ∨ p = 0 ∨ p = 1 ∨ p = 2 ∨ 2 < p := by omega
  have HK := hide hk
  clear hk
  rcases hp with hp | rfl | rfl | rfl | hp
  · rw [show nameE p = .string ⟨#[]⟩ by unfold nameE; rw [if_neg (by omega), if_neg (by omega), if_neg (by omega)]] at CN
    go_enter Tryd.func3, Tryd.ntmps3
    go_wp2_with (first
      | (go_at_call 4; (with_reducible refine (CL _).mono ?_); rintro e w1 ⟨rfl, rfl⟩)
      | (go_at_call 5; (with_reducible refine (CN _ (namesE_below HK.out (ba (Below.refl _ _) _))).mono ?_); rintro e w2 ⟨rfl, rfl⟩))
    clear CN CL
    go_loop [32] (fun i => ∃ x : Int, 0 ≤ x ∧ x ≤ 0 ∧ i = .int .i64 x) (fun i => (0 - intOf i).toNat)
    case atStart => exact ⟨0, by omega, by omega, rfl⟩
    case round =>
      obtain ⟨x, z0, z1, rfl⟩ := hrel
      obtain rfl : x = 0 := by omega
      go_wp2_with (go_at_call 6; (with_reducible refine (C0 _ (namesE_below HK.out (ba (Below.refl _ _) _))).mono ?_); rintro e w2 ⟨rfl, rfl⟩)
      go_ret
      exact ⟨rfl, ba (Below.refl _ _) _⟩
  · rw [show nameE 0 = .string nClamp from rfl] at CN
    go_enter Tryd.func3, Tryd.ntmps3
    go_wp2_with (first
      | (go_at_call 4; (with_reducible refine (CL _).mono ?_); rintro e w1 ⟨rfl, rfl⟩)
      | (go_at_call 5; (with_reducible refine (CN _ (namesE_below HK.out (ba (Below.refl _ _) _))).mono ?_); rintro e w2 ⟨rfl, rfl⟩))
    clear CN CL
    go_loop [32] (fun i => ∃ x : Int, 0 ≤ x ∧ x ≤ 0 ∧ i = .int .i64 x) (fun i => (0 - intOf i).toNat)
    case atStart => exact ⟨0, by omega, by omega, rfl⟩
    case round =>
      obtain ⟨x, z0, z1, rfl⟩ := hrel
      obtain rfl : x = 0 := by omega
      go_wp2_with (go_at_call 6; (with_reducible refine (C0 _ (namesE_below HK.out (ba (Below.refl _ _) _))).mono ?_); rintro e w2 ⟨rfl, rfl⟩)
      go_ret
      exact ⟨rfl, ba (Below.refl _ _) _⟩
  · rw [show nameE 1 = .string nMirror from rfl] at CN
    go_enter Tryd.func3, Tryd.ntmps3
    go_wp2_with (first
      | (go_at_call 4; (with_reducible refine (CL _).mono ?_); rintro e w1 ⟨rfl, rfl⟩)
      | (go_at_call 5; (with_reducible refine (CN _ (namesE_below HK.out (ba (Below.refl _ _) _))).mono ?_); rintro e w2 ⟨rfl, rfl⟩))
    clear CN CL
    go_loop [32] (fun i => ∃ x : Int, 0 ≤ x ∧ x ≤ 0 ∧ i = .int .i64 x) (fun i => (0 - intOf i).toNat)
    case atStart => exact ⟨0, by omega, by omega, rfl⟩
    case round =>
      obtain ⟨x, z0, z1, rfl⟩ := hrel
      obtain rfl : x = 0 := by omega
      go_wp2_with (go_at_call 6; (with_reducible refine (C0 _ (namesE_below HK.out (ba (Below.refl _ _) _))).mono ?_); rintro e w2 ⟨rfl, rfl⟩)
      go_ret
      exact ⟨rfl, ba (Below.refl _ _) _⟩
  · rw [show nameE 2 = .string nWrap from rfl] at CN
    go_enter Tryd.func3, Tryd.ntmps3
    go_wp2_with (first
      | (go_at_call 4; (with_reducible refine (CL _).mono ?_); rintro e w1 ⟨rfl, rfl⟩)
      | (go_at_call 5; (with_reducible refine (CN _ (namesE_below HK.out (ba (Below.refl _ _) _))).mono ?_); rintro e w2 ⟨rfl, rfl⟩))
    clear CN CL
    go_loop [32] (fun i => ∃ x : Int, 0 ≤ x ∧ x ≤ 0 ∧ i = .int .i64 x) (fun i => (0 - intOf i).toNat)
    case atStart => exact ⟨0, by omega, by omega, rfl⟩
    case round =>
      obtain ⟨x, z0, z1, rfl⟩ := hrel
      obtain rfl : x = 0 := by omega
      go_wp2_with (go_at_call 6; (with_reducible refine (C0 _ (namesE_below HK.out (ba (Below.refl _ _) _))).mono ?_); rintro e w2 ⟨rfl, rfl⟩)
      go_ret
      exact ⟨rfl, ba (Below.refl _ _) _⟩
  · rw [show nameE p = .string ⟨#[]⟩ by unfold nameE; rw [if_neg (by omega), if_neg (by omega), if_neg (by omega)]] at CN
    go_enter Tryd.func3, Tryd.ntmps3
    go_wp2_with (first
      | (go_at_call 4; (with_reducible refine (CL _).mono ?_); rintro e w1 ⟨rfl, rfl⟩)
      | (go_at_call 5; (with_reducible refine (CN _ (namesE_below HK.out (ba (Below.refl _ _) _))).mono ?_); rintro e w2 ⟨rfl, rfl⟩))
    clear CN CL
    go_loop [32] (fun i => ∃ x : Int, 0 ≤ x ∧ x ≤ 0 ∧ i = .int .i64 x) (fun i => (0 - intOf i).toNat)
    case atStart => exact ⟨0, by omega, by omega, rfl⟩
    case round =>
      obtain ⟨x, z0, z1, rfl⟩ := hrel
      obtain rfl : x = 0 := by omega
      go_wp2_with (go_at_call 6; (with_reducible refine (C0 _ (namesE_below HK.out (ba (Below.refl _ _) _))).mono ?_); rintro e w2 ⟨rfl, rfl⟩)
      go_ret
      exact ⟨rfl, ba (Below.refl _ _) _⟩
set_option maxHeartbeats 1000000 in
theorem names_1 (p : Int) (w : World) (hk : NamesE w) :
    Calls Tryd.prog 3 #[.int .i64 p, .string nMirror] w fun e w' => e = .returned (.bool true) ∧ Below w.heap.size w w' := by
  have CL := elives
  have CN := fun w hk => nameE_any p w hk
  have C0 := fun w hk => named_0 w hk
  have C1 := fun w hk => named_1 w hk
  have hp : p < 0 ∨ p = 0 ∨ p = 1 ∨ p = 2 ∨ 2 < p := by omega
  have HK := hide hk
  clear hk
  rcases hp with hp | rfl | rfl | rfl | hp
  · rw [show nameE p = .string ⟨#[]⟩ by unfold nameE; rw [if_neg (by omega), if_neg (by omega), if_neg (by omega)]] at CN
    go_enter Tryd.func3, Tryd.ntmps3
    go_wp2_with (first
      | (go_at_call 4; (with_reducible refine (CL _).mono ?_); rintro e w1 ⟨rfl, rfl⟩)
      | (go_at_call 5; (with_reducible refine (CN _ (namesE_below HK.out (ba (Below.refl _ _) _))).mono ?_); rintro e w2 ⟨rfl, rfl⟩))
    clear CN CL
    go_loop [32] (fun i => ∃ x : Int, 0 ≤ x ∧ x ≤ 1 ∧ i = .int .i64 x) (fun i => (1 - intOf i).toNat)
    case atStart => exact ⟨0, by omega, by omega, rfl⟩
    case round =>
      obtain ⟨x, z0, z1, rfl⟩ := hrel
      by_cases h0 : x = 0
      · subst h0
        go_wp2_with (go_at_call 6; (with_reducible refine (C0 _ (namesE_below HK.out (ba (Below.refl _ _) _))).mono ?_); rintro e w2 ⟨rfl, rfl⟩)
        go_round
        case rel => exact ⟨1, by omega, by omega, rfl⟩
        case measure => simp [intOf]
      obtain rfl : x = 1 := by omega
      clear h0
      go_wp2_with (go_at_call 6; (with_reducible refine (C1 _ (namesE_below HK.out (ba (Below.refl _ _) _))).mono ?_); rintro e w2 ⟨rfl, rfl⟩)
      go_ret
      exact ⟨rfl, ba (Below.refl _ _) _⟩
  · rw [show nameE 0 = .string nClamp from rfl] at CN
    go_enter Tryd.func3, Tryd.ntmps3
    go_wp2_with (first
      | (go_at_call 4; (with_reducible refine (CL _).mono ?_); rintro e w1 ⟨rfl, rfl⟩)
      | (go_at_call 5; (with_reducible refine (CN _ (namesE_below HK.out (ba (Below.refl _ _) _))).mono ?_); rintro e w2 ⟨rfl, rfl⟩))
    clear CN CL
    go_loop [32] (fun i => ∃ x : Int, 0 ≤ x ∧ x ≤ 1 ∧ i = .int .i64 x) (fun i => (1 - intOf i).toNat)
    case atStart => exact ⟨0, by omega, by omega, rfl⟩
    case round =>
      obtain ⟨x, z0, z1, rfl⟩ := hrel
      by_cases h0 : x = 0
      · subst h0
        go_wp2_with (go_at_call 6; (with_reducible refine (C0 _ (namesE_below HK.out (ba (Below.refl _ _) _))).mono ?_); rintro e w2 ⟨rfl, rfl⟩)
        go_round
        case rel => exact ⟨1, by omega, by omega, rfl⟩
        case measure => simp [intOf]
      obtain rfl : x = 1 := by omega
      clear h0
      go_wp2_with (go_at_call 6; (with_reducible refine (C1 _ (namesE_below HK.out (ba (Below.refl _ _) _))).mono ?_); rintro e w2 ⟨rfl, rfl⟩)
      go_ret
      exact ⟨rfl, ba (Below.refl _ _) _⟩
  · rw [show nameE 1 = .string nMirror from rfl] at CN
    go_enter Tryd.func3, Tryd.ntmps3
    go_wp2_with (first
      | (go_at_call 4; (with_reducible refine (CL _).mono ?_); rintro e w1 ⟨rfl, rfl⟩)
      | (go_at_call 5; (with_reducible refine (CN _ (namesE_below HK.out (ba (Below.refl _ _) _))).mono ?_); rintro e w2 ⟨rfl, rfl⟩))
    clear CN CL
    go_loop [32] (fun i => ∃ x : Int, 0 ≤ x ∧ x ≤ 1 ∧ i = .int .i64 x) (fun i => (1 - intOf i).toNat)
    case atStart => exact ⟨0, by omega, by omega, rfl⟩
    case round =>
      obtain ⟨x, z0, z1, rfl⟩ := hrel
      by_cases h0 : x = 0
      · subst h0
        go_wp2_with (go_at_call 6; (with_reducible refine (C0 _ (namesE_below HK.out (ba (Below.refl _ _) _))).mono ?_); rintro e w2 ⟨rfl, rfl⟩)
        go_round
        case rel => exact ⟨1, by omega, by omega, rfl⟩
        case measure => simp [intOf]
      obtain rfl : x = 1 := by omega
      clear h0
      go_wp2_with (go_at_call 6; (with_reducible refine (C1 _ (namesE_below HK.out (ba (Below.refl _ _) _))).mono ?_); rintro e w2 ⟨rfl, rfl⟩)
      go_ret
      exact ⟨rfl, ba (Below.refl _ _) _⟩
  · rw [show nameE 2 = .string nWrap from rfl] at CN
    go_enter Tryd.func3, Tryd.ntmps3
    go_wp2_with (first
      | (go_at_call 4; (with_reducible refine (CL _).mono ?_); rintro e w1 ⟨rfl, rfl⟩)
      | (go_at_call 5; (with_reducible refine (CN _ (namesE_below HK.out (ba (Below.refl _ _) _))).mono ?_); rintro e w2 ⟨rfl, rfl⟩))
    clear CN CL
    go_loop [32] (fun i => ∃ x : Int, 0 ≤ x ∧ x ≤ 1 ∧ i = .int .i64 x) (fun i => (1 - intOf i).toNat)
    case atStart => exact ⟨0, by omega, by omega, rfl⟩
    case round =>
      obtain ⟨x, z0, z1, rfl⟩ := hrel
      by_cases h0 : x = 0
      · subst h0
        go_wp2_with (go_at_call 6; (with_reducible refine (C0 _ (namesE_below HK.out (ba (Below.refl _ _) _))).mono ?_); rintro e w2 ⟨rfl, rfl⟩)
        go_round
        case rel => exact ⟨1, by omega, by omega, rfl⟩
        case measure => simp [intOf]
      obtain rfl : x = 1 := by omega
      clear h0
      go_wp2_with (go_at_call 6; (with_reducible refine (C1 _ (namesE_below HK.out (ba (Below.refl _ _) _))).mono ?_); rintro e w2 ⟨rfl, rfl⟩)
      go_ret
      exact ⟨rfl, ba (Below.refl _ _) _⟩
  · rw [show nameE p = .string ⟨#[]⟩ by unfold nameE; rw [if_neg (by omega), if_neg (by omega), if_neg (by omega)]] at CN
    go_enter Tryd.func3, Tryd.ntmps3
    go_wp2_with (first
      | (go_at_call 4; (with_reducible refine (CL _).mono ?_); rintro e w1 ⟨rfl, rfl⟩)
      | (go_at_call 5; (with_reducible refine (CN _ (namesE_below HK.out (ba (Below.refl _ _) _))).mono ?_); rintro e w2 ⟨rfl, rfl⟩))
    clear CN CL
    go_loop [32] (fun i => ∃ x : Int, 0 ≤ x ∧ x ≤ 1 ∧ i = .int .i64 x) (fun i => (1 - intOf i).toNat)
    case atStart => exact ⟨0, by omega, by omega, rfl⟩
    case round =>
      obtain ⟨x, z0, z1, rfl⟩ := hrel
      by_cases h0 : x = 0
      · subst h0
        go_wp2_with (go_at_call 6; (with_reducible refine (C0 _ (namesE_below HK.out (ba (Below.refl _ _) _))).mono ?_); rintro e w2 ⟨rfl, rfl⟩)
        go_round
        case rel => exact ⟨1, by omega, by omega, rfl⟩
        case measure => simp [intOf]
      obtain rfl : x = 1 := by omega
      clear h0
      go_wp2_with (go_at_call 6; (with_reducible refine (C1 _ (namesE_below HK.out (ba (Below.refl _ _) _))).mono ?_); rintro e w2 ⟨rfl, rfl⟩)
      go_ret
      exact ⟨rfl, ba (Below.refl _ _) _⟩
set_option maxHeartbeats 1000000 in
theorem names_2 (p : Int) (w : World) (hk : NamesE w) :
    Calls Tryd.prog 3 #[.int .i64 p, .string nWrap] w fun e w' => e = .returned (.bool true) ∧ Below w.heap.size w w' := by
  have CL := elives
  have CN := fun w hk => nameE_any p w hk
  have C0 := fun w hk => named_0 w hk
  have C1 := fun w hk => named_1 w hk
  have C2 := fun w hk => named_2 w hk
  have hp : p < 0 ∨ p = 0 ∨ p = 1 ∨ p = 2 ∨ 2 < p := by omega
  have HK := hide hk
  clear hk
  rcases hp with hp | rfl | rfl | rfl | hp
  · rw [show nameE p = .string ⟨#[]⟩ by unfold nameE; rw [if_neg (by omega), if_neg (by omega), if_neg (by omega)]] at CN
    go_enter Tryd.func3, Tryd.ntmps3
    go_wp2_with (first
      | (go_at_call 4; (with_reducible refine (CL _).mono ?_); rintro e w1 ⟨rfl, rfl⟩)
      | (go_at_call 5; (with_reducible refine (CN _ (namesE_below HK.out (ba (Below.refl _ _) _))).mono ?_); rintro e w2 ⟨rfl, rfl⟩))
    clear CN CL
    go_loop [32] (fun i => ∃ x : Int, 0 ≤ x ∧ x ≤ 2 ∧ i = .int .i64 x) (fun i => (2 - intOf i).toNat)
    case atStart => exact ⟨0, by omega, by omega, rfl⟩
    case round =>
      obtain ⟨x, z0, z1, rfl⟩ := hrel
      by_cases h0 : x = 0
      · subst h0
        go_wp2_with (go_at_call 6; (with_reducible refine (C0 _ (namesE_below HK.out (ba (Below.refl _ _) _))).mono ?_); rintro e w2 ⟨rfl, rfl⟩)
        go_round
        case rel => exact ⟨1, by omega, by omega, rfl⟩
        case measure => simp [intOf]
      by_cases h1 : x = 1
      · subst h1
        go_wp2_with (go_at_call 6; (with_reducible refine (C1 _ (namesE_below HK.out (ba (Below.refl _ _) _))).mono ?_); rintro e w2 ⟨rfl, rfl⟩)
        go_round
        case rel => exact ⟨2, by omega, by omega, rfl⟩
        case measure => simp [intOf]
      obtain rfl : x = 2 := by omega
      clear h0 h1
      go_wp2_with (go_at_call 6; (with_reducible refine (C2 _ (namesE_below HK.out (ba (Below.refl _ _) _))).mono ?_); rintro e w2 ⟨rfl, rfl⟩)
      go_ret
      exact ⟨rfl, ba (Below.refl _ _) _⟩
  · rw [show nameE 0 = .string nClamp from rfl] at CN
    go_enter Tryd.func3, Tryd.ntmps3
    go_wp2_with (first
      | (go_at_call 4; (with_reducible refine (CL _).mono ?_); rintro e w1 ⟨rfl, rfl⟩)
      | (go_at_call 5; (with_reducible refine (CN _ (namesE_below HK.out (ba (Below.refl _ _) _))).mono ?_); rintro e w2 ⟨rfl, rfl⟩))
    clear CN CL
    go_loop [32] (fun i => ∃ x : Int, 0 ≤ x ∧ x ≤ 2 ∧ i = .int .i64 x) (fun i => (2 - intOf i).toNat)
    case atStart => exact ⟨0, by omega, by omega, rfl⟩
    case round =>
      obtain ⟨x, z0, z1, rfl⟩ := hrel
      by_cases h0 : x = 0
      · subst h0
        go_wp2_with (go_at_call 6; (with_reducible refine (C0 _ (namesE_below HK.out (ba (Below.refl _ _) _))).mono ?_); rintro e w2 ⟨rfl, rfl⟩)
        go_round
        case rel => exact ⟨1, by omega, by omega, rfl⟩
        case measure => simp [intOf]
      by_cases h1 : x = 1
      · subst h1
        go_wp2_with (go_at_call 6; (with_reducible refine (C1 _ (namesE_below HK.out (ba (Below.refl _ _) _))).mono ?_); rintro e w2 ⟨rfl, rfl⟩)
        go_round
        case rel => exact ⟨2, by omega, by omega, rfl⟩
        case measure => simp [intOf]
      obtain rfl : x = 2 := by omega
      clear h0 h1
      go_wp2_with (go_at_call 6; (with_reducible refine (C2 _ (namesE_below HK.out (ba (Below.refl _ _) _))).mono ?_); rintro e w2 ⟨rfl, rfl⟩)
      go_ret
      exact ⟨rfl, ba (Below.refl _ _) _⟩
  · rw [show nameE 1 = .string nMirror from rfl] at CN
    go_enter Tryd.func3, Tryd.ntmps3
    go_wp2_with (first
      | (go_at_call 4; (with_reducible refine (CL _).mono ?_); rintro e w1 ⟨rfl, rfl⟩)
      | (go_at_call 5; (with_reducible refine (CN _ (namesE_below HK.out (ba (Below.refl _ _) _))).mono ?_); rintro e w2 ⟨rfl, rfl⟩))
    clear CN CL
    go_loop [32] (fun i => ∃ x : Int, 0 ≤ x ∧ x ≤ 2 ∧ i = .int .i64 x) (fun i => (2 - intOf i).toNat)
    case atStart => exact ⟨0, by omega, by omega, rfl⟩
    case round =>
      obtain ⟨x, z0, z1, rfl⟩ := hrel
      by_cases h0 : x = 0
      · subst h0
        go_wp2_with (go_at_call 6; (with_reducible refine (C0 _ (namesE_below HK.out (ba (Below.refl _ _) _))).mono ?_); rintro e w2 ⟨rfl, rfl⟩)
        go_round
        case rel => exact ⟨1, by omega, by omega, rfl⟩
        case measure => simp [intOf]
      by_cases h1 : x = 1
      · subst h1
        go_wp2_with (go_at_call 6; (with_reducible refine (C1 _ (namesE_below HK.out (ba (Below.refl _ _) _))).mono ?_); rintro e w2 ⟨rfl, rfl⟩)
        go_round
        case rel => exact ⟨2, by omega, by omega, rfl⟩
        case measure => simp [intOf]
      obtain rfl : x = 2 := by omega
      clear h0 h1
      go_wp2_with (go_at_call 6; (with_reducible refine (C2 _ (namesE_below HK.out (ba (Below.refl _ _) _))).mono ?_); rintro e w2 ⟨rfl, rfl⟩)
      go_ret
      exact ⟨rfl, ba (Below.refl _ _) _⟩
  · rw [show nameE 2 = .string nWrap from rfl] at CN
    go_enter Tryd.func3, Tryd.ntmps3
    go_wp2_with (first
      | (go_at_call 4; (with_reducible refine (CL _).mono ?_); rintro e w1 ⟨rfl, rfl⟩)
      | (go_at_call 5; (with_reducible refine (CN _ (namesE_below HK.out (ba (Below.refl _ _) _))).mono ?_); rintro e w2 ⟨rfl, rfl⟩))
    clear CN CL
    go_loop [32] (fun i => ∃ x : Int, 0 ≤ x ∧ x ≤ 2 ∧ i = .int .i64 x) (fun i => (2 - intOf i).toNat)
    case atStart => exact ⟨0, by omega, by omega, rfl⟩
    case round =>
      obtain ⟨x, z0, z1, rfl⟩ := hrel
      by_cases h0 : x = 0
      · subst h0
        go_wp2_with (go_at_call 6; (with_reducible refine (C0 _ (namesE_below HK.out (ba (Below.refl _ _) _))).mono ?_); rintro e w2 ⟨rfl, rfl⟩)
        go_round
        case rel => exact ⟨1, by omega, by omega, rfl⟩
        case measure => simp [intOf]
      by_cases h1 : x = 1
      · subst h1
        go_wp2_with (go_at_call 6; (with_reducible refine (C1 _ (namesE_below HK.out (ba (Below.refl _ _) _))).mono ?_); rintro e w2 ⟨rfl, rfl⟩)
        go_round
        case rel => exact ⟨2, by omega, by omega, rfl⟩
        case measure => simp [intOf]
      obtain rfl : x = 2 := by omega
      clear h0 h1
      go_wp2_with (go_at_call 6; (with_reducible refine (C2 _ (namesE_below HK.out (ba (Below.refl _ _) _))).mono ?_); rintro e w2 ⟨rfl, rfl⟩)
      go_ret
      exact ⟨rfl, ba (Below.refl _ _) _⟩
  · rw [show nameE p = .string ⟨#[]⟩ by unfold nameE; rw [if_neg (by omega), if_neg (by omega), if_neg (by omega)]] at CN
    go_enter Tryd.func3, Tryd.ntmps3
    go_wp2_with (first
      | (go_at_call 4; (with_reducible refine (CL _).mono ?_); rintro e w1 ⟨rfl, rfl⟩)
      | (go_at_call 5; (with_reducible refine (CN _ (namesE_below HK.out (ba (Below.refl _ _) _))).mono ?_); rintro e w2 ⟨rfl, rfl⟩))
    clear CN CL
    go_loop [32] (fun i => ∃ x : Int, 0 ≤ x ∧ x ≤ 2 ∧ i = .int .i64 x) (fun i => (2 - intOf i).toNat)
    case atStart => exact ⟨0, by omega, by omega, rfl⟩
    case round =>
      obtain ⟨x, z0, z1, rfl⟩ := hrel
      by_cases h0 : x = 0
      · subst h0
        go_wp2_with (go_at_call 6; (with_reducible refine (C0 _ (namesE_below HK.out (ba (Below.refl _ _) _))).mono ?_); rintro e w2 ⟨rfl, rfl⟩)
        go_round
        case rel => exact ⟨1, by omega, by omega, rfl⟩
        case measure => simp [intOf]
      by_cases h1 : x = 1
      · subst h1
        go_wp2_with (go_at_call 6; (with_reducible refine (C1 _ (namesE_below HK.out (ba (Below.refl _ _) _))).mono ?_); rintro e w2 ⟨rfl, rfl⟩)
        go_round
        case rel => exact ⟨2, by omega, by omega, rfl⟩
        case measure => simp [intOf]
      obtain rfl : x = 2 := by omega
      clear h0 h1
      go_wp2_with (go_at_call 6; (with_reducible refine (C2 _ (namesE_below HK.out (ba (Below.refl _ _) _))).mono ?_); rintro e w2 ⟨rfl, rfl⟩)
      go_ret
      exact ⟨rfl, ba (Below.refl _ _) _⟩
set_option maxHeartbeats 1000000 in
theorem names_3 (p : Int) (s : ByteArray) (h0 : s ≠ nClamp) (h1 : s ≠ nMirror) (h2 : s ≠ nWrap) (w : World) (hk : NamesE w) :
    Calls Tryd.prog 3 #[.int .i64 p, .string s] w fun e w' => e = .returned (.bool true) ∧ Below w.heap.size w w' := by
  have CL := elives
  have CN := fun w hk => nameE_any p w hk
  have C3 := fun w hk => named_none s h0 h1 h2 w hk
  have q0 : (([99, 108, 97, 109, 112] : List UInt8) == s.toList) = false := str_ne h0
  have q1 : (([109, 105, 114, 114, 111, 114] : List UInt8) == s.toList) = false := str_ne h1
  have q2 : (([119, 114, 97, 112] : List UInt8) == s.toList) = false := str_ne h2
  clear h0 h1 h2
  have C0 := fun w hk => named_0 w hk
  have C1 := fun w hk => named_1 w hk
  have C2 := fun w hk => named_2 w hk
  have hp : p < 0 ∨ p = 0 ∨ p = 1 ∨ p = 2 ∨ 2 < p := by omega
  have HK := hide hk
  clear hk
  rcases hp with hp | rfl | rfl | rfl | hp
  · rw [show nameE p = .string ⟨#[]⟩ by unfold nameE; rw [if_neg (by omega), if_neg (by omega), if_neg (by omega)]] at CN
    go_enter Tryd.func3, Tryd.ntmps3
    go_wp2_with (first
      | (go_at_call 4; (with_reducible refine (CL _).mono ?_); rintro e w1 ⟨rfl, rfl⟩)
      | (go_at_call 5; (with_reducible refine (CN _ (namesE_below HK.out (ba (Below.refl _ _) _))).mono ?_); rintro e w2 ⟨rfl, rfl⟩))
    clear CN CL
    go_loop [32] (fun i => ∃ x : Int, 0 ≤ x ∧ x ≤ 3 ∧ i = .int .i64 x) (fun i => (3 - intOf i).toNat)
    case atStart => exact ⟨0, by omega, by omega, rfl⟩
    case round =>
      obtain ⟨x, z0, z1, rfl⟩ := hrel
      by_cases h0 : x = 0
      · subst h0
        go_wp2_with (go_at_call 6; (with_reducible refine (C0 _ (namesE_below HK.out (ba (Below.refl _ _) _))).mono ?_); rintro e w2 ⟨rfl, rfl⟩)
        go_round
        case rel => exact ⟨1, by omega, by omega, rfl⟩
        case measure => simp [intOf]
      by_cases h1 : x = 1
      · subst h1
        go_wp2_with (go_at_call 6; (with_reducible refine (C1 _ (namesE_below HK.out (ba (Below.refl _ _) _))).mono ?_); rintro e w2 ⟨rfl, rfl⟩)
        go_round
        case rel => exact ⟨2, by omega, by omega, rfl⟩
        case measure => simp [intOf]
      by_cases h2 : x = 2
      · subst h2
        go_wp2_with (go_at_call 6; (with_reducible refine (C2 _ (namesE_below HK.out (ba (Below.refl _ _) _))).mono ?_); rintro e w2 ⟨rfl, rfl⟩)
        go_round
        case rel => exact ⟨3, by omega, by omega, rfl⟩
        case measure => simp [intOf]
      obtain rfl : x = 3 := by omega
      clear h0 h1 h2
      go_wp2_with (go_at_call 6; (with_reducible refine (C3 _ (namesE_below HK.out (ba (Below.refl _ _) _))).mono ?_); rintro e w2 ⟨rfl, rfl⟩)
      go_ret
      exact ⟨rfl, ba (Below.refl _ _) _⟩
  · rw [show nameE 0 = .string nClamp from rfl] at CN
    go_enter Tryd.func3, Tryd.ntmps3
    go_wp2_with (first
      | (go_at_call 4; (with_reducible refine (CL _).mono ?_); rintro e w1 ⟨rfl, rfl⟩)
      | (go_at_call 5; (with_reducible refine (CN _ (namesE_below HK.out (ba (Below.refl _ _) _))).mono ?_); rintro e w2 ⟨rfl, rfl⟩))
    clear CN CL
    go_loop [32] (fun i => ∃ x : Int, 0 ≤ x ∧ x ≤ 3 ∧ i = .int .i64 x) (fun i => (3 - intOf i).toNat)
    case atStart => exact ⟨0, by omega, by omega, rfl⟩
    case round =>
      obtain ⟨x, z0, z1, rfl⟩ := hrel
      by_cases h0 : x = 0
      · subst h0
        go_wp2_with (go_at_call 6; (with_reducible refine (C0 _ (namesE_below HK.out (ba (Below.refl _ _) _))).mono ?_); rintro e w2 ⟨rfl, rfl⟩)
        go_round
        case rel => exact ⟨1, by omega, by omega, rfl⟩
        case measure => simp [intOf]
      by_cases h1 : x = 1
      · subst h1
        go_wp2_with (go_at_call 6; (with_reducible refine (C1 _ (namesE_below HK.out (ba (Below.refl _ _) _))).mono ?_); rintro e w2 ⟨rfl, rfl⟩)
        go_round
        case rel => exact ⟨2, by omega, by omega, rfl⟩
        case measure => simp [intOf]
      by_cases h2 : x = 2
      · subst h2
        go_wp2_with (go_at_call 6; (with_reducible refine (C2 _ (namesE_below HK.out (ba (Below.refl _ _) _))).mono ?_); rintro e w2 ⟨rfl, rfl⟩)
        go_round
        case rel => exact ⟨3, by omega, by omega, rfl⟩
        case measure => simp [intOf]
      obtain rfl : x = 3 := by omega
      clear h0 h1 h2
      go_wp2_with (go_at_call 6; (with_reducible refine (C3 _ (namesE_below HK.out (ba (Below.refl _ _) _))).mono ?_); rintro e w2 ⟨rfl, rfl⟩)
      go_ret
      exact ⟨rfl, ba (Below.refl _ _) _⟩
  · rw [show nameE 1 = .string nMirror from rfl] at CN
    go_enter Tryd.func3, Tryd.ntmps3
    go_wp2_with (first
      | (go_at_call 4; (with_reducible refine (CL _).mono ?_); rintro e w1 ⟨rfl, rfl⟩)
      | (go_at_call 5; (with_reducible refine (CN _ (namesE_below HK.out (ba (Below.refl _ _) _))).mono ?_); rintro e w2 ⟨rfl, rfl⟩))
    clear CN CL
    go_loop [32] (fun i => ∃ x : Int, 0 ≤ x ∧ x ≤ 3 ∧ i = .int .i64 x) (fun i => (3 - intOf i).toNat)
    case atStart => exact ⟨0, by omega, by omega, rfl⟩
    case round =>
      obtain ⟨x, z0, z1, rfl⟩ := hrel
      by_cases h0 : x = 0
      · subst h0
        go_wp2_with (go_at_call 6; (with_reducible refine (C0 _ (namesE_below HK.out (ba (Below.refl _ _) _))).mono ?_); rintro e w2 ⟨rfl, rfl⟩)
        go_round
        case rel => exact ⟨1, by omega, by omega, rfl⟩
        case measure => simp [intOf]
      by_cases h1 : x = 1
      · subst h1
        go_wp2_with (go_at_call 6; (with_reducible refine (C1 _ (namesE_below HK.out (ba (Below.refl _ _) _))).mono ?_); rintro e w2 ⟨rfl, rfl⟩)
        go_round
        case rel => exact ⟨2, by omega, by omega, rfl⟩
        case measure => simp [intOf]
      by_cases h2 : x = 2
      · subst h2
        go_wp2_with (go_at_call 6; (with_reducible refine (C2 _ (namesE_below HK.out (ba (Below.refl _ _) _))).mono ?_); rintro e w2 ⟨rfl, rfl⟩)
        go_round
        case rel => exact ⟨3, by omega, by omega, rfl⟩
        case measure => simp [intOf]
      obtain rfl : x = 3 := by omega
      clear h0 h1 h2
      go_wp2_with (go_at_call 6; (with_reducible refine (C3 _ (namesE_below HK.out (ba (Below.refl _ _) _))).mono ?_); rintro e w2 ⟨rfl, rfl⟩)
      go_ret
      exact ⟨rfl, ba (Below.refl _ _) _⟩
  · rw [show nameE 2 = .string nWrap from rfl] at CN
    go_enter Tryd.func3, Tryd.ntmps3
    go_wp2_with (first
      | (go_at_call 4; (with_reducible refine (CL _).mono ?_); rintro e w1 ⟨rfl, rfl⟩)
      | (go_at_call 5; (with_reducible refine (CN _ (namesE_below HK.out (ba (Below.refl _ _) _))).mono ?_); rintro e w2 ⟨rfl, rfl⟩))
    clear CN CL
    go_loop [32] (fun i => ∃ x : Int, 0 ≤ x ∧ x ≤ 3 ∧ i = .int .i64 x) (fun i => (3 - intOf i).toNat)
    case atStart => exact ⟨0, by omega, by omega, rfl⟩
    case round =>
      obtain ⟨x, z0, z1, rfl⟩ := hrel
      by_cases h0 : x = 0
      · subst h0
        go_wp2_with (go_at_call 6; (with_reducible refine (C0 _ (namesE_below HK.out (ba (Below.refl _ _) _))).mono ?_); rintro e w2 ⟨rfl, rfl⟩)
        go_round
        case rel => exact ⟨1, by omega, by omega, rfl⟩
        case measure => simp [intOf]
      by_cases h1 : x = 1
      · subst h1
        go_wp2_with (go_at_call 6; (with_reducible refine (C1 _ (namesE_below HK.out (ba (Below.refl _ _) _))).mono ?_); rintro e w2 ⟨rfl, rfl⟩)
        go_round
        case rel => exact ⟨2, by omega, by omega, rfl⟩
        case measure => simp [intOf]
      by_cases h2 : x = 2
      · subst h2
        go_wp2_with (go_at_call 6; (with_reducible refine (C2 _ (namesE_below HK.out (ba (Below.refl _ _) _))).mono ?_); rintro e w2 ⟨rfl, rfl⟩)
        go_round
        case rel => exact ⟨3, by omega, by omega, rfl⟩
        case measure => simp [intOf]
      obtain rfl : x = 3 := by omega
      clear h0 h1 h2
      go_wp2_with (go_at_call 6; (with_reducible refine (C3 _ (namesE_below HK.out (ba (Below.refl _ _) _))).mono ?_); rintro e w2 ⟨rfl, rfl⟩)
      go_ret
      exact ⟨rfl, ba (Below.refl _ _) _⟩
  · rw [show nameE p = .string ⟨#[]⟩ by unfold nameE; rw [if_neg (by omega), if_neg (by omega), if_neg (by omega)]] at CN
    go_enter Tryd.func3, Tryd.ntmps3
    go_wp2_with (first
      | (go_at_call 4; (with_reducible refine (CL _).mono ?_); rintro e w1 ⟨rfl, rfl⟩)
      | (go_at_call 5; (with_reducible refine (CN _ (namesE_below HK.out (ba (Below.refl _ _) _))).mono ?_); rintro e w2 ⟨rfl, rfl⟩))
    clear CN CL
    go_loop [32] (fun i => ∃ x : Int, 0 ≤ x ∧ x ≤ 3 ∧ i = .int .i64 x) (fun i => (3 - intOf i).toNat)
    case atStart => exact ⟨0, by omega, by omega, rfl⟩
    case round =>
      obtain ⟨x, z0, z1, rfl⟩ := hrel
      by_cases h0 : x = 0
      · subst h0
        go_wp2_with (go_at_call 6; (with_reducible refine (C0 _ (namesE_below HK.out (ba (Below.refl _ _) _))).mono ?_); rintro e w2 ⟨rfl, rfl⟩)
        go_round
        case rel => exact ⟨1, by omega, by omega, rfl⟩
        case measure => simp [intOf]
      by_cases h1 : x = 1
      · subst h1
        go_wp2_with (go_at_call 6; (with_reducible refine (C1 _ (namesE_below HK.out (ba (Below.refl _ _) _))).mono ?_); rintro e w2 ⟨rfl, rfl⟩)
        go_round
        case rel => exact ⟨2, by omega, by omega, rfl⟩
        case measure => simp [intOf]
      by_cases h2 : x = 2
      · subst h2
        go_wp2_with (go_at_call 6; (with_reducible refine (C2 _ (namesE_below HK.out (ba (Below.refl _ _) _))).mono ?_); rintro e w2 ⟨rfl, rfl⟩)
        go_round
        case rel => exact ⟨3, by omega, by omega, rfl⟩
        case measure => simp [intOf]
      obtain rfl : x = 3 := by omega
      clear h0 h1 h2
      go_wp2_with (go_at_call 6; (with_reducible refine (C3 _ (namesE_below HK.out (ba (Below.refl _ _) _))).mono ?_); rintro e w2 ⟨rfl, rfl⟩)
      go_ret
      exact ⟨rfl, ba (Below.refl _ _) _⟩
theorem law_BorderNames (p : Int) (s : ByteArray) (w : World) (hk : NamesE w) (_ : -9223372036854775808 ≤ p ∧ p ≤ 9223372036854775807) (_ : s.size ≤ maxLen) :
    Calls Tryd.prog 3 #[.int .i64 p, .string s] w fun e w' => e = .returned (.bool true) ∧ Below w.heap.size w w' := by
  by_cases h0 : s = nClamp
  · subst h0; exact names_0 p w hk
  by_cases h1 : s = nMirror
  · subst h1; exact names_1 p w hk
  by_cases h2 : s = nWrap
  · subst h2; exact names_2 p w hk
  · exact names_3 p s h0 h1 h2 w hk
end Go.Proofs.YthhdclgpllnenaaDoor
