/- Parts, joined. -/
import Derived.Test.YtlknopmpbkepjaaDoorJ06
import Derived.Test.YtlknopmpbkepjaaDoorJ02
import Derived.Test.YtlknopmpbkepjaaDoorRows
import Derived.ProofKit
import Derived.LaidMore
import Derived.OpenShut
import Derived.ChangeMaps5
import Derived.Laws.Strings
/- The policies' names: the table out of what the row lists, the program's answers, and the law. -/
namespace Go.Proofs.YtlknopmpbkepjaaDoor
open Go.ChangeShapes Go.WideShapes Go.ChangeAt Go.WideMaps Go.WideElems Go.RowKit

theorem gNamesE : Tryd.prog.globalNamed "smalto/border.names" = some 0 := by kernel_rfl
theorem tNamesE : (Tryd.prog.globals[0]?).map (·.type) = some 79 := by kernel_rfl
theorem cellsNamesE : Tryd.prog.cellsOf 79 = 3 := by kernel_rfl
theorem cellsStrE : Tryd.prog.cellsOf 9 = 1 := by kernel_rfl
/-- The names' bytes. -/
abbrev nClamp : ByteArray := ⟨#[99, 108, 97, 109, 112]⟩
abbrev nMirror : ByteArray := ⟨#[109, 105, 114, 114, 111, 114]⟩
abbrev nWrap : ByteArray := ⟨#[119, 114, 97, 112]⟩
theorem bytes_of {s : ByteArray} {l : List UInt8} (h : s.data.toList = l) : s = ⟨l.toArray⟩ := by
  subst h; rfl
theorem str_cell {H : Type} {enc : TypeId × Value → H} {w : World} {base : Nat} {sp : Nat → Bool} {held : Bool} {fuel : Nat} {a : Value} {l : List UInt8} {y : DataW H × List MemPlace}
    (h : DataW.trod enc Tryd.prog w base sp held fuel 9 [a] = some y) (hy : y.1 = .lit (.string l)) : a = .string ⟨l.toArray⟩ := by
  obtain ⟨s, e0, rfl, _⟩ := DataW.trod_string Tryd.underlying9 h
  simp at e0 hy
  rw [e0, bytes_of hy]
set_option maxRecDepth 100000 in
theorem names_cells {H : Type} {enc : TypeId × Value → H} {w : World} {base : Nat} {sp : Nat → Bool} {held : Bool} {fuel : Nat} {cs : Array Value} {p : List MemPlace}
    (h : DataW.trod enc Tryd.prog w base sp held fuel 79 cs.toList = some (Rows.laid_smalto_border_names, p)) :
    cs = #[.string nClamp, .string nMirror, .string nWrap] := by
  obtain ⟨l⟩ := cs
  obtain ⟨xs, m, rfl, hx, hl, hn, he⟩ := DataW.trod_array Tryd.underlying79 h
  rw [cellsNamesE] at hl
  rw [cellsStrE] at he
  obtain ⟨c0, c1, c2, rfl⟩ : ∃ c0 c1 c2, l = [c0, c1, c2] := by
    match l, hl with
    | [a, b, c], _ => exact ⟨a, b, c, rfl⟩
  obtain ⟨y0, y1, y2, rfl⟩ : ∃ y0 y1 y2, xs = [y0, y1, y2] := by
    match xs, hn with
    | [a, b, c], _ => exact ⟨a, b, c, rfl⟩
  have h0 := he 0 (by omega)
  have h1 := he 1 (by omega)
  have h2 := he 2 (by omega)
  simp at h0 h1 h2
  simp [Rows.laid_smalto_border_names] at hx
  obtain ⟨⟨g0, g1, g2⟩, _⟩ := hx
  obtain rfl := str_cell h0 g0.symm
  obtain rfl := str_cell h1 g1.symm
  obtain rfl := str_cell h2 g2.symm
  rfl
/-- What the program's table of names holds. -/
def NamesE (w : World) : Prop :=
  w.cell? ⟨0, 0, none⟩ = some (.string nClamp) ∧ w.cell? ⟨0, 1, none⟩ = some (.string nMirror) ∧ w.cell? ⟨0, 2, none⟩ = some (.string nWrap)
theorem cell_ltE {w : World} {b o : Nat} {v : Value} (h : w.cell? ⟨b, o, none⟩ = some v) : b < w.heap.size := by
  by_cases g : b < w.heap.size
  · exact g
  · have e : w.heap[b]? = none := Array.getElem?_eq_none (by omega)
    simp [World.cell?, e] at h
theorem namesE_below {w w1 : World} (h : NamesE w) (b : Below w.heap.size w w1) : NamesE w1 := by
  obtain ⟨c0, c1, c2⟩ := h
  have lc := cell_ltE c0
  exact ⟨cb b lc c0, cb b lc c1, cb b lc c2⟩
/-! ### The program's answers -/
def nameE (p : Int) : Value := if p = 0 then .string nClamp else if p = 1 then .string nMirror else if p = 2 then .string nWrap else .string ⟨#[]⟩
theorem nameE_any (p : Int) (w : World) (hk : NamesE w) :
    Calls Tryd.prog 25 #[.int .i64 p] w fun e w' => e = .returned (nameE p) ∧ w = w' := by
  obtain ⟨k0, k1, k2⟩ := hk
  by_cases h0 : p = 0
  · subst h0
    have C := fun w => knownE_yes 0 (by omega) (by omega) w
    go_enter Tryd.func25, Tryd.ntmps25
    go_wp2_with (go_at_call 37; (with_reducible refine (C _).mono ?_); rintro e w1 ⟨rfl, rfl⟩)
    go_ret
    exact ⟨rfl, rfl⟩
  by_cases h1 : p = 1
  · subst h1
    have C := fun w => knownE_yes 1 (by omega) (by omega) w
    go_enter Tryd.func25, Tryd.ntmps25
    go_wp2_with (go_at_call 37; (with_reducible refine (C _).mono ?_); rintro e w1 ⟨rfl, rfl⟩)
    go_ret
    exact ⟨rfl, rfl⟩
  by_cases h2 : p = 2
  · subst h2
    have C := fun w => knownE_yes 2 (by omega) (by omega) w
    go_enter Tryd.func25, Tryd.ntmps25
    go_wp2_with (go_at_call 37; (with_reducible refine (C _).mono ?_); rintro e w1 ⟨rfl, rfl⟩)
    go_ret
    exact ⟨rfl, rfl⟩
  · have C := fun w => knownE_no p (by omega) w
    rw [show nameE p = .string ⟨#[]⟩ by unfold nameE; rw [if_neg h0, if_neg h1, if_neg h2]]
    clear h0 h1 h2 k0 k1 k2
    go_enter Tryd.func25, Tryd.ntmps25
    go_wp2_with (go_at_call 37; (with_reducible refine (C _).mono ?_); rintro e w1 ⟨rfl, rfl⟩)
    go_ret
    exact ⟨rfl, rfl⟩
theorem str_ne {s : ByteArray} {l : List UInt8} (h : s ≠ ⟨l.toArray⟩) : (l == s.toList) = false := by
  refine beq_eq_false_iff_ne.2 fun e => h ?_
  rw [ByteArray.toList_eq] at e
  exact bytes_of e.symm
theorem at_name0 : ∀ w : World, (Instr.index 79 (.agg #[.string nClamp, .string nMirror, .string nWrap]) (.int .i64 0)).run Tryd.prog w = .ok (.string nClamp) w := fun _ => by kernel_rfl
theorem at_name1 : ∀ w : World, (Instr.index 79 (.agg #[.string nClamp, .string nMirror, .string nWrap]) (.int .i64 1)).run Tryd.prog w = .ok (.string nMirror) w := fun _ => by kernel_rfl
theorem at_name2 : ∀ w : World, (Instr.index 79 (.agg #[.string nClamp, .string nMirror, .string nWrap]) (.int .i64 2)).run Tryd.prog w = .ok (.string nWrap) w := fun _ => by kernel_rfl
theorem named_0 (w : World) (hk : NamesE w) :
    Calls Tryd.prog 45 #[.string nClamp] w fun e w' => e = .returned (.tuple #[.int .i64 0, .bool true]) ∧ w = w' := by
  obtain ⟨k0, k1, k2⟩ := hk
  have x0 := at_name0
  go_enter Tryd.func45, Tryd.ntmps45
  go_wp2
  go_loop [7] (fun i => ∃ x : Int, 0 ≤ x ∧ x ≤ 0 ∧ i = .int .i64 x) (fun i => (0 - intOf i).toNat)
  case atStart => exact ⟨0, by omega, by omega, rfl⟩
  case round =>
    obtain ⟨x, z0, z1, rfl⟩ := hrel
    obtain rfl : x = 0 := by omega
    go_wp2
    go_ret2
    exact ⟨rfl, rfl⟩
theorem named_1 (w : World) (hk : NamesE w) :
    Calls Tryd.prog 45 #[.string nMirror] w fun e w' => e = .returned (.tuple #[.int .i64 1, .bool true]) ∧ w = w' := by
  obtain ⟨k0, k1, k2⟩ := hk
  have x0 := at_name0
  have x1 := at_name1
  go_enter Tryd.func45, Tryd.ntmps45
  go_wp2
  go_loop [7] (fun i => ∃ x : Int, 0 ≤ x ∧ x ≤ 1 ∧ i = .int .i64 x) (fun i => (1 - intOf i).toNat)
  case atStart => exact ⟨0, by omega, by omega, rfl⟩
  case round =>
    obtain ⟨x, z0, z1, rfl⟩ := hrel
    by_cases h0 : x = 0
    · subst h0
      go_wp2
      go_round
      case rel => exact ⟨1, by omega, by omega, rfl⟩
      case measure => simp [intOf]
    obtain rfl : x = 1 := by omega
    clear h0
    go_wp2
    go_ret2
    exact ⟨rfl, rfl⟩
theorem named_2 (w : World) (hk : NamesE w) :
    Calls Tryd.prog 45 #[.string nWrap] w fun e w' => e = .returned (.tuple #[.int .i64 2, .bool true]) ∧ w = w' := by
  obtain ⟨k0, k1, k2⟩ := hk
  have x0 := at_name0
  have x1 := at_name1
  have x2 := at_name2
  go_enter Tryd.func45, Tryd.ntmps45
  go_wp2
  go_loop [7] (fun i => ∃ x : Int, 0 ≤ x ∧ x ≤ 2 ∧ i = .int .i64 x) (fun i => (2 - intOf i).toNat)
  case atStart => exact ⟨0, by omega, by omega, rfl⟩
  case round =>
    obtain ⟨x, z0, z1, rfl⟩ := hrel
    by_cases h0 : x = 0
    · subst h0
      go_wp2
      go_round
      case rel => exact ⟨1, by omega, by omega, rfl⟩
      case measure => simp [intOf]
    by_cases h1 : x = 1
    · subst h1
      go_wp2
      go_round
      case rel => exact ⟨2, by omega, by omega, rfl⟩
      case measure => simp [intOf]
    obtain rfl : x = 2 := by omega
    clear h0 h1
    go_wp2
    go_ret2
    exact ⟨rfl, rfl⟩
theorem named_none (s : ByteArray) (h0 : s ≠ nClamp) (h1 : s ≠ nMirror) (h2 : s ≠ nWrap) (w : World) (hk : NamesE w) :
    Calls Tryd.prog 45 #[.string s] w fun e w' => e = .returned (.tuple #[.int .i64 0, .bool false]) ∧ w = w' := by
  have q0 : (([99, 108, 97, 109, 112] : List UInt8) == s.toList) = false := str_ne h0
  have q1 : (([109, 105, 114, 114, 111, 114] : List UInt8) == s.toList) = false := str_ne h1
  have q2 : (([119, 114, 97, 112] : List UInt8) == s.toList) = false := str_ne h2
  clear h0 h1 h2
  obtain ⟨k0, k1, k2⟩ := hk
  have x0 := at_name0
  have x1 := at_name1
  have x2 := at_name2
  go_enter Tryd.func45, Tryd.ntmps45
  go_wp2
  go_loop [7] (fun i => ∃ x : Int, 0 ≤ x ∧ x ≤ 3 ∧ i = .int .i64 x) (fun i => (3 - intOf i).toNat)
  case atStart => exact ⟨0, by omega, by omega, rfl⟩
  case round =>
    obtain ⟨x, z0, z1, rfl⟩ := hrel
    by_cases h0 : x = 0
    · subst h0
      go_wp2
      go_round
      case rel => exact ⟨1, by omega, by omega, rfl⟩
      case measure => simp [intOf]
    by_cases h1 : x = 1
    · subst h1
      go_wp2
      go_round
      case rel => exact ⟨2, by omega, by omega, rfl⟩
      case measure => simp [intOf]
    by_cases h2 : x = 2
    · subst h2
      go_wp2
      go_round
      case rel => exact ⟨3, by omega, by omega, rfl⟩
      case measure => simp [intOf]
    obtain rfl : x = 3 := by omega
    clear h0 h1 h2
    go_wp2
    go_ret2
    exact ⟨rfl, rfl⟩
end Go.Proofs.YtlknopmpbkepjaaDoor

/- Operations as texts: the document's number out of digits, and numbers with commas between. -/
namespace Go.Proofs.YtlknopmpbkepjaaDoor
open Go.RowKit


/-- What number answers. -/
def NumAns (s : ByteArray) (e : Ending) : Prop :=
  ∃ x b, e = .returned (.tuple #[.int .i64 x, .bool b]) ∧ (b = true → byt s = intF x ∧ I64P x) ∧ (b = false → ∀ y, I64P y → byt s ≠ intF y)
theorem num_none {s : ByteArray} {x : Int} (h : ∀ y, I64P y → byt s ≠ intF y) : NumAns s (.returned (.tuple #[.int .i64 x, .bool false])) := ⟨x, false, rfl, (fun e => by cases e), fun _ => h⟩
/-- What a text with its sign off says of the number. -/
def NumOf (s t : ByteArray) (bl : Bool) : Prop := ∀ y, I64P y → byt s = intF y → byt t = decF y.natAbs ∧ y = (if bl = true then -(y.natAbs : Int) else (y.natAbs : Int))
theorem num_of_plain {s : ByteArray} {x : Int} {u : List Int} (hb : byt s = x :: u) (hx : x ≠ 45) : NumOf s s false := by
  intro y hy h
  obtain ⟨_, h | h⟩ := num_has h
  · rw [hb] at h
    exact absurd h.1 hx
  · obtain ⟨_, h0, h1⟩ := h
    refine ⟨by rw [h1, show y.natAbs = y.toNat by omega], ?_⟩
    rw [if_neg (by decide)]
    omega
theorem num_of_sign {s t : ByteArray} {u : List Int} (hb : byt s = 45 :: u) (ht : byt t = u) : NumOf s t true := by
  intro y hy h
  obtain ⟨_, h | h⟩ := num_has h
  · obtain ⟨_, h0, h1⟩ := h
    rw [hb] at h1
    refine ⟨by rw [ht, show y.natAbs = (-y).toNat by omega]; exact h1, ?_⟩
    rw [if_pos rfl]
    omega
  · rw [hb] at h
    exact absurd rfl h.1
theorem NumOf.len {s t : ByteArray} {bl : Bool} (h : NumOf s t bl) (hl : t.size = 0 ∨ 19 < t.size) : ∀ y, I64P y → byt s ≠ intF y := by
  intro y hy q
  obtain ⟨h1, _⟩ := h y hy q
  have e := byt_len t
  rw [h1] at e
  have a := decF_19 (n := y.natAbs) (by unfold I64P at hy; omega)
  have b := List.length_pos_iff.2 (decF_ne y.natAbs)
  omega
theorem NumOf.digit {s t : ByteArray} {bl : Bool} (h : NumOf s t bl) {k : Nat} (hk : k < t.size) (hd : (byt t).getD k 0 < 48 ∨ 57 < (byt t).getD k 0) : ∀ y, I64P y → byt s ≠ intF y := by
  intro y hy q
  obtain ⟨h1, _⟩ := h y hy q
  have := decF_digit y.natAbs ((byt t).getD k 0) (by
    rw [← h1, List.getD_eq_getElem?_getD, List.getElem?_eq_getElem (by rw [byt_len]; exact hk)]
    exact List.getElem_mem _)
  omega
theorem NumOf.val {s t : ByteArray} {bl : Bool} (h : NumOf s t bl) {y : Int} (hy : I64P y) (q : byt s = intF y) : y = if bl = true then -(valF (byt t)) else valF (byt t) := by
  obtain ⟨h1, h2⟩ := h y hy q
  rw [h1, valF_dec]
  exact h2
theorem val_take {l : List Int} {k : Nat} (hk : k < l.length) : valF (l.take (k + 1)) = 10 * valF (l.take k) + (l.getD k 0 - 48) := by
  rw [take_row hk, valF_snoc]
theorem val_k {l : List Int} {k : Nat} (hk : k ≤ 18) (h : ∀ x ∈ l.take k, 48 ≤ x ∧ x ≤ 57) : 0 ≤ valF (l.take k) ∧ valF (l.take k) < 1000000000000000000 := by
  obtain ⟨h1, h2⟩ := val_bound (l.take k) 0 (Int.le_refl _) h
  rw [Int.zero_mul] at h1
  rw [show (0 : Int) + 1 = 1 from rfl, Int.one_mul] at h2
  have h4 : (10 : Nat) ^ (l.take k).length ≤ 10 ^ 18 := Nat.pow_le_pow_right (by decide) (by rw [List.length_take]; omega)
  have h5 : ((10 : Int) ^ (l.take k).length) = (((10 : Nat) ^ (l.take k).length : Nat) : Int) := by push_cast; rfl
  have h6 : (10 : Nat) ^ 18 = 1000000000000000000 := by decide
  rw [h5] at h2
  unfold valF
  omega
/-- The number that 64 bits make of digits. -/
theorem num_bits (v : Int) (v0 : 0 ≤ v) (v1 : v < 10000000000000000000) : ∃ z u x : Int, IntKind.i64.wrap v = z ∧ IntKind.u64.wrap (0 - v) = u ∧ IntKind.u64.wrap (-v) = u ∧ IntKind.i64.wrap u = x ∧ I64P z ∧ I64P x ∧ 0 ≤ u ∧ u ≤ 18446744073709551615 ∧
    (∀ y, I64P y → y = v → y = z) ∧ (∀ y, I64P y → y = -v → y = x) := by
  refine ⟨_, _, _, rfl, rfl, (by rw [Int.zero_sub]), rfl, ?_, ?_, ?_, ?_, ?_, ?_⟩
  · unfold I64P; rw [IntKind.wrap_i64]; omega
  · unfold I64P; rw [IntKind.wrap_i64, IntKind.wrap_u64]; omega
  · rw [IntKind.wrap_u64]; omega
  · rw [IntKind.wrap_u64]; omega
  · intro y hy e; unfold I64P at hy; rw [IntKind.wrap_i64]; omega
  · intro y hy e; unfold I64P at hy; rw [IntKind.wrap_i64, IntKind.wrap_u64]; omega
theorem num_some {s : ByteArray} {x : Int} (hx : I64P x) (h : txt (intF x) = s) : NumAns s (.returned (.tuple #[.int .i64 x, .bool true])) :=
  ⟨x, true, rfl, (fun _ => ⟨by rw [← h, byt_txt (byts_int x)], hx⟩), fun e => by cases e⟩
theorem num_other {s : ByteArray} {x : Int} (hx : ∀ y, I64P y → byt s = intF y → y = x) (h : txt (intF x) ≠ s) : NumAns s (.returned (.tuple #[.int .i64 x, .bool false])) :=
  num_none fun y hy q => h (by rw [← hx y hy q, ← q, txt_byt])
set_option maxHeartbeats 4000000 in
theorem dnum_any (s : ByteArray) (hs : s.size ≤ 1000000) (w : World) :
    Calls Tryd.prog 49 #[.string s] w fun e w' => NumAns s e ∧ Below w.heap.size w w' := by
  cases hb : byt s with
  | nil =>
    have he : s.toList.isEmpty = true := by rw [byt_empty, hb]; rfl
    have HE := hide (num_none (s := s) (x := 0) (fun y _ q => by rw [hb] at q; exact intF_ne y q.symm))
    clear hb
    go_enter Tryd.func49, Tryd.ntmps49
    go_wp2
    exact bodyPost_ret (v := .tuple #[.int .i64 0, .bool false]) (by simp [results, Tryd.results49, go_sem]) rfl ⟨HE.out, Below.refl _ _⟩
  | cons x u =>
    have he : s.toList.isEmpty = false := by rw [byt_empty, hb]; rfl
    obtain ⟨h0, hx, t, ht, htb, htl⟩ := byt_cons hb
    obtain ⟨n, hn⟩ : ∃ n, s.size = n := ⟨_, rfl⟩
    have hn1 : 1 ≤ n := by omega
    -- what is left of the text, and whether there was a sign
    obtain ⟨r, bl, HO, hr, hcase⟩ : ∃ (r : ByteArray) (bl : Bool), NumOf s r bl ∧ r.size ≤ 1000000 ∧ ((bl = true ∧ x = 45 ∧ r = t) ∨ (bl = false ∧ x ≠ 45 ∧ r = s)) := by
      by_cases h45 : x = 45
      · subst h45
        exact ⟨t, true, num_of_sign hb htb, by omega, .inl ⟨rfl, rfl, rfl⟩⟩
      · exact ⟨s, false, num_of_plain hb h45, hs, .inr ⟨rfl, h45, rfl⟩⟩
    have HNO := hide HO
    clear hb htb HO
    have EMP : ∀ (q : ByteArray), q.toList.isEmpty = decide (q.size = 0) := fun q => by
      rw [byt_empty]
      have := byt_len q
      cases hq : byt q with
      | nil => rw [hq] at this; simp at this; simp [← this]
      | cons a l =>
        rw [hq, List.length_cons] at this
        rw [decide_eq_false (show ¬ q.size = 0 by omega)]
        rfl
    rw [hn] at ht
    by_cases hl : r.size = 0 ∨ 19 < r.size
    · have HE := hide (num_none (s := s) (x := 0) (HNO.out.len hl))
      clear HNO
      have er := EMP r
      obtain ⟨m, hm⟩ : ∃ m, r.size = m := ⟨_, rfl⟩
      rw [hm] at er hl hr
      clear EMP
      rcases hcase with ⟨rfl, rfl, rfl⟩ | ⟨rfl, h45, rfl⟩
      · rcases hl with h | h
        · subst h
          have er2 : r.toList.isEmpty = true := by rw [er]; rfl
          clear er
          go_enter Tryd.func49, Tryd.ntmps49
          go_wp2
          exact bodyPost_ret (v := .tuple #[.int .i64 0, .bool false]) (by simp [results, Tryd.results49, go_sem]) rfl ⟨HE.out, Below.refl _ _⟩
        · have er2 : r.toList.isEmpty = false := by rw [er]; exact decide_eq_false (by omega)
          clear er
          go_enter Tryd.func49, Tryd.ntmps49
          go_wp2
          exact bodyPost_ret (v := .tuple #[.int .i64 0, .bool false]) (by simp [results, Tryd.results49, go_sem]) rfl ⟨HE.out, Below.refl _ _⟩
      · have e45 : (x == 45) = false := beq_eq_false_iff_ne.2 h45
        obtain rfl : n = m := hn.symm.trans hm
        rcases hl with h | h
        · omega
        · clear er hm h45
          go_enter Tryd.func49, Tryd.ntmps49
          go_wp2
          exact bodyPost_ret (v := .tuple #[.int .i64 0, .bool false]) (by simp [results, Tryd.results49, go_sem]) rfl ⟨HE.out, Below.refl _ _⟩
    · have er : r.toList.isEmpty = false := by rw [EMP]; exact decide_eq_false (by omega)
      obtain ⟨m, hm⟩ : ∃ m, r.size = m := ⟨_, rfl⟩
      rw [hm] at hl hr
      have hm19 : m ≤ 19 := by omega
      have hm1 : 1 ≤ m := by omega
      clear EMP hl
      rcases hcase with ⟨rfl, rfl, rfl⟩ | ⟨rfl, h45, rfl⟩
      · go_enter Tryd.func49, Tryd.ntmps49
        go_wp2
        go_loopw [6, 7] (fun a i wr => ∃ k : Nat, k ≤ m ∧ i = .int .i64 (k : Int) ∧ a = .int .u64 (valF ((byt r).take k)) ∧ Hid (∀ y ∈ (byt r).take k, 48 ≤ y ∧ y ≤ 57) ∧ w = wr) (fun _ i _ => m - (intOf i).toNat)
        case atStart => exact ⟨0, by omega, rfl, rfl, hide (fun y hy => by cases hy), rfl⟩
        case round =>
          obtain ⟨k, hk, rfl, rfl, hd, rfl⟩ := hrel
          by_cases hlt : k < m
          · have hkr : k < r.size := by rw [hm]; exact hlt
            have hkb : k < (byt r).length := by rw [byt_len]; exact hkr
            have eb := byt_at hkr
            have hin := byt_in r ((byt r).getD k 0) (by rw [List.getD_eq_getElem?_getD, List.getElem?_eq_getElem hkb]; exact List.getElem_mem hkb)
            have HDG := hide (fun g => num_none (s := s) (x := 0) (HNO.out.digit hkr g))
            have hvb := val_k (show k ≤ 18 by omega) hd.out
            have hvt := val_take hkb
            have HTK := hide (take_row hkb)
            obtain ⟨c, hc⟩ : ∃ c, (byt r).getD k 0 = c := ⟨_, rfl⟩
            rw [hc] at eb hin hvt
            rw [hc] at HDG HTK
            obtain ⟨V, hV⟩ : ∃ V, valF ((byt r).take k) = V := ⟨_, rfl⟩
            rw [hV] at hvb hvt
            simp only [hV]
            obtain ⟨V2, hV2⟩ : ∃ V2, valF ((byt r).take (k + 1)) = V2 := ⟨_, rfl⟩
            rw [hV2] at hvt
            have HV2 := hide hV2
            clear hc hV hV2 HNO
            rcases (show c < 48 ∨ (48 ≤ c ∧ 57 < c) ∨ (48 ≤ c ∧ c ≤ 57) by omega) with g | ⟨g, g2⟩ | ⟨g, g2⟩
            · have HE := hide (HDG.out (.inl g))
              clear HDG hvt HTK
              go_wp2
              exact bodyPost_ret (v := .tuple #[.int .i64 0, .bool false]) (by simp [results, Tryd.results49, go_sem]) rfl ⟨HE.out, Below.refl _ _⟩
            · have HE := hide (HDG.out (.inr g2))
              clear HDG hvt HTK
              go_wp2
              exact bodyPost_ret (v := .tuple #[.int .i64 0, .bool false]) (by simp [results, Tryd.results49, go_sem]) rfl ⟨HE.out, Below.refl _ _⟩
            · clear HDG
              go_wp2
              go_roundw
              case rel => exact ⟨k + 1, by omega, by go_num, by rw [HV2.out, hvt], hide (by rw [HTK.out]; intro y hy; rcases List.mem_append.1 hy with h | h; exact hd.out y h; rw [List.mem_singleton] at h; omega), by trivial⟩
              case measure => simp [intOf]; omega
          · obtain rfl : k = m := by omega
            have htk : (byt r).take k = byt r := List.take_of_length_le (by rw [byt_len, hm]; exact Nat.le_refl _)
            have hdd := hd.out
            rw [htk] at hdd
            have hVV := val_19 (by rw [byt_len, hm]; exact hm19) hdd
            rw [htk]
            have HVAL := hide (fun y (hy : I64P y) (q : byt s = intF y) => HNO.out.val hy q)
            obtain ⟨V, hV⟩ : ∃ V, valF (byt r) = V := ⟨_, rfl⟩
            rw [hV] at hVV HVAL
            rw [hV]
            obtain ⟨z, u, x, hz, hu, hu2, hxx, iz, ix, u0, u1, ey, en⟩ := num_bits V hVV.1 hVV.2
            have HEQ := hide (fun y (hy : I64P y) (q : byt s = intF y) => en y hy (HVAL.out y hy q))
            have CD := fun w => ddeci_any x ix w
            have HS := hide (num_some (s := s) ix)
            have HO := hide (num_other (s := s) (x := x) HEQ.out)
            clear HNO HVAL HEQ ey en hd hdd htk hV
            generalize txt (intF x) = d at *
            obtain ⟨v0, v1⟩ := hVV
            by_cases hds : d = s
            · have HE := hide (HS.out hds)
              clear HS HO
              go_wp2_with (go_at_call 21; (with_reducible refine (CD _).mono ?_); rintro e w1 ⟨rfl, b1⟩)
              exact bodyPost_ret (v := .tuple #[.int .i64 x, .bool true]) (by simp [results, Tryd.results49, go_sem]) rfl ⟨HE.out, b1⟩
            · have HE := hide (HO.out hds)
              have hne := str_neq hds
              clear HS HO
              go_wp2_with (go_at_call 21; (with_reducible refine (CD _).mono ?_); rintro e w1 ⟨rfl, b1⟩)
              exact bodyPost_ret (v := .tuple #[.int .i64 x, .bool false]) (by simp [results, Tryd.results49, go_sem]) rfl ⟨HE.out, b1⟩
      · have e45 : (x == 45) = false := beq_eq_false_iff_ne.2 h45
        obtain rfl : n = m := hn.symm.trans hm
        clear h45
        go_enter Tryd.func49, Tryd.ntmps49
        go_wp2
        go_loopw [6, 7] (fun a i wr => ∃ k : Nat, k ≤ n ∧ i = .int .i64 (k : Int) ∧ a = .int .u64 (valF ((byt r).take k)) ∧ Hid (∀ y ∈ (byt r).take k, 48 ≤ y ∧ y ≤ 57) ∧ w = wr) (fun _ i _ => n - (intOf i).toNat)
        case atStart => exact ⟨0, by omega, rfl, rfl, hide (fun y hy => by cases hy), rfl⟩
        case round =>
          obtain ⟨k, hk, rfl, rfl, hd, rfl⟩ := hrel
          by_cases hlt : k < n
          · have hkr : k < r.size := by rw [hm]; exact hlt
            have hkb : k < (byt r).length := by rw [byt_len]; exact hkr
            have eb := byt_at hkr
            have hin := byt_in r ((byt r).getD k 0) (by rw [List.getD_eq_getElem?_getD, List.getElem?_eq_getElem hkb]; exact List.getElem_mem hkb)
            have HDG := hide (fun g => num_none (s := r) (x := 0) (HNO.out.digit hkr g))
            have hvb := val_k (show k ≤ 18 by omega) hd.out
            have hvt := val_take hkb
            have HTK := hide (take_row hkb)
            obtain ⟨c, hc⟩ : ∃ c, (byt r).getD k 0 = c := ⟨_, rfl⟩
            rw [hc] at eb hin hvt
            rw [hc] at HDG HTK
            obtain ⟨V, hV⟩ : ∃ V, valF ((byt r).take k) = V := ⟨_, rfl⟩
            rw [hV] at hvb hvt
            simp only [hV]
            obtain ⟨V2, hV2⟩ : ∃ V2, valF ((byt r).take (k + 1)) = V2 := ⟨_, rfl⟩
            rw [hV2] at hvt
            have HV2 := hide hV2
            clear hc hV hV2 HNO
            rcases (show c < 48 ∨ (48 ≤ c ∧ 57 < c) ∨ (48 ≤ c ∧ c ≤ 57) by omega) with g | ⟨g, g2⟩ | ⟨g, g2⟩
            · have HE := hide (HDG.out (.inl g))
              clear HDG hvt HTK
              go_wp2
              exact bodyPost_ret (v := .tuple #[.int .i64 0, .bool false]) (by simp [results, Tryd.results49, go_sem]) rfl ⟨HE.out, Below.refl _ _⟩
            · have HE := hide (HDG.out (.inr g2))
              clear HDG hvt HTK
              go_wp2
              exact bodyPost_ret (v := .tuple #[.int .i64 0, .bool false]) (by simp [results, Tryd.results49, go_sem]) rfl ⟨HE.out, Below.refl _ _⟩
            · clear HDG
              go_wp2
              go_roundw
              case rel => exact ⟨k + 1, by omega, by go_num, by rw [HV2.out, hvt], hide (by rw [HTK.out]; intro y hy; rcases List.mem_append.1 hy with h | h; exact hd.out y h; rw [List.mem_singleton] at h; omega), by trivial⟩
              case measure => simp [intOf]; omega
          · obtain rfl : k = n := by omega
            have htk : (byt r).take k = byt r := List.take_of_length_le (by rw [byt_len, hm]; exact Nat.le_refl _)
            have hdd := hd.out
            rw [htk] at hdd
            have hVV := val_19 (by rw [byt_len, hm]; exact hm19) hdd
            rw [htk]
            have HVAL := hide (fun y (hy : I64P y) (q : byt r = intF y) => HNO.out.val hy q)
            obtain ⟨V, hV⟩ : ∃ V, valF (byt r) = V := ⟨_, rfl⟩
            rw [hV] at hVV HVAL
            rw [hV]
            obtain ⟨z, u, x, hz, hu, hu2, hxx, iz, ix, u0, u1, ey, en⟩ := num_bits V hVV.1 hVV.2
            have HEQ := hide (fun y (hy : I64P y) (q : byt r = intF y) => ey y hy (HVAL.out y hy q))
            have CD := fun w => ddeci_any z iz w
            have HS := hide (num_some (s := r) iz)
            have HO := hide (num_other (s := r) (x := z) HEQ.out)
            clear HNO HVAL HEQ ey en hd hdd htk hV
            generalize txt (intF z) = d at *
            obtain ⟨v0, v1⟩ := hVV
            by_cases hds : d = r
            · have HE := hide (HS.out hds)
              clear HS HO
              go_wp2_with (go_at_call 21; (with_reducible refine (CD _).mono ?_); rintro e w1 ⟨rfl, b1⟩)
              exact bodyPost_ret (v := .tuple #[.int .i64 z, .bool true]) (by simp [results, Tryd.results49, go_sem]) rfl ⟨HE.out, b1⟩
            · have HE := hide (HO.out hds)
              have hne := str_neq hds
              clear HS HO
              go_wp2_with (go_at_call 21; (with_reducible refine (CD _).mono ?_); rintro e w1 ⟨rfl, b1⟩)
              exact bodyPost_ret (v := .tuple #[.int .i64 z, .bool false]) (by simp [results, Tryd.results49, go_sem]) rfl ⟨HE.out, b1⟩
end Go.Proofs.YtlknopmpbkepjaaDoor
