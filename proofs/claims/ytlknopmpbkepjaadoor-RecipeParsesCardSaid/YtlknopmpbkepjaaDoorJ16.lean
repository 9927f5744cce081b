/- Parts, joined. -/
import Derived.Test.YtlknopmpbkepjaaDoorJ15
import Derived.Test.YtlknopmpbkepjaaDoorJ12
import Derived.Test.YtlknopmpbkepjaaDoorJ14
import Derived.Handed
import Derived.Lib.LaidU8
import Derived.Stop.LaidErr
import Derived.Shelf.Vars
import Derived.Lay
import Derived.LaidOnce
import Derived.LaidLaws
import Derived.RangeFuncBox
import Derived.RangeFuncNested
import Derived.RangeFuncBound
import Derived.RangeFuncCalls
import Derived.RangeFuncLeaves
import Derived.Shelf.Abstract
import Derived.Shelf.RegionOpen
import Derived.OwnWalkIn
import Derived.TacticsInMore
import Derived.LoopNIn
import Derived.LoopIn
import Derived.RegionIn
/- Operations as texts: the program's numbers, signs, names, read. -/
namespace Go.Proofs.YtlknopmpbkepjaaDoor
open Go.RowKit


/-- What memory holds that reading reads. -/
def KP (w : World) : Prop := KW w ∧ MaxL w ∧ Utf8P w ∧ ErrV w 8 ∧ ErrV w 9
theorem kp_below {w w' : World} (h : KP w) (b : Below w.heap.size w w') : KP w' := ⟨kw_below h.1 b, maxl_below h.2.1 b, utf8_below h.2.2.1 b, errv_below h.2.2.2.1 b, errv_below h.2.2.2.2 b⟩
theorem err_nil : ∀ w : World, (binOp .neq 66 .nilIface .nilIface).run Tryd.prog w = .ok (.bool false) w := fun _ => by kernel_rfl
theorem err_some : ∀ (t : TypeId) (p : Value) (w : World), (binOp .neq 66 (.iface t p) .nilIface).run Tryd.prog w = .ok (.bool true) w := by
  intro t p w
  first | (simp [go_sem]; done) | (simp [binOp]; done) | rfl
set_option maxHeartbeats 2000000 in
theorem num_p (s : ByteArray) (hs : s.size ≤ 1000000) : ∃ (x : Int) (ok : Bool), (ok = true → I64P x ∧ byt s = intF x) ∧ (ok = false → ∀ y, I64P y → byt s ≠ intF y) ∧
    ∀ w, KP w → Calls Tryd.prog 58 #[.string s] w fun e w' => e = .returned (.tuple #[.int .i64 x, .bool ok]) ∧ Below w.heap.size w w' := by
  by_cases h : ∃ x, I64P x ∧ byt s = intF x
  · obtain ⟨x, hx, hb⟩ := h
    refine ⟨x, true, fun _ => ⟨hx, hb⟩, (fun e => by cases e), fun w hk => ?_⟩
    have CP : ∀ w, KP w → Calls Tryd.prog 68 #[.string s, .int .i64 10, .int .i64 64] w fun e w' => e = .returned (.tuple #[.int .i64 x, .nilIface]) ∧ Below w.heap.size w w' := fun w hk => (prs_any s hs w hk.2.2.2.1 hk.2.2.2.2).mono fun e w' ⟨hA, hB⟩ => ⟨by
      rcases hA with ⟨v, hv, he⟩ | ⟨hn, _⟩
      · rw [atoi_int hx hb] at hv
        rw [he, Go.Lib.NumEnd.ok.inj hv]
      · exact absurd (atoi_int hx hb) (hn x), hB⟩
    have CF := fun w' (b : Below w.heap.size w w') => fmt_any x hx w' (kp_below hk b).1.1
    rw [show txt (intF x) = s from (txt_of hb).symm] at CF
    have HK := hide hk
    have qn := err_nil
    clear hk hb hx
    go_enter Tryd.func58, Tryd.ntmps58
    go_wp2_with (first
      | (go_at_call 68; (with_reducible refine (CP _ HK.out).mono ?_); rintro e w1 ⟨rfl, b1⟩)
      | (go_at_call 39; (with_reducible refine (CF _ b1).mono ?_); rintro e w2 ⟨rfl, b2⟩))
    go_ret2
    exact ⟨rfl, bt b1 b2⟩
  · have hn : ∀ y, I64P y → byt s ≠ intF y := fun y hy e => h ⟨y, hy, e⟩
    refine ⟨0, false, (fun e => by cases e), fun _ => hn, fun w hk => ?_⟩
    have HK := hide hk
    by_cases ho : ∃ v, Go.Lib.atoiAll s.data.toList = .ok v
    · obtain ⟨v, hv⟩ := ho
      have hvb : I64P v := Go.Lib.atoiAll_bounds hv
      have CP : ∀ w, KP w → Calls Tryd.prog 68 #[.string s, .int .i64 10, .int .i64 64] w fun e w' => e = .returned (.tuple #[.int .i64 v, .nilIface]) ∧ Below w.heap.size w w' := fun w hk => (prs_any s hs w hk.2.2.2.1 hk.2.2.2.2).mono fun e w' ⟨hA, hB⟩ => ⟨by
        rcases hA with ⟨v', hv', he⟩ | ⟨hn, _⟩
        · rw [hv] at hv'
          rw [he, Go.Lib.NumEnd.ok.inj hv']
        · exact absurd hv (hn v), hB⟩
      have CF := fun w' (b : Below w.heap.size w w') => fmt_any v hvb w' (kp_below hk b).1.1
      have hne := str_neq (show txt (intF v) ≠ s from fun e => hn v hvb (by rw [← e, byt_txt (byts_int v)]))
      have qn := err_nil
      clear hk hn hv hvb h
      generalize txt (intF v) = t at *
      go_enter Tryd.func58, Tryd.ntmps58
      go_wp2_with (first
        | (go_at_call 68; (with_reducible refine (CP _ HK.out).mono ?_); rintro e w1 ⟨rfl, b1⟩)
        | (go_at_call 39; (with_reducible refine (CF _ b1).mono ?_); rintro e w2 ⟨rfl, b2⟩))
      go_ret2
      exact ⟨rfl, bt b1 b2⟩
    · have CP : ∀ w, KP w → Calls Tryd.prog 68 #[.string s, .int .i64 10, .int .i64 64] w fun e w' => (∃ v t p, e = .returned (.tuple #[.int .i64 v, .iface t p])) ∧ Below w.heap.size w w' := fun w hk => (prs_any s hs w hk.2.2.2.1 hk.2.2.2.2).mono fun e w' ⟨hA, hB⟩ => ⟨by
        rcases hA with ⟨v', hv', _⟩ | ⟨_, he⟩
        · exact absurd ⟨v', hv'⟩ ho
        · exact he, hB⟩
      have qe := err_some
      clear hk hn ho h
      go_enter Tryd.func58, Tryd.ntmps58
      go_wp2_with (go_at_call 68; (with_reducible refine (CP _ HK.out).mono ?_); rintro e w1 ⟨⟨v, t, p, rfl⟩, b1⟩; have q1 := qe t p)
      go_ret2
      exact ⟨rfl, b1⟩
set_option maxHeartbeats 2000000 in
theorem cnt_p (s : ByteArray) (hs : s.size ≤ 1000000) : ∃ (x : Int) (ok : Bool), (ok = true → I64P x ∧ byt s = intF x) ∧ (ok = false → ∀ y, I64P y → byt s ≠ intF y) ∧
    ∀ w, KP w → Calls Tryd.prog 59 #[.string s] w fun e w' => e = .returned (.tuple #[.int .i64 x, .bool ok]) ∧ Below w.heap.size w w' := by
  by_cases h : ∃ x, I64P x ∧ byt s = intF x
  · obtain ⟨x, hx, hb⟩ := h
    refine ⟨x, true, fun _ => ⟨hx, hb⟩, (fun e => by cases e), fun w hk => ?_⟩
    have CP : ∀ w, KP w → Calls Tryd.prog 69 #[.string s] w fun e w' => e = .returned (.tuple #[.int .i64 x, .nilIface]) ∧ Below w.heap.size w w' := fun w hk => (ato_any s hs w hk.2.2.2.1 hk.2.2.2.2).mono fun e w' ⟨hA, hB⟩ => ⟨by
      rcases hA with ⟨v, hv, he⟩ | ⟨hn, _⟩
      · rw [atoi_int hx hb] at hv
        rw [he, Go.Lib.NumEnd.ok.inj hv]
      · exact absurd (atoi_int hx hb) (hn x), hB⟩
    have CF := fun w' (b : Below w.heap.size w w') => ito_any x hx w' (kp_below hk b).1.1
    rw [show txt (intF x) = s from (txt_of hb).symm] at CF
    have HK := hide hk
    have qn := err_nil
    clear hk hb hx
    go_enter Tryd.func59, Tryd.ntmps59
    go_wp2_with (first
      | (go_at_call 69; (with_reducible refine (CP _ HK.out).mono ?_); rintro e w1 ⟨rfl, b1⟩)
      | (go_at_call 40; (with_reducible refine (CF _ b1).mono ?_); rintro e w2 ⟨rfl, b2⟩))
    go_ret2
    exact ⟨rfl, bt b1 b2⟩
  · have hn : ∀ y, I64P y → byt s ≠ intF y := fun y hy e => h ⟨y, hy, e⟩
    refine ⟨0, false, (fun e => by cases e), fun _ => hn, fun w hk => ?_⟩
    have HK := hide hk
    by_cases ho : ∃ v, Go.Lib.atoiAll s.data.toList = .ok v
    · obtain ⟨v, hv⟩ := ho
      have hvb : I64P v := Go.Lib.atoiAll_bounds hv
      have CP : ∀ w, KP w → Calls Tryd.prog 69 #[.string s] w fun e w' => e = .returned (.tuple #[.int .i64 v, .nilIface]) ∧ Below w.heap.size w w' := fun w hk => (ato_any s hs w hk.2.2.2.1 hk.2.2.2.2).mono fun e w' ⟨hA, hB⟩ => ⟨by
        rcases hA with ⟨v', hv', he⟩ | ⟨hn, _⟩
        · rw [hv] at hv'
          rw [he, Go.Lib.NumEnd.ok.inj hv']
        · exact absurd hv (hn v), hB⟩
      have CF := fun w' (b : Below w.heap.size w w') => ito_any v hvb w' (kp_below hk b).1.1
      have hne := str_neq (show txt (intF v) ≠ s from fun e => hn v hvb (by rw [← e, byt_txt (byts_int v)]))
      have qn := err_nil
      clear hk hn hv hvb h
      generalize txt (intF v) = t at *
      go_enter Tryd.func59, Tryd.ntmps59
      go_wp2_with (first
        | (go_at_call 69; (with_reducible refine (CP _ HK.out).mono ?_); rintro e w1 ⟨rfl, b1⟩)
        | (go_at_call 40; (with_reducible refine (CF _ b1).mono ?_); rintro e w2 ⟨rfl, b2⟩))
      go_ret2
      exact ⟨rfl, bt b1 b2⟩
    · have CP : ∀ w, KP w → Calls Tryd.prog 69 #[.string s] w fun e w' => (∃ v t p, e = .returned (.tuple #[.int .i64 v, .iface t p])) ∧ Below w.heap.size w w' := fun w hk => (ato_any s hs w hk.2.2.2.1 hk.2.2.2.2).mono fun e w' ⟨hA, hB⟩ => ⟨by
        rcases hA with ⟨v', hv', _⟩ | ⟨_, he⟩
        · exact absurd ⟨v', hv'⟩ ho
        · exact he, hB⟩
      have qe := err_some
      clear hk hn ho h
      go_enter Tryd.func59, Tryd.ntmps59
      go_wp2_with (go_at_call 69; (with_reducible refine (CP _ HK.out).mono ?_); rintro e w1 ⟨⟨v, t, p, rfl⟩, b1⟩; have q1 := qe t p)
      go_ret2
      exact ⟨rfl, b1⟩
theorem signed_yes (k : Int) (h : 0 ≤ k ∧ k ≤ 3) (w : World) :
    Calls Tryd.prog 47 #[.int .i32 (runeB k)] w fun e w' => e = .returned (.tuple #[.int .i64 k, .bool true]) ∧ Below w.heap.size w w' := by
  have CS := fun (j : Int) w => sign_any j w
  have HR := hide (fun (j : Nat) (hj : j < 4) => rune_ne (k := (j : Int)) (by omega))
  have HI := hide (fun (j : Nat) (hj : j < 4) (hne : (j : Int) ≠ k) => show (runeB (j : Int) == runeB k) = false from beq_eq_false_iff_ne.2 fun e => hne (rune_inj (by omega) e))
  go_enter Tryd.func47, Tryd.ntmps47
  go_wp2
  go_loopw [4] (fun i wr => ∃ j : Nat, j ≤ 3 ∧ (j : Int) ≤ k ∧ i = .int .i64 (j : Int) ∧ Below w.heap.size w wr) (fun i _ => 4 - (intOf i).toNat)
  case atStart => exact ⟨0, by omega, by omega, rfl, Below.refl _ _⟩
  case round =>
    obtain ⟨j, hj, hjk, rfl, hb⟩ := hrel
    have HB := hide hb
    have CJ := CS (j : Int)
    have r0 := HR.out j (by omega)
    clear hb
    by_cases hk : (j : Int) = k
    · subst hk
      clear HI HR CS
      generalize runeB (j : Int) = R at *
      go_wp2_with (first
        | (go_at_call 19; (with_reducible refine (CJ _).mono ?_); rintro e w1 ⟨rfl, b1⟩; have HB2 := hide (bt HB.out b1); clear HB b1)
        | (go_at_call 19; (with_reducible refine (CJ _).mono ?_); rintro e w2 ⟨rfl, b2⟩; have HB3 := hide (bt HB2.out b2); clear HB2 b2))
      go_ret2
      exact ⟨rfl, HB3.out⟩
    · have r1 := HI.out j (by omega) hk
      clear HI HR CS
      generalize runeB (j : Int) = R at *
      go_wp2_with (first
        | (go_at_call 19; (with_reducible refine (CJ _).mono ?_); rintro e w1 ⟨rfl, b1⟩; have HB2 := hide (bt HB.out b1); clear HB b1)
        | (go_at_call 19; (with_reducible refine (CJ _).mono ?_); rintro e w2 ⟨rfl, b2⟩; have HB3 := hide (bt HB2.out b2); clear HB2 b2))
      go_roundw
      case rel => exact ⟨j + 1, by omega, by omega, by go_num, HB3.out⟩
      case measure => simp [intOf]; omega
theorem signed_no (r : Int) (h : ∀ k, 0 ≤ k ∧ k ≤ 3 → r ≠ runeB k) (w : World) :
    Calls Tryd.prog 47 #[.int .i32 r] w fun e w' => e = .returned (.tuple #[.int .i64 0, .bool false]) ∧ Below w.heap.size w w' := by
  have CS := fun (j : Int) w => sign_any j w
  have HR := hide (fun (j : Nat) (hj : j < 4) => rune_ne (k := (j : Int)) (by omega))
  have HI := hide (fun (j : Nat) (hj : j < 4) => show (runeB (j : Int) == r) = false from beq_eq_false_iff_ne.2 fun e => h (j : Int) (by omega) e.symm)
  clear h
  go_enter Tryd.func47, Tryd.ntmps47
  go_wp2
  go_loopw [4] (fun i wr => ∃ j : Nat, j ≤ 4 ∧ i = .int .i64 (j : Int) ∧ Below w.heap.size w wr) (fun i _ => 4 - (intOf i).toNat)
  case atStart => exact ⟨0, by omega, rfl, Below.refl _ _⟩
  case round =>
    obtain ⟨j, hj, rfl, hb⟩ := hrel
    have HB := hide hb
    have CJ := CS (j : Int)
    clear hb
    by_cases hlt : j < 4
    · have r0 := HR.out j hlt
      have r1 := HI.out j hlt
      clear HI HR CS
      generalize runeB (j : Int) = R at *
      go_wp2_with (first
        | (go_at_call 19; (with_reducible refine (CJ _).mono ?_); rintro e w1 ⟨rfl, b1⟩; have HB2 := hide (bt HB.out b1); clear HB b1)
        | (go_at_call 19; (with_reducible refine (CJ _).mono ?_); rintro e w2 ⟨rfl, b2⟩; have HB3 := hide (bt HB2.out b2); clear HB2 b2))
      go_roundw
      case rel => exact ⟨j + 1, by omega, by go_num, HB3.out⟩
      case measure => simp [intOf]; omega
    · obtain rfl : j = 4 := by omega
      have CJ4 := CS 4
      rw [show runeB 4 = 0 from rfl] at CJ4
      clear HI HR CS
      go_wp2_with (go_at_call 19; (with_reducible refine (CJ4 _).mono ?_); rintro e w1 ⟨rfl, b1⟩)
      go_ret2
      exact ⟨rfl, bt HB.out b1⟩
end Go.Proofs.YtlknopmpbkepjaaDoor

/- A law over listed variables, handed the world's shape as well. -/
namespace Go.Proofs.YtlknopmpbkepjaaDoor

/-- My own wrap: as for a row that lists variables, but the walk is told the shape of the world in which the call is made too. -/
theorem handed_shaped {H : Type} {enc : TypeId × Value → H} {C : Checked} {os : Os} {g : FuncId} {fn : Func} {s : ChangeSpec} {X : World → Array Value → Prop}
    (keep : ∀ (w w' : World) (vs : Array Value), w.heap = w'.heap → X w vs → X w' vs) (own : ownKnob C.prog.godebug = none) (started : os.Started) (noInit : C.prog.inits.idxOf? g = none) (hfn : C.prog.funcs[g]? = some fn)
    (wit : ∃ (w : World) (tape : Tape) (i : Input), w.os = os ∧ (w.forCall tape i).Shaped C.prog ∧ i.vars = [] ∧ Input.okWide C.prog (w.forCall tape i) .any w.heap.size g i ∧
      ((s.pre enc C.prog fn [] false (w.forCall tape i).memory i.args ∧ X (w.forCall tape i).memory i.args) ∧ sizedMet enc C.prog fn (OpenSpec.ofChange s) false (w.forCall tape i).memory i.args) ∧ ({} : Assume).holds C.prog (lone (Frame.enter C.prog g i.args .normal) [] (w.forCall tape i)))
    (walk : ∀ (W : World) (base : Nat) (vs : Array Value) (ds gs : List (DataW H)) (was : List MemPlace), (∀ (j : Nat) t v, fn.params[j]? = some t → vs[j]? = some v → Value.okWide C.prog W .any base t v) →
      DataW.Whole enc C.prog fn.params.toList s.vars false W vs.toList ds gs was → True → True → X W vs → W.ShapedOpen C.prog → True →
      Calls C.prog g vs W fun e W' => ∃ v, e = .returned v ∧ s.post enc C.prog fn false true false false W vs v W') :
    ReturnsInHanded {} C os g .any (fun w vs => (s.pre enc C.prog fn [] false w vs ∧ X w vs) ∧ sizedMet enc C.prog fn (OpenSpec.ofChange s) false w vs) (s.post enc C.prog fn false true false false) := by
  refine returnsInHanded_of_calls own started noInit wit fun w tape i _ shp _ ok pre _ => ?_
  obtain ⟨_, _, _, fn', hf, _, _, _, _, hv⟩ := ok
  obtain rfl : fn' = fn := Option.some.inj (hf.symm.trans hfn)
  obtain ⟨⟨⟨ds, gs, was, hw, _⟩, hx⟩, _⟩ := pre
  refine (walk (w.forCall tape i) w.heap.size i.args ds gs was hv (DataW.Whole.of_heap (w := (w.forCall tape i).memory) (w' := w.forCall tape i) (by rfl) hw) trivial trivial (keep (w.forCall tape i).memory _ _ (by rfl) hx) shp trivial).mono fun e W' h => ?_
  obtain ⟨v, rfl, hp⟩ := h
  exact ChangeSpec.post_blind hp
end Go.Proofs.YtlknopmpbkepjaaDoor

/- Operations as texts: what the rows of the laws on texts list. -/
namespace Go.Proofs.YtlknopmpbkepjaaDoor
open Go.Lib Go.ChangeShapes Go.WideShapes Go.ChangeAt Go.WideMaps Go.WideElems Go.RowKit

def dLaid13R : List (String × DataW Unit) := [("math/bits.deBruijn32tab", Rows.laid_math_bits_deBruijn32tab), ("math/bits.deBruijn64tab", Rows.laid_math_bits_deBruijn64tab), ("internal/strconv.uint64pow10", Rows.laid_internal_strconv_uint64pow10), ("unicode/utf8.acceptRanges", Rows.laid_unicode_utf8_acceptRanges), ("smalto/border.names", Rows.laid_smalto_border_names), ("smalto/raw.kinds", Rows.laid_smalto_raw_kinds), ("strconv.ErrRange", Rows.laid_strconv_ErrRange), ("strconv.ErrSyntax", Rows.laid_strconv_ErrSyntax), ("unicode/utf8.first", Rows.laid_unicode_utf8_first)]
theorem door_met13R (os : Os) (args : Array Value) : laidMetH Tryd.prog dLaid13R ((World.laidAll Tryd.prog os dLaid13R).forCall (fun _ _ => 0) ⟨#[], args, []⟩).memory := by
  rw [MakeChecks.laidMetH_plain _ _ _ (by kernel_rfl)]
  exact laidMet_laidAll _ (by kernel_rfl) (by kernel_rfl)
theorem first13 : (Rows.laid_unicode_utf8_first : DataW Unit) = Go.Lib.firstData := by kernel_rfl
theorem accept13 : (Rows.laid_unicode_utf8_acceptRanges : DataW Unit) = Go.Lib.acceptData := by kernel_rfl
theorem utf8_of_laid {W : World} (h : laidMet Tryd.prog dLaid13R W) : Utf8P W :=
  Go.Proofs.utf8Tabs_of_reads (ρ := runeL_ren) { runeL with } ⟨by kernel_rfl, by kernel_rfl, by kernel_rfl, by kernel_rfl, by kernel_rfl, by kernel_rfl, by kernel_rfl⟩
    (first13 ▸ Go.Lib.laidMet.reads h (by simp [dLaid13R])) (accept13 ▸ Go.Lib.laidMet.reads h (by simp [dLaid13R]))
theorem star_es : "*" ++ "errors.errorString" = "*errors.errorString" := by decide
theorem row_es (u : TypeId) (h : Tryd.prog.typeName? 3 u = some "*errors.errorString") : u = 148 :=
  typeName_ptr_named (nm := "errors.errorString") (by rw [star_es]; kernel_rfl) (by kernel_rfl) (by decide) u (by rw [star_es]; exact h)
theorem err_of_laid {W : World} {n : String} {g : Nat} {tp : TypeId} {a : Addr} (hg : Tryd.prog.globalNamed n = some g) (h : W.var? Tryd.prog n = some #[.iface tp (.pointer (some a))]) : ErrV W g :=
  ⟨tp, .pointer (some a), World.var?_cell hg h 0⟩
theorem kp_of_laid {W : World} (h : laidMetH Tryd.prog dLaid13R W) (hs : W.ShapedOpen Tryd.prog) : KP W := by
  rw [MakeChecks.laidMetH_plain _ _ _ (by kernel_rfl)] at h
  have hU := utf8_of_laid h
  have hM : MaxL W := cell_of_shapedOpen_int (P := Tryd.prog) (g := 5) (t := 3) (zero := #[.int .i64 0]) hs (of_decide_eq_true (by kernel_rfl)) (by kernel_rfl) rfl (by kernel_rfl) (by kernel_rfl) Tryd.underlying3
  obtain ⟨ps, ⟨g0, t0, cs0, f0, p0, q0, hg0, ht0, hv0, hd0, ⟨g1, t1, cs1, f1, p1, q1, hg1, ht1, hv1, hd1, ⟨g2, t2, cs2, f2, p2, q2, hg2, ht2, hv2, hd2, ⟨g3, t3, cs3, f3, p3, q3, hg3, ht3, hv3, hd3, ⟨g4, t4, cs4, f4, p4, q4, hg4, ht4, hv4, hd4, ⟨g5, t5, cs5, f5, p5, q5, hg5, ht5, hv5, hd5, hrest, _⟩, _⟩, _⟩, _⟩, _⟩, _⟩, _, _⟩ := id h
  obtain rfl := Option.some.inj (gPow13.symm.trans hg2)
  obtain rfl := Option.some.inj (tPow13.symm.trans ht2)
  rw [powData13] at hd2
  have e := Go.Lib.cells_of_tab (n := 20) Tryd.underlying125 Tryd.underlying98 (by kernel_rfl) (by kernel_rfl) hd2
  obtain rfl := Option.some.inj (gNamesE.symm.trans hg4)
  obtain rfl := Option.some.inj (tNamesE.symm.trans ht4)
  obtain rfl := names_cells hd4
  obtain rfl := Option.some.inj (gKinds.symm.trans hg5)
  obtain rfl := Option.some.inj (tKinds.symm.trans ht5)
  obtain rfl := kinds_cells hd5
  have hSy : ErrV W 8 := by
    obtain ⟨a0, s0, hv, _⟩ := Go.laid_sentinel (g := 8) h.tail.tail.tail.tail.tail.tail.tail (by kernel_rfl) (by kernel_rfl) Tryd.underlying66 row_es Tryd.underlying148 Tryd.underlying150 rfl rfl Tryd.underlying9 (by kernel_rfl) (by kernel_rfl)
    exact err_of_laid (by kernel_rfl) hv
  have hRa : ErrV W 9 := by
    obtain ⟨a0, s0, hv, _⟩ := Go.laid_sentinel (g := 9) h.tail.tail.tail.tail.tail.tail (by kernel_rfl) (by kernel_rfl) Tryd.underlying66 row_es Tryd.underlying148 Tryd.underlying150 rfl rfl Tryd.underlying9 (by kernel_rfl) (by kernel_rfl)
    exact err_of_laid (by kernel_rfl) hv
  refine ⟨⟨?_, ⟨World.var?_cell hg5 hv5 0, World.var?_cell hg5 hv5 1, World.var?_cell hg5 hv5 2, World.var?_cell hg5 hv5 3, World.var?_cell hg5 hv5 4, World.var?_cell hg5 hv5 5⟩, World.var?_cell hg4 hv4 0, World.var?_cell hg4 hv4 1, World.var?_cell hg4 hv4 2⟩, hM, hU, hSy, hRa⟩
  unfold Pow10 Go.Lib.TabIs
  rw [hv2, ← e]
end Go.Proofs.YtlknopmpbkepjaaDoor

/- Operations as texts: the words of a text, one behind the other: a function that yields. -/
namespace Go.Proofs.YtlknopmpbkepjaaDoor
open Go.RowKit Go.Shelf

attribute [local go_sem] Oper.semAt_some
/-- The pieces of a text, as texts. -/
def pcs (c : Int) (s : ByteArray) : List ByteArray := (splitC c (byt s)).map txt
theorem pcs_cons {c : Int} {r p q : ByteArray} (h : byt r = byt p ++ c :: byt q) (hp : c ∉ byt p) : pcs c r = p :: pcs c q := by
  unfold pcs
  rw [cut_head h hp, List.map_cons, txt_byt]
theorem pcs_last {c : Int} {r : ByteArray} (h : c ∉ byt r) : pcs c r = [r] := by
  unfold pcs
  rw [splitC_no h, List.map_singleton, txt_byt]
def boolV : Value → Nat | .bool true => 1 | _ => 0
theorem sparts_any (s m : ByteArray) (w : World) :
    Calls Tryd.prog 32 #[.string s, .string m] w fun e w' => e = .returned (.func (.func 43) #[] #[.pointer (some ⟨w.heap.size, 0, none⟩), .pointer (some ⟨w.heap.size + 1, 0, none⟩)]) ∧ w' = (w.alloc (.cells #[.string s] 9)).alloc (.cells #[.string m] 9) := by
  go_enter Tryd.func32, Tryd.ntmps32
  go_wp2
  go_ret
  exact ⟨rfl, rfl⟩
/-- What a round keeps: what lay below, and the mark. -/
def KpM (n₀ Bm : Nat) (m : ByteArray) (A B : World) : Prop := Below n₀ A B ∧ (A.cell? ⟨Bm, 0, none⟩ = some (.string m) → B.cell? ⟨Bm, 0, none⟩ = some (.string m))
theorem kpm_t {n₀ Bm : Nat} {m : ByteArray} {A B C : World} (h : KpM n₀ Bm m A B) (k : KpM n₀ Bm m B C) : KpM n₀ Bm m A C := ⟨h.1.trans k.1, fun e => k.2 (h.2 e)⟩
theorem kpm_b {n₀ Bm : Nat} {m : ByteArray} {w : World} (hn : n₀ ≤ w.heap.size) (W : World) (l : Nat) (o o' : Obj) (hl : w.heap.size ≤ l) (h : W.heap[l]? = some o) (ho : o.isCells = false) (hw : o.isWalk = false) : KpM n₀ Bm m W (W.putObj l o') :=
  ⟨belowK_b hn W l o o' hl h ho hw, fun e => cell_kept e (grownBy_putObj' W l o') (fun r q => by cases q; exact ⟨o, h, ho⟩)⟩
theorem kpm_refl {n₀ Bm : Nat} {m : ByteArray} (W : World) : KpM n₀ Bm m W W := ⟨Below.refl _ _, fun e => e⟩
theorem belN {n₀ : Nat} {A B : World} (h : Below n₀ A B) (k : Nat) : Below n₀ A (B.drewN k) := h.trans ⟨rfl, rfl, rfl, Nat.le_refl _, fun _ _ => rfl⟩
set_option maxRecDepth 100000 in
set_option maxHeartbeats 2000000 in
theorem parts1_in (n : Nat) (hn : 1 ≤ n) (l Bs Bm n₀ : Nat) (c : Int) (h0c : 0 ≤ c) (h1c : c ≤ 255) (s : ByteArray) (hsz : s.size ≤ 100000) (J Jx : List ByteArray → World → Prop)
    (hJ : ∀ pre (W : World) k, J pre W → J pre (W.drewN k)) (hJx : ∀ pre (W : World) k, Jx pre W → Jx pre (W.drewN k))
    (hY : ∀ pre x W, J pre W → pre.length < 1000002 → x.size ≤ 100000 → YieldAt Fence.wide (n - 1) Tryd.prog l #[.string x] W fun e W' =>
      (e = .returned (.bool true) ∧ J (pre ++ [x]) W' ∧ KpM n₀ Bm (txt [c]) W W') ∨ (e = .returned (.bool false) ∧ Jx (pre ++ [x]) W'))
    (W : World) (hBs : W.cell? ⟨Bs, 0, none⟩ = some (.string s)) (hBm : W.cell? ⟨Bm, 0, none⟩ = some (.string (txt [c]))) (hM : ∀ W', Below n₀ W W' → MaxL W') (h0 : J [] W) :
    CallsIn Fence.wide n Tryd.prog 43 #[.func (.yield l) #[] #[], .pointer (some ⟨Bs, 0, none⟩), .pointer (some ⟨Bm, 0, none⟩)] W fun e W' => (∃ v, e = .returned v) ∧
      ((∃ ys, ys = (if s.toList.isEmpty = true then [] else pcs c s) ∧ J ys W') ∨ (∃ pre, pre <+: (if s.toList.isEmpty = true then [] else pcs c s) ∧ Jx pre W')) := by
  have HB := hide (Below.refl n₀ W)
  have HBM := hide hBm
  have HBD := hide (fun k => (show (W.drewN k).cell? ⟨Bm, 0, none⟩ = some (.string (txt [c])) from hBm))
  cases he : s.toList.isEmpty with
  | true =>
    refine callsIn_of_wp Tryd.func43 rfl trivial ?_ rfl
    simp only [Tryd.ntmps43, List.size_toArray, List.length_cons, List.length_nil, Nat.reduceAdd, Nat.reduceSub, Array.replicate_succ, Array.replicate_zero, List.push_toArray, List.append_toArray, List.nil_append, List.cons_append]
    gi_wp2
    gi_region
    all_goals
      gi_wp2
      gi_loopw [4, 5] (fun a b wr => a = .string s ∧ b = .bool false ∧ J [] wr) (fun a _ _ => lenOfV a)
      case atStart => exact ⟨rfl, rfl, by first | exact h0 | exact hJ _ _ _ h0⟩
      case round =>
        obtain ⟨rfl, rfl, hj⟩ := hrel
        gi_wp2
        go_end0
        first | exact ⟨⟨_, rfl⟩, .inl hj⟩ | (trace_state; sorry)
  | false =>
    have HPL := hide (fun (r : ByteArray) => show (pcs c r).length ≤ 1000002 → True from fun _ => trivial)
    clear HPL
    refine callsIn_of_wp Tryd.func43 rfl trivial ?_ rfl
    simp only [Tryd.ntmps43, List.size_toArray, List.length_cons, List.length_nil, Nat.reduceAdd, Nat.reduceSub, Array.replicate_succ, Array.replicate_zero, List.push_toArray, List.append_toArray, List.nil_append, List.cons_append]
    gi_wp2
    gi_region
    all_goals
      gi_wp2
      gi_loopw [4, 5] (fun a b wr => ∃ (r : ByteArray) (mo : Bool) (pre rest : List ByteArray), a = .string r ∧ b = .bool mo ∧ pcs c s = pre ++ rest ∧ ((mo = false ∧ rest = []) ∨ (mo = true ∧ rest = pcs c r ∧ pre.length + r.size ≤ s.size)) ∧ J pre wr ∧ Below n₀ W wr ∧ wr.cell? ⟨Bm, 0, none⟩ = some (.string (txt [c]))) (fun a b _ => lenOfV a + boolV b)
      case atStart => exact ⟨s, true, [], pcs c s, rfl, rfl, rfl, .inr ⟨rfl, rfl, by simp⟩, by first | exact h0 | exact hJ _ _ _ h0, by first | exact HB.out | exact belN HB.out _, by first | exact HBM.out | exact HBD.out _⟩
      case round =>
        obtain ⟨r, mo, pre, rest, rfl, rfl, hx, hre, hj, hb, hbm⟩ := hrel
        have HBR := hide hb
        cases mo with
        | false =>
          have hr0 : rest = [] := by rcases hre with ⟨_, h⟩ | ⟨h, _⟩; exact h; cases h
          rw [hr0, List.append_nil] at hx
          clear hre hb
          gi_wp2
          go_end0
          first | exact ⟨⟨_, rfl⟩, .inl hj⟩ | exact ⟨⟨_, rfl⟩, .inl (by rw [hx]; exact hj)⟩ | (trace_state; sorry)
        | true =>
          obtain ⟨hr0, hlen⟩ : rest = pcs c r ∧ pre.length + r.size ≤ s.size := by rcases hre with ⟨h, _⟩ | ⟨_, h⟩; cases h; exact h
          have HJ2 := hide hj
          have hml := hM wr hb
          have hrs : r.size ≤ 1000000 ∨ True := .inr trivial
          clear hre hb hj hrs
          subst hr0
          rcases cutp_or h0c h1c (s := r) (by omega) with ⟨p, q, hpq, hp, hsz2, CC⟩ | ⟨hno, CC⟩
          · rw [pcs_cons hpq hp] at hx
            have hplen : pre.length < 1000002 := by omega
            have hpz : p.size ≤ 100000 := by omega
            gi_wp2_with (refine ⟨trivial, ?_⟩; gi_at_call 44; refine (callsIn_wide.2 (CC _ hml)).mono ?_; rintro e w1 ⟨rfl, n1, rfl⟩; obtain ⟨fn, tmps, assign, body, hy, hR⟩ := hY pre p _ (hJ _ _ n1 HJ2.out) hplen hpz)
            refine hR.mono ?_
            rintro e W3 (⟨rfl, hJ3, hk3⟩ | ⟨rfl, hJx3⟩)
            · have hb3 := (belN HBR.out n1).trans hk3.1
              have hbm3 := hk3.2 hbm
              gi_wp2
              go_roundw
              case rel => exact ⟨q, true, pre ++ [p], pcs c q, rfl, rfl, by rw [hx]; simp, .inr ⟨rfl, rfl, by rw [List.length_append, List.length_singleton]; omega⟩, hJ3, hb3, hbm3⟩
              case measure => show q.size + 1 < r.size + 1; omega
            · gi_wp2
              refine bodyPost_ret (results_none rfl _ _ _) rfl ?_
              exact ⟨⟨_, rfl⟩, .inr ⟨pre ++ [p], ⟨pcs c q, by simp⟩, hJx3⟩⟩
          · rw [pcs_last hno] at hx
            have hplen : pre.length < 1000002 := by omega
            have hpz : r.size ≤ 100000 := by omega
            gi_wp2_with (refine ⟨trivial, ?_⟩; gi_at_call 44; refine (callsIn_wide.2 (CC _ hml)).mono ?_; rintro e w1 ⟨rfl, n1, rfl⟩; obtain ⟨fn, tmps, assign, body, hy, hR⟩ := hY pre r _ (hJ _ _ n1 HJ2.out) hplen hpz)
            refine hR.mono ?_
            rintro e W3 (⟨rfl, hJ3, hk3⟩ | ⟨rfl, hJx3⟩)
            · have hb3 := (belN HBR.out n1).trans hk3.1
              have hbm3 := hk3.2 hbm
              gi_wp2
              go_roundw
              case rel => exact ⟨⟨#[]⟩, false, pre ++ [r], [], rfl, rfl, by rw [hx]; simp, .inl ⟨rfl, rfl⟩, hJ3, hb3, hbm3⟩
              case measure => show 0 + 0 < r.size + 1; omega
            · gi_wp2
              refine bodyPost_ret (results_none rfl _ _ _) rfl ?_
              exact ⟨⟨_, rfl⟩, .inr ⟨pre ++ [r], ⟨[], by simp⟩, hJx3⟩⟩
/-- A text that is not long. -/
abbrev Sm := { p : ByteArray // p.size ≤ 100000 }
def pieces (c : Int) (s : ByteArray) : List ByteArray := if s.toList.isEmpty = true then [] else pcs c s
theorem parts_stops (n : Nat) (hn : 1 ≤ n) (Bs Bm n₀ : Nat) (c : Int) (h0c : 0 ≤ c) (h1c : c ≤ 255) (s : ByteArray) (hsz : s.size ≤ 100000) (w : World) (hBs : Bs < w.heap.size) (hBm : Bm < w.heap.size) (hn₀ : n₀ ≤ w.heap.size)
    (hcs : w.cell? ⟨Bs, 0, none⟩ = some (.string s)) (hcm : w.cell? ⟨Bm, 0, none⟩ = some (.string (txt [c]))) (hM : ∀ W', Below n₀ w W' → MaxL W') :
    SeqStopsK Fence.wide n Tryd.prog 43 #[.pointer (some ⟨Bs, 0, none⟩), .pointer (some ⟨Bm, 0, none⟩)] (fun x : Sm => #[Value.string x.1]) (KpM n₀ Bm (txt [c])) (fun ys => ys.map (·.1) = pieces c s) (fun pre => pre.map (·.1) <+: pieces c s) 1000002 w := by
  intro l J Jx W hW hJ hJx hY h0
  refine (parts1_in n hn l Bs Bm n₀ c h0c h1c s hsz (fun pre W => ∃ pre' : List Sm, pre'.map (·.1) = pre ∧ J pre' W) (fun pre W => ∃ pre' : List Sm, pre'.map (·.1) = pre ∧ Jx pre' W)
    (fun pre W k ⟨q, e, h⟩ => ⟨q, e, hJ q W _ none h (grown_drewN W k none) (fun r e => by cases e)⟩) (fun pre W k ⟨q, e, h⟩ => ⟨q, e, hJx q W _ none h (grown_drewN W k none) (fun r e => by cases e)⟩)
    ?_ W ((hW.cell (p := ⟨Bs, 0, none⟩) hBs).trans hcs) ((hW.cell (p := ⟨Bm, 0, none⟩) hBm).trans hcm) (fun W' hb => hM W' ((hW.mono hn₀).trans hb)) ⟨[], rfl, h0⟩).mono ?_
  · rintro pre x W1 ⟨q, rfl, hq⟩ hl hx
    rw [List.length_map] at hl
    refine (hY q ⟨x, hx⟩ W1 hq hl).mono ?_
    rintro e W' (⟨he, hj, hk⟩ | ⟨he, hj⟩)
    · exact .inl ⟨he, ⟨q ++ [⟨x, hx⟩], by simp, hj⟩, hk⟩
    · exact .inr ⟨he, ⟨q ++ [⟨x, hx⟩], by simp, hj⟩⟩
  · rintro e W' ⟨hv, (⟨ys, hy, q, hq, hj⟩ | ⟨pre, hp, q, hq, hj⟩)⟩
    · exact ⟨hv, .inl ⟨q, hq.trans hy, hj⟩⟩
    · exact ⟨hv, .inr ⟨q, by show q.map (·.1) <+: _; rw [hq]; exact hp, hj⟩⟩
end Go.Proofs.YtlknopmpbkepjaaDoor
