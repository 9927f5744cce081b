/- Parts, joined. -/
import Derived.Test.YtlknopmpbkepjaaDoorJ13
import Derived.Test.YtlknopmpbkepjaaDoorJ01
import Derived.Test.YtlknopmpbkepjaaDoorRows
import Derived.Test.YtlknopmpbkepjaaDoorJ08
import Derived.Test.YtlknopmpbkepjaaDoorJ02
import Derived.ProofKit
import Derived.LaidMore
import Derived.OpenShut
/- Operations as texts: the law on rows that are joined. -/
namespace Go.Proofs.YtlknopmpbkepjaaDoor
open Go.RowKit


/-- Cells of records that lie in memory. -/
def RecsIn (w : World) (ad : Option Addr) (n : Nat) (vs : List (List Value)) : Prop := ∀ j, j < n → ∃ b off, ad = some ⟨b, off, none⟩ ∧ ∀ q, q < 9 → w.cell? ⟨b, off + j * 9 + q, none⟩ = some (recAt vs j q)
theorem RecsIn.below {w w' : World} {ad : Option Addr} {n : Nat} {vs : List (List Value)} (h : RecsIn w ad n vs) (hb : Below w.heap.size w w') : RecsIn w' ad n vs := fun j hj => by
  obtain ⟨b, off, e, c⟩ := h j hj
  exact ⟨b, off, e, fun q hq => cb hb (cell_ltL (c q hq)) (c q hq)⟩
theorem fit_of {o : Opr} (h : OpFits o) : FitW o := by
  refine ⟨fun x hx => ?_, fun x hx => ?_, fun x hx => ?_⟩
  · simp only [List.mem_cons, List.not_mem_nil, or_false] at hx
    rcases hx with rfl | rfl | rfl | rfl | rfl
    · exact h.sg
    · exact h.rd
    · exact h.fl
    · exact h.wd
    · exact h.ht
  · obtain ⟨j, hj, rfl⟩ := List.getElem_of_mem hx
    have := h.xs.all j hj
    rwa [List.getD_eq_getElem?_getD, List.getElem?_eq_getElem hj] at this
  · obtain ⟨j, hj, rfl⟩ := List.getElem_of_mem hx
    have := h.ys.all j hj
    rwa [List.getD_eq_getElem?_getD, List.getElem?_eq_getElem hj] at this
theorem lit_of {L : List Opr} {n : Nat} (hF : OpsFit L) (h : fewB L n = true) : ∀ o ∈ L, LitW o := fun o ho => by
  obtain ⟨_, h2⟩ := few_iff h
  obtain ⟨a, b⟩ := h2 o ho
  obtain ⟨j, hj, rfl⟩ := List.getElem_of_mem ho
  have := hF j hj
  unfold opAt at this
  rw [List.getD_eq_getElem?_getD, List.getElem?_eq_getElem hj] at this
  exact ⟨fit_of this, by omega, by omega⟩
theorem print_size {L : List Opr} (h : ∀ o ∈ L, LitW o) (n : Nat) (hn : L.length ≤ n) : (printT L).size ≤ 42062 * n := by
  have h2 := print_len (L := L) 42061 (fun o ho => by
    obtain ⟨f, q1, q2⟩ := h o ho
    have := word_len f
    omega)
  have h3 : 42062 * L.length ≤ 42062 * n := Nat.mul_le_mul_left _ hn
  unfold printT
  split
  · rw [txt_size (byts_print L)]; omega
  · rw [txt_nil]; exact Nat.zero_le _
theorem allW_app (L M : List Opr) : allW (L ++ M) = (allW L && allW M) := by unfold allW; rw [List.all_append]
/-- The text of two rows. -/
theorem joinT {L M : List Opr} (hl : allW L = true) (hm : allW M = true) :
    ((L = [] ∨ M = []) ∧ ((printT L).toList.isEmpty = true ∨ ((printT L).toList.isEmpty = false ∧ (printT M).toList.isEmpty = true)) ∧ printT (L ++ M) = printT L ++ printT M) ∨
    ((printT L).toList.isEmpty = false ∧ (printT M).toList.isEmpty = false ∧ printT (L ++ M) = printT L ++ ⟨#[59]⟩ ++ printT M) := by
  have ha : allW (L ++ M) = true := by rw [allW_app, hl, hm]; rfl
  have e1 : printT L = txt (printB L) := by unfold printT; rw [if_pos hl]
  have e2 : printT M = txt (printB M) := by unfold printT; rw [if_pos hm]
  have e3 : printT (L ++ M) = txt (printB (L ++ M)) := by unfold printT; rw [if_pos ha]
  rw [e1, e2, e3]
  by_cases h1 : L = []
  · subst h1
    refine .inl ⟨.inl rfl, .inl (by rw [txt_isEmpty (byts_print _)]; rfl), ?_⟩
    rw [txt_app (byts_print _) (byts_print _)]
    rfl
  by_cases h2 : M = []
  · subst h2
    refine .inl ⟨.inr rfl, .inr ⟨isEmpty_no (byts_print _) (printB_ne h1), by rw [txt_isEmpty (byts_print _)]; rfl⟩, ?_⟩
    rw [txt_app (byts_print _) (byts_print _), List.append_nil]
    show _ = txt (printB L ++ [])
    rw [List.append_nil]
  · refine .inr ⟨isEmpty_no (byts_print _) (printB_ne h1), isEmpty_no (byts_print _) (printB_ne h2), ?_⟩
    rw [printB_app h1 h2, show (⟨#[59]⟩ : ByteArray) = txt [59] from rfl, txt_app (byts_print _) (byts_one (by decide) (by decide)), txt_app (byts_app (byts_print _) (byts_one (by decide) (by decide))) (byts_print _), List.append_assoc]
    rfl
set_option maxHeartbeats 4000000 in
set_option maxRecDepth 100000 in
theorem joins_no (L M : List Opr) (n m : Nat) (hn : L.length = n) (hm : M.length = m) (h1 : n ≤ maxLen) (h2 : m ≤ maxLen) (ad ad2 : Option Addr) (cap cap2 : Nat) (w : World) (hk : KW w) (hr : OpsAt w ad L) (hr2 : OpsAt w ad2 M)
    (h : ¬ (fewB L n = true ∧ fewB M m = true ∧ n + m ≤ 20)) :
    Calls Tryd.prog 6 #[.slice ad n cap, .slice ad2 m cap2] w fun e w' => e = .returned (.bool true) ∧ Below w.heap.size w w' := by
  have CL := fun w' (b : Below w.heap.size w w') => lives13_any w' (kw_below hk b)
  have CF := fun w' (b : Below w.heap.size w w') => few_any L n hn h1 ad cap w' (hr.below b)
  have CG := fun w' (b : Below w.heap.size w w') => few_any M m hm h2 ad2 cap2 w' (hr2.below b)
  have hf1 : fewB L n = true → n ≤ 20 := fun e => (few_iff e).1
  have hf2 : fewB M m = true → m ≤ 20 := fun e => (few_iff e).1
  clear hr hr2 hk hn hm
  generalize fewB L n = fl at *
  generalize fewB M m = fm at *
  cases fl with
  | false =>
    clear h hf1 hf2 CG
    go_enter Tryd.func6, Tryd.ntmps6
    go_wp2_with (first
      | (go_at_call 8; (with_reducible refine (CF _ B1.out).mono ?_); rintro e w2 ⟨rfl, b2⟩; have B2 := hide (bt B1.out b2); clear B1)
      | (go_at_call 7; (with_reducible refine (CL _ B2.out).mono ?_); rintro e w3 ⟨rfl, b3⟩)
      | (go_at_call 7; (with_reducible refine (CL _ (Below.refl _ _)).mono ?_); rintro e w1 ⟨rfl, b1⟩; have B1 := hide b1))
    exact bodyPost_ret (v := .bool true) (by simp [results, Tryd.results6, go_sem]) rfl ⟨rfl, bt B2.out b3⟩
  | true =>
    have hn2 := hf1 rfl
    cases fm with
    | false =>
      clear h hf1 hf2
      go_enter Tryd.func6, Tryd.ntmps6
      go_wp2_with (first
        | (go_at_call 8; (with_reducible refine (CF _ B1.out).mono ?_); rintro e w2 ⟨rfl, b2⟩; have B2 := hide (bt B1.out b2); clear B1)
        | (go_at_call 8; (with_reducible refine (CG _ B2.out).mono ?_); rintro e w3 ⟨rfl, b3⟩; have B3 := hide (bt B2.out b3); clear B2)
        | (go_at_call 7; (with_reducible refine (CL _ B3.out).mono ?_); rintro e w4 ⟨rfl, b4⟩)
        | (go_at_call 7; (with_reducible refine (CL _ (Below.refl _ _)).mono ?_); rintro e w1 ⟨rfl, b1⟩; have B1 := hide b1))
      exact bodyPost_ret (v := .bool true) (by simp [results, Tryd.results6, go_sem]) rfl ⟨rfl, bt B3.out b4⟩
    | true =>
      have hm2 := hf2 rfl
      have hs : (20 : Int) < (n : Int) + (m : Int) := by
        have : ¬ (n + m ≤ 20) := fun q => h ⟨rfl, rfl, q⟩
        omega
      clear h hf1 hf2
      go_enter Tryd.func6, Tryd.ntmps6
      go_wp2_with (first
        | (go_at_call 8; (with_reducible refine (CF _ B1.out).mono ?_); rintro e w2 ⟨rfl, b2⟩; have B2 := hide (bt B1.out b2); clear B1)
        | (go_at_call 8; (with_reducible refine (CG _ B2.out).mono ?_); rintro e w3 ⟨rfl, b3⟩; have B3 := hide (bt B2.out b3); clear B2)
        | (go_at_call 7; (with_reducible refine (CL _ B3.out).mono ?_); rintro e w4 ⟨rfl, b4⟩)
        | (go_at_call 7; (with_reducible refine (CL _ (Below.refl _ _)).mono ?_); rintro e w1 ⟨rfl, b1⟩; have B1 := hide b1))
      exact bodyPost_ret (v := .bool true) (by simp [results, Tryd.results6, go_sem]) rfl ⟨rfl, bt B3.out b4⟩
set_option maxHeartbeats 8000000 in
set_option maxRecDepth 100000 in
theorem joins_yes (L M : List Opr) (n m : Nat) (hn : L.length = n) (hm : M.length = m) (h1 : n ≤ maxLen) (h2 : m ≤ maxLen) (ad ad2 : Option Addr) (cap cap2 : Nat) (w : World) (hk : KW w) (hr : OpsAt w ad L) (hr2 : OpsAt w ad2 M) (hF : OpsFit L) (hF2 : OpsFit M) (hz : ad = none → cap = 0) (hz2 : ad2 = none → cap2 = 0)
    (h : fewB L n = true ∧ fewB M m = true ∧ n + m ≤ 20) :
    Calls Tryd.prog 6 #[.slice ad n cap, .slice ad2 m cap2] w fun e w' => e = .returned (.bool true) ∧ Below w.heap.size w w' := by
  obtain ⟨q1, q2, q3⟩ := h
  have l1 := lit_of hF q1
  have l2 := lit_of hF2 q2
  have n20 := (few_iff q1).1
  have m20 := (few_iff q2).1
  have CL := fun w' (b : Below w.heap.size w w') => lives13_any w' (kw_below hk b)
  have CF := fun w' (b : Below w.heap.size w w') => few_any L n hn h1 ad cap w' (hr.below b)
  have CG := fun w' (b : Below w.heap.size w w') => few_any M m hm h2 ad2 cap2 w' (hr2.below b)
  have CP := fun w' (b : Below w.heap.size w w') => print_any L n hn (by omega) ad cap w' (hr.below b) l1 (kw_below hk b)
  have CQ := fun w' (b : Below w.heap.size w w') => print_any M m hm (by omega) ad2 cap2 w' (hr2.below b) l2 (kw_below hk b)
  have lm : (L ++ M).length = n + m := by rw [List.length_append, hn, hm]
  have CR := fun ad3 cap3 w' (b : Below w.heap.size w w') (hr3 : OpsAt w' ad3 (L ++ M)) => print_any (L ++ M) (n + m) lm (by omega) ad3 cap3 w' hr3 (fun o ho => (List.mem_append.1 ho).elim (l1 o) (l2 o)) (kw_below hk b)
  have s1 := print_size l1 20 (by omega)
  have s2 := print_size l2 20 (by omega)
  rw [q1] at CF
  rw [q2] at CG
  have hqs : ¬ ((20 : Int) < (n : Int) + (m : Int)) := by omega
  obtain ⟨vs, v1, v2, v3, v4, v5⟩ := ops_cells hn hr
  obtain ⟨us, u1, u2, u3, u4, u5⟩ := ops_cells hm hr2
  have HV := hide (show RecsIn w ad n vs from v4)
  have HU := hide (show RecsIn w ad2 m us from u4)
  have V1 := hide v1
  have V2 := hide v2
  have V3 := hide v3
  have U1 := hide u1
  have U2 := hide u2
  have U3 := hide u3
  have HSO := hide (fun (w7 : World) (v7 : Value) (o : OwnRec 30 9 w7 w.heap.size v7 (([] ++ vs) ++ us)) (b : Below w.heap.size w w7) => show ∃ ad7 cap7, v7 = .slice ad7 (n + m) cap7 ∧ OpsAt w7 ad7 (L ++ M) ∧ (ad7 = none → cap7 = 0) by
    have hs : RefsSo 30 w.heap.size w w7 (L ++ M) (n + m) v7 := ⟨vs ++ us, by rw [List.length_append, v1, u1], o, recs_both hn v1 v5 u5⟩
    exact hs.ops lm b)
  have HZ := hide hz
  have HZ2 := hide hz2
  obtain ⟨i0, hi, hz0, hz1, hz3⟩ := info_parts infoOpP
  have HEND : (printC (L ++ M) = 6 ∧ printT (L ++ M) = ⟨#[]⟩ ∧ (printC L = 6 ∨ (printC L = 0 ∧ printC M = 6))) ∨ (printC (L ++ M) = 0 ∧ printC L = 0 ∧ printC M = 0 ∧ (((printT L).toList.isEmpty = true ∨ ((printT L).toList.isEmpty = false ∧ (printT M).toList.isEmpty = true)) ∧ printT (L ++ M) = printT L ++ printT M ∨
      ((printT L).toList.isEmpty = false ∧ (printT M).toList.isEmpty = false ∧ printT (L ++ M) = printT L ++ ⟨#[59]⟩ ++ printT M))) := by
    by_cases a1 : allW L = true
    · by_cases a2 : allW M = true
      · refine .inr ⟨?_, if_pos a1, if_pos a2, ?_⟩
        · exact if_pos (by rw [allW_app, a1, a2]; rfl)
        · rcases joinT a1 a2 with ⟨_, x, y⟩ | x
          · exact .inl ⟨x, y⟩
          · exact .inr x
      · have e : allW (L ++ M) = false := by rw [allW_app]; simp [a2]
        refine .inl ⟨if_neg (by rw [e]; decide), ?_, .inr ⟨if_pos a1, if_neg a2⟩⟩
        unfold printT
        rw [if_neg (by rw [e]; decide)]
        rfl
    · have e : allW (L ++ M) = false := by rw [allW_app]; simp [a1]
      refine .inl ⟨if_neg (by rw [e]; decide), ?_, .inl (if_neg a1)⟩
      unfold printT
      rw [if_neg (by rw [e]; decide)]
      rfl
  have HE := hide HEND
  clear hn hm h1 h2 hk hr hr2 hF hF2 hz hz2 q1 q2 q3 l1 l2 v1 v2 v3 v4 v5 u1 u2 u3 u4 u5 lm HEND
  obtain ⟨ta, hta⟩ : ∃ t, printT L = t := ⟨_, rfl⟩
  obtain ⟨tb, htb⟩ : ∃ t, printT M = t := ⟨_, rfl⟩
  obtain ⟨tc, htc⟩ : ∃ t, printT (L ++ M) = t := ⟨_, rfl⟩
  obtain ⟨ca, hca⟩ : ∃ t, printC L = t := ⟨_, rfl⟩
  obtain ⟨cb2, hcb⟩ : ∃ t, printC M = t := ⟨_, rfl⟩
  obtain ⟨cc, hcc⟩ : ∃ t, printC (L ++ M) = t := ⟨_, rfl⟩
  rw [hta, hca] at CP
  rw [htb, hcb] at CQ
  rw [htc, hcc] at CR
  rw [hta] at s1
  rw [htb] at s2
  rw [hta, htb, htc, hca, hcb, hcc] at HE
  clear hta htb htc hca hcb hcc
  go_enter Tryd.func6, Tryd.ntmps6
  go_upto_region 6 with (first
    | (go_at_call 7; (with_reducible refine (CL _ (Below.refl _ _)).mono ?_); rintro e w1 ⟨rfl, b1⟩; have B1 := hide b1)
    | (go_at_call 8; (with_reducible refine (CF _ B1.out).mono ?_); rintro e w2 ⟨rfl, b2⟩; have B2 := hide (bt B1.out b2); clear B1)
    | (go_at_call 8; (with_reducible refine (CG _ B2.out).mono ?_); rintro e w3 ⟨rfl, b3⟩; have B3 := hide (bt B2.out b3); clear B2)
    | (go_at_call 15; (with_reducible refine (CP _ B3.out).mono ?_); rintro e w4 ⟨rfl, b4⟩; have B4 := hide (bt B3.out b4); clear B3)
    | (go_at_call 15; (with_reducible refine (CQ _ B4.out).mono ?_); rintro e w5 ⟨rfl, b5⟩; have B5 := hide (bt B4.out b5); have S5 := B5.out.size; clear B4)
    | (at_builtin; refine wpList_append_recs _ rfl (.tmp 44) _ 22 rfl w.heap.size 30 i0 (.agg #[.int .i64 0, .int .i64 0, .int .i64 0, .int .i64 0, .slice none 0 0, .slice none 0 0, .int .i64 0, .int .i64 0, .int .i64 0]) 9 104 Tryd.underlying22 hi hz0 hz1 hz3 rfl (by decide) (.slice (some ⟨w5.heap.size, 0, none⟩) 0 0) [] rfl ⟨World.ownsRow_lit w5 #[] 0 S5 (by unfold maxLen; omega) (by simp), fun _ h => by cases h⟩ ad n cap vs rfl V1.out V2.out V3.out (HV.out.below (ba B5.out _)) HZ.out (by simp; unfold maxLen; omega) (by simp; omega) (by simp; omega) ?_; intro v6 w6 o6 g6
       have B6 := hide ((ba B5.out _).grown g6 (by simp; omega) (fun g hg => by cases hg; exact S5)); have O6 := hide o6; clear o6 g6)
    | (at_builtin; refine wpList_append_recs _ rfl (.tmp 46) _ 22 rfl w.heap.size 30 i0 (.agg #[.int .i64 0, .int .i64 0, .int .i64 0, .int .i64 0, .slice none 0 0, .slice none 0 0, .int .i64 0, .int .i64 0, .int .i64 0]) 9 104 Tryd.underlying22 hi hz0 hz1 hz3 rfl (by decide) v6 ([] ++ vs) rfl O6.out ad2 m cap2 us rfl U1.out U2.out U3.out (HU.out.below B6.out) HZ2.out (by rw [List.nil_append, V1.out]; unfold maxLen; omega) (by rw [List.nil_append, V1.out]; omega) B6.out.size ?_; intro v7 w7 o7 g7
       have B7 := hide (B6.out.grown g7 B6.out.size (fun g hg => (World.ownsRow.lt O6.out.1 g hg).1))
       obtain ⟨ad7, cap7, e7, r7, z7⟩ := HSO.out w7 v7 o7 B7.out
       subst e7
       have R7 := hide r7; clear o7 g7 r7)
    | (go_at_call 15; (with_reducible refine (CR _ _ _ B7.out R7.out).mono ?_); rintro e w8 ⟨rfl, b8⟩; have B8 := hide (bt B7.out b8)))
  have n1 : ¬ (9223372036854775807 < ta.size + 1) := by omega
  have n2 : ¬ (9223372036854775807 < ta.size + 1 + tb.size) := by omega
  have n3 : ¬ (9223372036854775807 < ta.size + tb.size) := by omega
  rcases HE.out with ⟨rfl, rfl, rfl | ⟨rfl, rfl⟩⟩ | ⟨rfl, rfl, rfl, ⟨e1 | ⟨e1, e2⟩, rfl⟩ | ⟨e1, e2, rfl⟩⟩
  all_goals
    clear HE
    go_wp2
    exact bodyPost_ret (v := .bool true) (by simp [results, Tryd.results6, go_sem]) rfl ⟨rfl, B8.out⟩
theorem joins_main (L M : List Opr) (n m : Nat) (hn : L.length = n) (hm : M.length = m) (h1 : n ≤ maxLen) (h2 : m ≤ maxLen) (ad ad2 : Option Addr) (cap cap2 : Nat) (w : World) (hk : KW w) (hr : OpsAt w ad L) (hr2 : OpsAt w ad2 M) (hF : OpsFit L) (hF2 : OpsFit M) (hz : ad = none → cap = 0) (hz2 : ad2 = none → cap2 = 0) :
    Calls Tryd.prog 6 #[.slice ad n cap, .slice ad2 m cap2] w fun e w' => e = .returned (.bool true) ∧ Below w.heap.size w w' := by
  by_cases h : fewB L n = true ∧ fewB M m = true ∧ n + m ≤ 20
  · exact joins_yes L M n m hn hm h1 h2 ad ad2 cap cap2 w hk hr hr2 hF hF2 hz hz2 h
  · exact joins_no L M n m hn hm h1 h2 ad ad2 cap cap2 w hk hr hr2 h
end Go.Proofs.YtlknopmpbkepjaaDoor

/- Operations as texts: the tables out of what the rows list; the law on signs, of memory that holds these. -/
namespace Go.Proofs.YtlknopmpbkepjaaDoor
open Go.ChangeShapes Go.WideShapes Go.ChangeAt Go.WideMaps Go.WideElems Go.RowKit


theorem gPow13 : Tryd.prog.globalNamed "internal/strconv.uint64pow10" = some 4 := by kernel_rfl
theorem tPow13 : (Tryd.prog.globals[4]?).map (·.type) = some 125 := by kernel_rfl
theorem powData13 {H : Type} : (Rows.laid_internal_strconv_uint64pow10 : DataW H) = Go.Lib.tabData .u64 Go.Lib.pow10Tab := rfl
def dLaid13 {H : Type} : List (String × DataW H) := [("math/bits.deBruijn32tab", Rows.laid_math_bits_deBruijn32tab), ("math/bits.deBruijn64tab", Rows.laid_math_bits_deBruijn64tab), ("internal/strconv.uint64pow10", Rows.laid_internal_strconv_uint64pow10), ("smalto/border.names", Rows.laid_smalto_border_names), ("smalto/raw.kinds", Rows.laid_smalto_raw_kinds)]
theorem door_met13 (os : Os) (args : Array Value) : laidMetH Tryd.prog dLaid13 ((World.doorLaid Tryd.prog 400 os).forCall (fun _ _ => 0) ⟨#[], args, []⟩).memory :=
  laidMetH_of_parts3 (fuel := 8) (laidMet_of_run' 8 (by kernel_rfl) (by kernel_rfl)) (by kernel_rfl) (by kernel_rfl)
theorem kw_of_laid {W : World} (h : laidMetH Tryd.prog dLaid13 W) : KW W := by
  rw [MakeChecks.laidMetH_plain _ _ _ (by kernel_rfl)] at h
  obtain ⟨ps, ⟨g0, t0, cs0, f0, p0, q0, hg0, ht0, hv0, hd0, ⟨g1, t1, cs1, f1, p1, q1, hg1, ht1, hv1, hd1, ⟨g2, t2, cs2, f2, p2, q2, hg2, ht2, hv2, hd2, ⟨g3, t3, cs3, f3, p3, q3, hg3, ht3, hv3, hd3, ⟨g4, t4, cs4, f4, p4, q4, hg4, ht4, hv4, hd4, _, _⟩, _⟩, _⟩, _⟩, _⟩, _, _⟩ := h
  obtain rfl := Option.some.inj (gPow13.symm.trans hg2)
  obtain rfl := Option.some.inj (tPow13.symm.trans ht2)
  rw [powData13] at hd2
  have e := Go.Lib.cells_of_tab (n := 20) Tryd.underlying125 Tryd.underlying98 (by kernel_rfl) (by kernel_rfl) hd2
  obtain rfl := Option.some.inj (gNamesE.symm.trans hg3)
  obtain rfl := Option.some.inj (tNamesE.symm.trans ht3)
  obtain rfl := names_cells hd3
  obtain rfl := Option.some.inj (gKinds.symm.trans hg4)
  obtain rfl := Option.some.inj (tKinds.symm.trans ht4)
  obtain rfl := kinds_cells hd4
  refine ⟨?_, ⟨World.var?_cell hg4 hv4 0, World.var?_cell hg4 hv4 1, World.var?_cell hg4 hv4 2, World.var?_cell hg4 hv4 3, World.var?_cell hg4 hv4 4, World.var?_cell hg4 hv4 5⟩, World.var?_cell hg3 hv3 0, World.var?_cell hg3 hv3 1, World.var?_cell hg3 hv3 2⟩
  unfold Pow10 Go.Lib.TabIs
  rw [hv2, ← e]
def OpsBoth13 (w : World) (ad : Option Addr) (L : List Opr) : Prop := OpsAt w ad L ∧ OpsFit L
theorem law_RecipeJoins (L : List Opr) (ad : Option Addr) (cap : Nat) (M : List Opr) (ad2 : Option Addr) (cap2 : Nat) (w : World) (hk : KW w) (hr : OpsBoth13 w ad L) (h1 : L.length ≤ maxLen) (hz : ad = none → cap = 0) (hr2 : OpsBoth13 w ad2 M) (h2 : M.length ≤ maxLen) (hz2 : ad2 = none → cap2 = 0) :
    Calls Tryd.prog 6 #[.slice ad L.length cap, .slice ad2 M.length cap2] w fun e w' => e = .returned (.bool true) ∧ Below w.heap.size w w' := joins_main L M _ _ rfl rfl h1 h2 ad ad2 cap cap2 w hk hr.1 hr2.1 hr.2 hr2.2 hz hz2
theorem law_RecipeSigns (k : Int) (w : World) (hk : KW w) (_ : -9223372036854775808 ≤ k ∧ k ≤ 9223372036854775807) :
    Calls Tryd.prog 5 #[.int .i64 k] w fun e w' => e = .returned (.bool true) ∧ Below w.heap.size w w' := signs_main k w hk
end Go.Proofs.YtlknopmpbkepjaaDoor

/- Operations as texts: the program's Clean; what is the same. -/
namespace Go.Proofs.YtlknopmpbkepjaaDoor
open Go.RowKit


/-- Nine cells that may be written. -/
def F9 (w : World) (b : Nat) : Prop :=
  w.frozen? ⟨b, 0, none⟩ = false ∧ w.frozen? ⟨b, 1, none⟩ = false ∧ w.frozen? ⟨b, 2, none⟩ = false ∧ w.frozen? ⟨b, 3, none⟩ = false ∧ w.frozen? ⟨b, 4, none⟩ = false ∧ w.frozen? ⟨b, 5, none⟩ = false ∧ w.frozen? ⟨b, 6, none⟩ = false ∧ w.frozen? ⟨b, 7, none⟩ = false ∧ w.frozen? ⟨b, 8, none⟩ = false ∧ b < w.heap.size
theorem F9.new (w : World) (cs : Array Value) (T : TypeId) : F9 (w.alloc (.cells cs T)) w.heap.size := by
  unfold F9
  simp
theorem F9.below {w w' : World} {b : Nat} (h : F9 w b) (hb : Below w.heap.size w w') : F9 w' b := by
  obtain ⟨f0, f1, f2, f3, f4, f5, f6, f7, f8, hl⟩ := h
  exact ⟨fb hb hl f0, fb hb hl f1, fb hb hl f2, fb hb hl f3, fb hb hl f4, fb hb hl f5, fb hb hl f6, fb hb hl f7, fb hb hl f8, Nat.lt_of_lt_of_le hl hb.size⟩
/-- A row of numbers in a block of so high a number. -/
def RowNew (w : World) (B : Nat) (ad : Option Addr) (xs : List Int) : Prop := RowAt .i64 w ad xs ∧ ∀ a, ad = some a → B ≤ a.block ∧ a.block < w.heap.size
theorem RowNew.below {w w' : World} {B : Nat} {ad : Option Addr} {xs : List Int} (h : RowNew w B ad xs) (hb : Below w.heap.size w w') : RowNew w' B ad xs := ⟨h.1.below hb, fun a e => ⟨(h.2 a e).1, Nat.lt_of_lt_of_le (h.2 a e).2 hb.size⟩⟩
theorem RowNew.mono {w : World} {B B' : Nat} {ad : Option Addr} {xs : List Int} (h : RowNew w B ad xs) (hb : B' ≤ B) : RowNew w B' ad xs := ⟨h.1, fun a e => ⟨Nat.le_trans hb (h.2 a e).1, (h.2 a e).2⟩⟩
theorem RowNew.set {w : World} {B : Nat} {ad : Option Addr} {xs : List Int} (h : RowNew w B ad xs) {b : Nat} (hb : b < B) (o : Nat) (u : Value) : RowNew (w.setCell ⟨b, o, none⟩ u) B ad xs := by
  refine ⟨?_, fun a e => ⟨(h.2 a e).1, by simpa [World.setCell] using (h.2 a e).2⟩⟩
  rcases h.1 with e | ⟨g, off, e, c⟩
  · exact .inl e
  · have hg := (h.2 _ e).1
    refine .inr ⟨g, off, e, fun j hj => ?_⟩
    rw [World.cell?_setCell_other _ _ _ _ (by intro e'; simp only [Addr.mk.injEq] at e'; simp only at hg; omega)]
    exact c j hj
theorem row_set11 {w : World} {B b c : Nat} {ad : Option Addr} {xs : List Int} (h : RowNew w B ad xs) (hb : b < B) (hc : c < B) (i j : Nat) (x y v0 v1 v2 v3 v4 v5 v6 v7 v8 : Value) : RowAt .i64 (((((((((((w.setCell ⟨c, i, none⟩ x).setCell ⟨c, j, none⟩ y).setCell ⟨b, 0, none⟩ v0).setCell ⟨b, 1, none⟩ v1).setCell ⟨b, 2, none⟩ v2).setCell ⟨b, 3, none⟩ v3).setCell ⟨b, 4, none⟩ v4).setCell ⟨b, 5, none⟩ v5).setCell ⟨b, 6, none⟩ v6).setCell ⟨b, 7, none⟩ v7).setCell ⟨b, 8, none⟩ v8) ad xs :=
  (((((((((((h.set hc i x).set hc j y).set hb 0 v0).set hb 1 v1).set hb 2 v2).set hb 3 v3).set hb 4 v4).set hb 5 v5).set hb 6 v6).set hb 7 v7).set hb 8 v8).1
theorem below_set11 {B b c : Nat} {w0 w : World} (h : Below B w0 w) (hb : B ≤ b) (hc : B ≤ c) (i j : Nat) (x y v0 v1 v2 v3 v4 v5 v6 v7 v8 : Value) : Below B w0 (((((((((((w.setCell ⟨c, i, none⟩ x).setCell ⟨c, j, none⟩ y).setCell ⟨b, 0, none⟩ v0).setCell ⟨b, 1, none⟩ v1).setCell ⟨b, 2, none⟩ v2).setCell ⟨b, 3, none⟩ v3).setCell ⟨b, 4, none⟩ v4).setCell ⟨b, 5, none⟩ v5).setCell ⟨b, 6, none⟩ v6).setCell ⟨b, 7, none⟩ v7).setCell ⟨b, 8, none⟩ v8) :=
  (((((((((((h.setCell (p := ⟨c, i, none⟩) hc x).setCell (p := ⟨c, j, none⟩) hc y).setCell (p := ⟨b, 0, none⟩) hb v0).setCell (p := ⟨b, 1, none⟩) hb v1).setCell (p := ⟨b, 2, none⟩) hb v2).setCell (p := ⟨b, 3, none⟩) hb v3).setCell (p := ⟨b, 4, none⟩) hb v4).setCell (p := ⟨b, 5, none⟩) hb v5).setCell (p := ⟨b, 6, none⟩) hb v6).setCell (p := ⟨b, 7, none⟩) hb v7).setCell (p := ⟨b, 8, none⟩) hb v8)
theorem own_new {T : TypeId} {w : World} {base n : Nat} {v : Value} {xs : List Int} (h : OwnI .i64 T w base v xs) (hn : xs.length = n) : ∃ ad cap, v = .slice ad n cap ∧ RowNew w base ad xs ∧ (ad = none → cap = 0) := by
  subst hn
  obtain ⟨ad, cap, h1, h2, h3, h4, _⟩ := h.form
  exact ⟨ad, cap, h1, ⟨h2, fun a e => by obtain ⟨g, rfl, h5, h6⟩ := h4 a e; exact ⟨h5, h6⟩⟩, fun e => (h3 e).2⟩
theorem copied_any (xs : List Int) (n : Nat) (hn : xs.length = n) (h1 : n ≤ 1000000) (ad : Option Addr) (cap : Nat) (w : World) (hr : RowAt .i64 w ad xs) (hz : ad = none → cap = 0) :
    Calls Tryd.prog 29 #[.slice ad n cap] w fun e w' => (∃ ad' cap', e = .returned (.slice ad' n cap') ∧ RowNew w' w.heap.size ad' xs ∧ (ad' = none → cap' = 0)) ∧ Below w.heap.size w w' := by
  obtain ⟨i0, hi, hz0, hz1, hz2⟩ := info_parts infoI64Q
  have HN := hide hn
  have HR := hide hr
  have HZ := hide hz
  clear hn hr hz
  go_enter Tryd.func29, Tryd.ntmps29
  go_wp2_with (at_builtin; refine wpList_append_row .i64 _ rfl _ _ 27 rfl w.heap.size 2 i0 (.int .i64 0) 8 Tryd.underlying27 hi hz0 hz1 hz2 rfl (.slice none 0 0) [] rfl (OwnI.nil _ _ _ _) ad n cap xs rfl HN.out HR.out HZ.out (by simp; unfold maxLen; omega) (by simp; omega) (Nat.le_refl _) ?_; intro v2 w2 o2 g2 _)
  obtain ⟨ad', cap', rfl, r2, z2⟩ := own_new o2 HN.out
  have B2 := (Below.refl w.heap.size w).grown g2 (Nat.le_refl _) (fun g hg => by cases hg)
  have HA := hide (And.intro r2 (And.intro z2 B2))
  clear o2 g2 r2 z2 B2
  go_wp2
  go_ret
  exact ⟨⟨_, _, rfl, HA.out.1, HA.out.2.1⟩, HA.out.2.2⟩
set_option maxHeartbeats 4000000 in
set_option maxRecDepth 100000 in
theorem clean_two (o : Opr) (ax : Option Addr) (cx : Nat) (ay : Option Addr) (cy : Nat) (w : World) (hA : OpAt w o ax cx ay cy) (l1 : o.xs.length ≤ 1000000) (l2 : o.ys.length ≤ 1000000) (k2 : o.kd = 2) :
    Calls Tryd.prog 13 #[opV o ax cx ay cy] w fun e w' => (∃ bx dx by_ dy, e = .returned (opV (clnO o) bx dx by_ dy) ∧ OpAt w' (clnO o) bx dx by_ dy) ∧ Below w.heap.size w w' := by
  have CX := fun w' (b : Below w.heap.size w w') => copied_any o.xs o.xs.length rfl l1 ax cx w' (hA.1.below b) hA.2.2.1
  have CY := fun w' (b : Below w.heap.size w w') => copied_any o.ys o.ys.length rfl l2 ay cy w' (hA.2.1.below b) hA.2.2.2
  clear hA
  unfold opV clnO
  obtain ⟨kd, bo, sg, rd, xs, ys, fl, wd, ht⟩ := o
  simp only at *
  subst k2
  simp only [Int.reduceEq, if_true, if_false]
  generalize hnx : xs.length = nx at *
  generalize hny : ys.length = ny at *
  go_enter Tryd.func13, Tryd.ntmps13
  go_upto_region 8 with fail
  obtain ⟨WA, hWA⟩ : ∃ W, w.alloc (.cells #[.int .i64 2, .int .i64 bo, .int .i64 sg, .int .i64 rd, .slice ax nx cx, .slice ay ny cy, .int .i64 fl, .int .i64 wd, .int .i64 ht] 30) = W := ⟨_, rfl⟩
  obtain ⟨WZ, hWZ⟩ : ∃ W, WA.alloc (.cells #[.int .i64 0, .int .i64 0, .int .i64 0, .int .i64 0, .slice none 0 0, .slice none 0 0, .int .i64 0, .int .i64 0, .int .i64 0] 30) = W := ⟨_, rfl⟩
  obtain ⟨W0, hW0⟩ : ∃ W, WZ.alloc (.cells #[.int .i64 2, .int .i64 bo, .int .i64 0, .int .i64 0, .slice none 0 0, .slice none 0 0, .int .i64 0, .int .i64 0, .int .i64 0] 30) = W := ⟨_, rfl⟩
  have sA : WA.heap.size = w.heap.size + 1 := by rw [← hWA, World.size_alloc]
  have sZ : WZ.heap.size = w.heap.size + 1 + 1 := by rw [← hWZ, World.size_alloc, sA]
  have HS0 := hide (show w.heap.size + 1 + 1 + 1 ≤ W0.heap.size by rw [← hW0, World.size_alloc, sZ]; exact Nat.le_refl _)
  have pA : P9 WA w.heap.size 2 bo sg rd (.slice ax nx cx) (.slice ay ny cy) fl wd ht := by rw [← hWA]; exact P9.new w 30 _ _ _ _ _ _ _ _ _
  have pZ : P9 WZ (w.heap.size + 1) 0 0 0 0 (.slice none 0 0) (.slice none 0 0) 0 0 0 ∧ F9 WZ (w.heap.size + 1) := by rw [← sA, ← hWZ]; exact ⟨P9.new WA 30 _ _ _ _ _ _ _ _ _, F9.new _ _ _⟩
  have pC : P9 W0 (w.heap.size + 1 + 1) 2 bo 0 0 (.slice none 0 0) (.slice none 0 0) 0 0 0 ∧ F9 W0 (w.heap.size + 1 + 1) := by rw [← sZ, ← hW0]; exact ⟨P9.new WZ 30 _ _ _ _ _ _ _ _ _, F9.new _ _ _⟩
  have bA : Below WA.heap.size WA W0 := by rw [← hW0, ← hWZ]; exact ba (below1 _ _) _
  have bZ : Below WZ.heap.size WZ W0 := by rw [← hW0]; exact below1 _ _
  have HB0 := hide (show Below w.heap.size w W0 by rw [← hW0, ← hWZ, ← hWA]; exact ba (ba (below1 _ _) _) _)
  have HAll := hide (fun (w' : World) (b : Below W0.heap.size W0 w') => show P9 w' w.heap.size 2 bo sg rd (.slice ax nx cx) (.slice ay ny cy) fl wd ht ∧ (P9 w' (w.heap.size + 1) 0 0 0 0 (.slice none 0 0) (.slice none 0 0) 0 0 0 ∧ F9 w' (w.heap.size + 1)) ∧ P9 w' (w.heap.size + 1 + 1) 2 bo 0 0 (.slice none 0 0) (.slice none 0 0) 0 0 0 ∧ F9 w' (w.heap.size + 1 + 1) from
    ⟨(pA.below bA).below b, ⟨(pZ.1.below bZ).below b, (pZ.2.below bZ).below b⟩, pC.1.below b, pC.2.below b⟩)
  simp only [hWA]
  simp only [hWZ]
  simp only [hW0]
  clear hWA hWZ hW0 sA sZ pZ pC bZ
  obtain ⟨_, _, _, _, g4, g5, _, _, _⟩ := pA.below bA
  clear pA bA
  go_region_with (first
    | (go_at_call 29; (with_reducible refine (CX _ (bd HB0.out)).mono ?_); rintro e w2 ⟨⟨bx, dx, rfl, rx, zx⟩, b2⟩; have B2 := hide (bt (bd (Below.refl W0.heap.size W0)) b2); have RX := hide (And.intro (rx.mono (show w.heap.size + 1 + 1 + 1 ≤ W0.heap.size from HS0.out)) zx); obtain ⟨⟨_, _, _, _, y4, y5, _, _, _⟩, _⟩ := HAll.out _ B2.out; clear rx zx b2 CX g4 g5)
    | (go_at_call 29; (with_reducible refine (CY _ (bt HB0.out B2.out)).mono ?_); rintro e w4 ⟨⟨by_, dy, rfl, ry, zy⟩, b4⟩; have B4 := hide (bt B2.out b4); have R4 := hide (And.intro (RX.out.1.below b4) (And.intro (ry.mono (show w.heap.size + 1 + 1 + 1 ≤ w2.heap.size from Nat.le_trans HS0.out B2.out.size)) (And.intro RX.out.2 zy))); obtain ⟨_, ⟨⟨z0, z1, z2, z3, z4, z5, z6, z7, z8⟩, q0, q1, q2, q3, q4, q5, q6, q7, q8⟩, ⟨c0, c1, c2, c3, c4, c5, c6, c7, c8⟩, f0, f1, f2, f3, f4, f5, f6, f7, f8⟩ := HAll.out _ B4.out; clear ry zy b4 CY y4 y5))
  all_goals
    have BZ := hide (bt HB0.out B4.out)
    have HS := hide (show w.heap.size ≤ w.heap.size + 1 ∧ w.heap.size ≤ w.heap.size + 1 + 1 ∧ w.heap.size + 1 < w.heap.size + 1 + 1 + 1 ∧ w.heap.size + 1 + 1 < w.heap.size + 1 + 1 + 1 by omega)
    clear HAll HB0 HS0 RX
    go_wp2
    obtain ⟨rx, ry, zx, zy⟩ := R4.out
    obtain ⟨h1, h2, h3, h4⟩ := HS.out
    subst hnx hny
    exact bodyPost_ret (v := .agg #[.int .i64 2, .int .i64 bo, .int .i64 0, .int .i64 0, .slice bx xs.length dx, .slice by_ ys.length dy, .int .i64 0, .int .i64 0, .int .i64 0]) (by simp [results, Tryd.results13, go_sem, z0, z1, z2, z3, z4, z5, z6, z7, z8]) rfl
      ⟨⟨bx, dx, by_, dy, rfl, row_set11 rx h3 h4 _ _ _ _ _ _ _ _ _ _ _ _ _, row_set11 ry h3 h4 _ _ _ _ _ _ _ _ _ _ _ _ _, zx, zy⟩, below_set11 BZ.out h1 h2 _ _ _ _ _ _ _ _ _ _ _ _ _⟩
end Go.Proofs.YtlknopmpbkepjaaDoor
