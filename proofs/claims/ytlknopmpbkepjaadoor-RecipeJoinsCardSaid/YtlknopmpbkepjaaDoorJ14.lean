/- Parts, joined. -/
import Derived.Test.YtlknopmpbkepjaaDoorJ13
import Derived.Test.YtlknopmpbkepjaaDoorJ01
import Derived.Test.YtlknopmpbkepjaaDoorRows
import Derived.ProofKit
import Derived.LaidMore
import Derived.OpenShut
/- Operations as texts: the law on rows that are joined. -/
namespace Go.Proofs.YtlknopmpbkepjaaDoor
open Go.RowKit


/-- Cells of records that lie in memory. -/
def RecsIn (w : World) (ad : Option Addr) (n : Nat) (vs : List (List Value)) : Prop := ∀ j, j < n → ∃ b off, ad = some ⟨b, off, none⟩ ∧ ∀ q, q < 9 → w.cell? ⟨b, off + j * 9 + q, none⟩ = some (recAt vs j q)
theorem RecsIn.below {w w' : World} {ad : Option Addr} {n : Nat} {vs : List (List Value)} (h : RecsIn w ad n vs) (hb : Below w.heap.size w w') : RecsIn w' ad n vs := fun j hj => by
  obtain ⟨b, off, e, c⟩ := h j hj
  exact ⟨b, off, e, fun q hq => cb hb (cell_ltL (c q hq)) (c q hq)⟩
theorem fit_of {o : Opr} (h : OpFits o) : FitW o := by
  refine ⟨fun x hx => ?_, fun x hx => ?_, fun x hx => ?_⟩
  · simp only [List.mem_cons, List.not_mem_nil, or_false] at hx
    rcases hx with rfl | rfl | rfl | rfl | rfl
    · exact h.sg
    · exact h.rd
    · exact h.fl
    · exact h.wd
    · exact h.ht
  · obtain ⟨j, hj, rfl⟩ := List.getElem_of_mem hx
    have := h.xs.all j hj
    rwa [List.getD_eq_getElem?_getD, List.getElem?_eq_getElem hj] at this
  · obtain ⟨j, hj, rfl⟩ := List.getElem_of_mem hx
    have := h.ys.all j hj
    rwa [List.getD_eq_getElem?_getD, List.getElem?_eq_getElem hj] at this
theorem lit_of {L : List Opr} {n : Nat} (hF : OpsFit L) (h : fewB L n = true) : ∀ o ∈ L, LitW o := fun o ho => by
  obtain ⟨_, h2⟩ := few_iff h
  obtain ⟨a, b⟩ := h2 o ho
  obtain ⟨j, hj, rfl⟩ := List.getElem_of_mem ho
  have := hF j hj
  unfold opAt at this
  rw [List.getD_eq_getElem?_getD, List.getElem?_eq_getElem hj] at this
  exact ⟨fit_of this, by omega, by omega⟩
theorem print_size {L : List Opr} (h : ∀ o ∈ L, LitW o) (n : Nat) (hn : L.length ≤ n) : (printT L).size ≤ 42062 * n := by
  have h2 := print_len (L := L) 42061 (fun o ho => by
    obtain ⟨f, q1, q2⟩ := h o ho
    have := word_len f
    omega)
  have h3 : 42062 * L.length ≤ 42062 * n := Nat.mul_le_mul_left _ hn
  unfold printT
  split
  · rw [txt_size (byts_print L)]; omega
  · rw [txt_nil]; exact Nat.zero_le _
theorem allW_app (L M : List Opr) : allW (L ++ M) = (allW L && allW M) := by unfold allW; rw [List.all_append]
/-- The text of two rows. -/
theorem joinT {L M : List Opr} (hl : allW L = true) (hm : allW M = true) :
    ((L = [] ∨ M = []) ∧ ((printT L).toList.isEmpty = true ∨ ((printT L).toList.isEmpty = false ∧ (printT M).toList.isEmpty = true)) ∧ printT (L ++ M) = printT L ++ printT M) ∨
    ((printT L).toList.isEmpty = false ∧ (printT M).toList.isEmpty = false ∧ printT (L ++ M) = printT L ++ ⟨#[59]⟩ ++ printT M) := by
  have ha : allW (L ++ M) = true := by rw [allW_app, hl, hm]; rfl
  have e1 : printT L = txt (printB L) := by unfold printT; rw [if_pos hl]
  have e2 : printT M = txt (printB M) := by unfold printT; rw [if_pos hm]
  have e3 : printT (L ++ M) = txt (printB (L ++ M)) := by unfold printT; rw [if_pos ha]
  rw [e1, e2, e3]
  by_cases h1 : L = []
  · subst h1
    refine .inl ⟨.inl rfl, .inl (by rw [txt_isEmpty (byts_print _)]; rfl), ?_⟩
    rw [txt_app (byts_print _) (byts_print _)]
    rfl
  by_cases h2 : M = []
  · subst h2
    refine .inl ⟨.inr rfl, .inr ⟨isEmpty_no (byts_print _) (printB_ne h1), by rw [txt_isEmpty (byts_print _)]; rfl⟩, ?_⟩
    rw [txt_app (byts_print _) (byts_print _), List.append_nil]
    show _ = txt (printB L ++ [])
    rw [List.append_nil]
  · refine .inr ⟨isEmpty_no (byts_print _) (printB_ne h1), isEmpty_no (byts_print _) (printB_ne h2), ?_⟩
    rw [printB_app h1 h2, show (⟨#[59]⟩ : ByteArray) = txt [59] from rfl, txt_app (byts_print _) (byts_one (by decide) (by decide)), txt_app (byts_app (byts_print _) (byts_one (by decide) (by decide))) (byts_print _), List.append_assoc]
    rfl
set_option maxHeartbeats 4000000 in
set_option maxRecDepth 100000 in
theorem joins_no (L M : List Opr) (n m : Nat) (hn : L.length = n) (hm : M.length = m) (h1 : n ≤ maxLen) (h2 : m ≤ maxLen) (ad ad2 : Option Addr) (cap cap2 : Nat) (w : World) (hk : KW w) (hr : OpsAt w ad L) (hr2 : OpsAt w ad2 M)
    (h : ¬ (fewB L n = true ∧ fewB M m = true ∧ n + m ≤ 20)) :
    Calls Tryd.prog 6 #[.slice ad n cap, .slice ad2 m cap2] w fun e w' => e = .returned (.bool true) ∧ Below w.heap.size w w' := by
  have CL := fun w' (b : Below w.heap.size w w') => lives13_any w' (kw_below hk b)
  have CF := fun w' (b : Below w.heap.size w w') => few_any L n hn h1 ad cap w' (hr.below b)
  have CG := fun w' (b : Below w.heap.size w w') => few_any M m hm h2 ad2 cap2 w' (hr2.below b)
  have hf1 : fewB L n = true → n ≤ 20 := fun e => (few_iff e).1
  have hf2 : fewB M m = true → m ≤ 20 := fun e => (few_iff e).1
  clear hr hr2 hk hn hm
  generalize fewB L n = fl at *
  generalize fewB M m = fm at *
  cases fl with
  | false =>
    clear h hf1 hf2 CG
    go_enter Tryd.func6, Tryd.ntmps6
    go_wp2_with (first
      | (go_at_call 8; (with_reducible refine (CF _ B1.out).mono ?_); rintro e w2 ⟨rfl, b2⟩; have B2 := hide (bt B1.out b2); clear B1)
      | (go_at_call 7; (with_reducible refine (CL _ B2.out).mono ?_); rintro e w3 ⟨rfl, b3⟩)
      | (go_at_call 7; (with_reducible refine (CL _ (Below.refl _ _)).mono ?_); rintro e w1 ⟨rfl, b1⟩; have B1 := hide b1))
    exact bodyPost_ret (v := .bool true) (by simp [results, Tryd.results6, go_sem]) rfl ⟨rfl, bt B2.out b3⟩
  | true =>
    have hn2 := hf1 rfl
    cases fm with
    | false =>
      clear h hf1 hf2
      go_enter Tryd.func6, Tryd.ntmps6
      go_wp2_with (first
        | (go_at_call 8; (with_reducible refine (CF _ B1.out).mono ?_); rintro e w2 ⟨rfl, b2⟩; have B2 := hide (bt B1.out b2); clear B1)
        | (go_at_call 8; (with_reducible refine (CG _ B2.out).mono ?_); rintro e w3 ⟨rfl, b3⟩; have B3 := hide (bt B2.out b3); clear B2)
        | (go_at_call 7; (with_reducible refine (CL _ B3.out).mono ?_); rintro e w4 ⟨rfl, b4⟩)
        | (go_at_call 7; (with_reducible refine (CL _ (Below.refl _ _)).mono ?_); rintro e w1 ⟨rfl, b1⟩; have B1 := hide b1))
      exact bodyPost_ret (v := .bool true) (by simp [results, Tryd.results6, go_sem]) rfl ⟨rfl, bt B3.out b4⟩
    | true =>
      have hm2 := hf2 rfl
      have hs : (20 : Int) < (n : Int) + (m : Int) := by
        have : ¬ (n + m ≤ 20) := fun q => h ⟨rfl, rfl, q⟩
        omega
      clear h hf1 hf2
      go_enter Tryd.func6, Tryd.ntmps6
      go_wp2_with (first
        | (go_at_call 8; (with_reducible refine (CF _ B1.out).mono ?_); rintro e w2 ⟨rfl, b2⟩; have B2 := hide (bt B1.out b2); clear B1)
        | (go_at_call 8; (with_reducible refine (CG _ B2.out).mono ?_); rintro e w3 ⟨rfl, b3⟩; have B3 := hide (bt B2.out b3); clear B2)
        | (go_at_call 7; (with_reducible refine (CL _ B3.out).mono ?_); rintro e w4 ⟨rfl, b4⟩)
        | (go_at_call 7; (with_reducible refine (CL _ (Below.refl _ _)).mono ?_); rintro e w1 ⟨rfl, b1⟩; have B1 := hide b1))
      exact bodyPost_ret (v := .bool true) (by simp [results, Tryd.results6, go_sem]) rfl ⟨rfl, bt B3.out b4⟩
set_option maxHeartbeats 8000000 in
set_option maxRecDepth 100000 in
theorem joins_yes (L M : List Opr) (n m : Nat) (hn : L.length = n) (hm : M.length = m) (h1 : n ≤ maxLen) (h2 : m ≤ maxLen) (ad ad2 : Option Addr) (cap cap2 : Nat) (w : World) (hk : KW w) (hr : OpsAt w ad L) (hr2 : OpsAt w ad2 M) (hF : OpsFit L) (hF2 : OpsFit M) (hz : ad = none → cap = 0) (hz2 : ad2 = none → cap2 = 0)
    (h : fewB L n = true ∧ fewB M m = true ∧ n + m ≤ 20) :
    Calls Tryd.prog 6 #[.slice ad n cap, .slice ad2 m cap2] w fun e w' => e = .returned (.bool true) ∧ Below w.heap.size w w' := by
  obtain ⟨q1, q2, q3⟩ := h
  have l1 := lit_of hF q1
  have l2 := lit_of hF2 q2
  have n20 := (few_iff q1).1
  have m20 := (few_iff q2).1
  have CL := fun w' (b : Below w.heap.size w w') => lives13_any w' (kw_below hk b)
  have CF := fun w' (b : Below w.heap.size w w') => few_any L n hn h1 ad cap w' (hr.below b)
  have CG := fun w' (b : Below w.heap.size w w') => few_any M m hm h2 ad2 cap2 w' (hr2.below b)
  have CP := fun w' (b : Below w.heap.size w w') => print_any L n hn (by omega) ad cap w' (hr.below b) l1 (kw_below hk b)
  have CQ := fun w' (b : Below w.heap.size w w') => print_any M m hm (by omega) ad2 cap2 w' (hr2.below b) l2 (kw_below hk b)
  have lm : (L ++ M).length = n + m := by rw [List.length_append, hn, hm]
  have CR := fun ad3 cap3 w' (b : Below w.heap.size w w') (hr3 : OpsAt w' ad3 (L ++ M)) => print_any (L ++ M) (n + m) lm (by omega) ad3 cap3 w' hr3 (fun o ho => (List.mem_append.1 ho).elim (l1 o) (l2 o)) (kw_below hk b)
  have s1 := print_size l1 20 (by omega)
  have s2 := print_size l2 20 (by omega)
  rw [q1] at CF
  rw [q2] at CG
  have hqs : ¬ ((20 : Int) < (n : Int) + (m : Int)) := by omega
  obtain ⟨vs, v1, v2, v3, v4, v5⟩ := ops_cells hn hr
  obtain ⟨us, u1, u2, u3, u4, u5⟩ := ops_cells hm hr2
  have HV := hide (show RecsIn w ad n vs from v4)
  have HU := hide (show RecsIn w ad2 m us from u4)
  have V1 := hide v1
  have V2 := hide v2
  have V3 := hide v3
  have U1 := hide u1
  have U2 := hide u2
  have U3 := hide u3
  have HSO := hide (fun (w7 : World) (v7 : Value) (o : OwnRec 30 9 w7 w.heap.size v7 (([] ++ vs) ++ us)) (b : Below w.heap.size w w7) => show ∃ ad7 cap7, v7 = .slice ad7 (n + m) cap7 ∧ OpsAt w7 ad7 (L ++ M) ∧ (ad7 = none → cap7 = 0) by
    have hs : RefsSo 30 w.heap.size w w7 (L ++ M) (n + m) v7 := ⟨vs ++ us, by rw [List.length_append, v1, u1], o, recs_both hn v1 v5 u5⟩
    exact hs.ops lm b)
  have HZ := hide hz
  have HZ2 := hide hz2
  obtain ⟨i0, hi, hz0, hz1, hz3⟩ := info_parts infoOpP
  have HEND : (printC (L ++ M) = 6 ∧ printT (L ++ M) = ⟨#[]⟩ ∧ (printC L = 6 ∨ (printC L = 0 ∧ printC M = 6))) ∨ (printC (L ++ M) = 0 ∧ printC L = 0 ∧ printC M = 0 ∧ (((printT L).toList.isEmpty = true ∨ ((printT L).toList.isEmpty = false ∧ (printT M).toList.isEmpty = true)) ∧ printT (L ++ M) = printT L ++ printT M ∨
      ((printT L).toList.isEmpty = false ∧ (printT M).toList.isEmpty = false ∧ printT (L ++ M) = printT L ++ ⟨#[59]⟩ ++ printT M))) := by
    by_cases a1 : allW L = true
    · by_cases a2 : allW M = true
      · refine .inr ⟨?_, if_pos a1, if_pos a2, ?_⟩
        · exact if_pos (by rw [allW_app, a1, a2]; rfl)
        · rcases joinT a1 a2 with ⟨_, x, y⟩ | x
          · exact .inl ⟨x, y⟩
          · exact .inr x
      · have e : allW (L ++ M) = false := by rw [allW_app]; simp [a2]
        refine .inl ⟨if_neg (by rw [e]; decide), ?_, .inr ⟨if_pos a1, if_neg a2⟩⟩
        unfold printT
        rw [if_neg (by rw [e]; decide)]
        rfl
    · have e : allW (L ++ M) = false := by rw [allW_app]; simp [a1]
      refine .inl ⟨if_neg (by rw [e]; decide), ?_, .inl (if_neg a1)⟩
      unfold printT
      rw [if_neg (by rw [e]; decide)]
      rfl
  have HE := hide HEND
  clear hn hm h1 h2 hk hr hr2 hF hF2 hz hz2 q1 q2 q3 l1 l2 v1 v2 v3 v4 v5 u1 u2 u3 u4 u5 lm HEND
  obtain ⟨ta, hta⟩ : ∃ t, printT L = t := ⟨_, rfl⟩
  obtain ⟨tb, htb⟩ : ∃ t, printT M = t := ⟨_, rfl⟩
  obtain ⟨tc, htc⟩ : ∃ t, printT (L ++ M) = t := ⟨_, rfl⟩
  obtain ⟨ca, hca⟩ : ∃ t, printC L = t := ⟨_, rfl⟩
  obtain ⟨cb2, hcb⟩ : ∃ t, printC M = t := ⟨_, rfl⟩
  obtain ⟨cc, hcc⟩ : ∃ t, printC (L ++ M) = t := ⟨_, rfl⟩
  rw [hta, hca] at CP
  rw [htb, hcb] at CQ
  rw [htc, hcc] at CR
  rw [hta] at s1
  rw [htb] at s2
  rw [hta, htb, htc, hca, hcb, hcc] at HE
  clear hta htb htc hca hcb hcc
  go_enter Tryd.func6, Tryd.ntmps6
  go_upto_region 6 with (first
    | (go_at_call 7; (with_reducible refine (CL _ (Below.refl _ _)).mono ?_); rintro e w1 ⟨rfl, b1⟩; have B1 := hide b1)
    | (go_at_call 8; (with_reducible refine (CF _ B1.out).mono ?_); rintro e w2 ⟨rfl, b2⟩; have B2 := hide (bt B1.out b2); clear B1)
    | (go_at_call 8; (with_reducible refine (CG _ B2.out).mono ?_); rintro e w3 ⟨rfl, b3⟩; have B3 := hide (bt B2.out b3); clear B2)
    | (go_at_call 15; (with_reducible refine (CP _ B3.out).mono ?_); rintro e w4 ⟨rfl, b4⟩; have B4 := hide (bt B3.out b4); clear B3)
    | (go_at_call 15; (with_reducible refine (CQ _ B4.out).mono ?_); rintro e w5 ⟨rfl, b5⟩; have B5 := hide (bt B4.out b5); have S5 := B5.out.size; clear B4)
    | (at_builtin; refine wpList_append_recs _ rfl (.tmp 44) _ 22 rfl w.heap.size 30 i0 (.agg #[.int .i64 0, .int .i64 0, .int .i64 0, .int .i64 0, .slice none 0 0, .slice none 0 0, .int .i64 0, .int .i64 0, .int .i64 0]) 9 104 Tryd.underlying22 hi hz0 hz1 hz3 rfl (by decide) (.slice (some ⟨w5.heap.size, 0, none⟩) 0 0) [] rfl ⟨World.ownsRow_lit w5 #[] 0 S5 (by unfold maxLen; omega) (by simp), fun _ h => by cases h⟩ ad n cap vs rfl V1.out V2.out V3.out (HV.out.below (ba B5.out _)) HZ.out (by simp; unfold maxLen; omega) (by simp; omega) (by simp; omega) ?_; intro v6 w6 o6 g6
       have B6 := hide ((ba B5.out _).grown g6 (by simp; omega) (fun g hg => by cases hg; exact S5)); have O6 := hide o6; clear o6 g6)
    | (at_builtin; refine wpList_append_recs _ rfl (.tmp 46) _ 22 rfl w.heap.size 30 i0 (.agg #[.int .i64 0, .int .i64 0, .int .i64 0, .int .i64 0, .slice none 0 0, .slice none 0 0, .int .i64 0, .int .i64 0, .int .i64 0]) 9 104 Tryd.underlying22 hi hz0 hz1 hz3 rfl (by decide) v6 ([] ++ vs) rfl O6.out ad2 m cap2 us rfl U1.out U2.out U3.out (HU.out.below B6.out) HZ2.out (by rw [List.nil_append, V1.out]; unfold maxLen; omega) (by rw [List.nil_append, V1.out]; omega) B6.out.size ?_; intro v7 w7 o7 g7
       have B7 := hide (B6.out.grown g7 B6.out.size (fun g hg => (World.ownsRow.lt O6.out.1 g hg).1))
       obtain ⟨ad7, cap7, e7, r7, z7⟩ := HSO.out w7 v7 o7 B7.out
       subst e7
       have R7 := hide r7; clear o7 g7 r7)
    | (go_at_call 15; (with_reducible refine (CR _ _ _ B7.out R7.out).mono ?_); rintro e w8 ⟨rfl, b8⟩; have B8 := hide (bt B7.out b8)))
  have n1 : ¬ (9223372036854775807 < ta.size + 1) := by omega
  have n2 : ¬ (9223372036854775807 < ta.size + 1 + tb.size) := by omega
  have n3 : ¬ (9223372036854775807 < ta.size + tb.size) := by omega
  rcases HE.out with ⟨rfl, rfl, rfl | ⟨rfl, rfl⟩⟩ | ⟨rfl, rfl, rfl, ⟨e1 | ⟨e1, e2⟩, rfl⟩ | ⟨e1, e2, rfl⟩⟩
  all_goals
    clear HE
    go_wp2
    exact bodyPost_ret (v := .bool true) (by simp [results, Tryd.results6, go_sem]) rfl ⟨rfl, B8.out⟩
theorem joins_main (L M : List Opr) (n m : Nat) (hn : L.length = n) (hm : M.length = m) (h1 : n ≤ maxLen) (h2 : m ≤ maxLen) (ad ad2 : Option Addr) (cap cap2 : Nat) (w : World) (hk : KW w) (hr : OpsAt w ad L) (hr2 : OpsAt w ad2 M) (hF : OpsFit L) (hF2 : OpsFit M) (hz : ad = none → cap = 0) (hz2 : ad2 = none → cap2 = 0) :
    Calls Tryd.prog 6 #[.slice ad n cap, .slice ad2 m cap2] w fun e w' => e = .returned (.bool true) ∧ Below w.heap.size w w' := by
  by_cases h : fewB L n = true ∧ fewB M m = true ∧ n + m ≤ 20
  · exact joins_yes L M n m hn hm h1 h2 ad ad2 cap cap2 w hk hr hr2 hF hF2 hz hz2 h
  · exact joins_no L M n m hn hm h1 h2 ad ad2 cap cap2 w hk hr hr2 h
end Go.Proofs.YtlknopmpbkepjaaDoor

/- Operations as texts: the tables out of what the rows list; the law on signs, of memory that holds these. -/
namespace Go.Proofs.YtlknopmpbkepjaaDoor
open Go.ChangeShapes Go.WideShapes Go.ChangeAt Go.WideMaps Go.WideElems Go.RowKit


theorem gPow13 : Tryd.prog.globalNamed "internal/strconv.uint64pow10" = some 4 := by kernel_rfl
theorem tPow13 : (Tryd.prog.globals[4]?).map (·.type) = some 125 := by kernel_rfl
theorem powData13 {H : Type} : (Rows.laid_internal_strconv_uint64pow10 : DataW H) = Go.Lib.tabData .u64 Go.Lib.pow10Tab := rfl
def dLaid13 {H : Type} : List (String × DataW H) := [("math/bits.deBruijn32tab", Rows.laid_math_bits_deBruijn32tab), ("math/bits.deBruijn64tab", Rows.laid_math_bits_deBruijn64tab), ("internal/strconv.uint64pow10", Rows.laid_internal_strconv_uint64pow10), ("smalto/border.names", Rows.laid_smalto_border_names), ("smalto/raw.kinds", Rows.laid_smalto_raw_kinds)]
theorem door_met13 (os : Os) (args : Array Value) : laidMetH Tryd.prog dLaid13 ((World.doorLaid Tryd.prog 400 os).forCall (fun _ _ => 0) ⟨#[], args, []⟩).memory :=
  laidMetH_of_parts3 (fuel := 8) (laidMet_of_run' 8 (by kernel_rfl) (by kernel_rfl)) (by kernel_rfl) (by kernel_rfl)
theorem kw_of_laid {W : World} (h : laidMetH Tryd.prog dLaid13 W) : KW W := by
  rw [MakeChecks.laidMetH_plain _ _ _ (by kernel_rfl)] at h
  obtain ⟨ps, ⟨g0, t0, cs0, f0, p0, q0, hg0, ht0, hv0, hd0, ⟨g1, t1, cs1, f1, p1, q1, hg1, ht1, hv1, hd1, ⟨g2, t2, cs2, f2, p2, q2, hg2, ht2, hv2, hd2, ⟨g3, t3, cs3, f3, p3, q3, hg3, ht3, hv3, hd3, ⟨g4, t4, cs4, f4, p4, q4, hg4, ht4, hv4, hd4, _, _⟩, _⟩, _⟩, _⟩, _⟩, _, _⟩ := h
  obtain rfl := Option.some.inj (gPow13.symm.trans hg2)
  obtain rfl := Option.some.inj (tPow13.symm.trans ht2)
  rw [powData13] at hd2
  have e := Go.Lib.cells_of_tab (n := 20) Tryd.underlying125 Tryd.underlying98 (by kernel_rfl) (by kernel_rfl) hd2
  obtain rfl := Option.some.inj (gNamesE.symm.trans hg3)
  obtain rfl := Option.some.inj (tNamesE.symm.trans ht3)
  obtain rfl := names_cells hd3
  obtain rfl := Option.some.inj (gKinds.symm.trans hg4)
  obtain rfl := Option.some.inj (tKinds.symm.trans ht4)
  obtain rfl := kinds_cells hd4
  refine ⟨?_, ⟨World.var?_cell hg4 hv4 0, World.var?_cell hg4 hv4 1, World.var?_cell hg4 hv4 2, World.var?_cell hg4 hv4 3, World.var?_cell hg4 hv4 4, World.var?_cell hg4 hv4 5⟩, World.var?_cell hg3 hv3 0, World.var?_cell hg3 hv3 1, World.var?_cell hg3 hv3 2⟩
  unfold Pow10 Go.Lib.TabIs
  rw [hv2, ← e]
def OpsBoth13 (w : World) (ad : Option Addr) (L : List Opr) : Prop := OpsAt w ad L ∧ OpsFit L
theorem law_RecipeJoins (L : List Opr) (ad : Option Addr) (cap : Nat) (M : List Opr) (ad2 : Option Addr) (cap2 : Nat) (w : World) (hk : KW w) (hr : OpsBoth13 w ad L) (h1 : L.length ≤ maxLen) (hz : ad = none → cap = 0) (hr2 : OpsBoth13 w ad2 M) (h2 : M.length ≤ maxLen) (hz2 : ad2 = none → cap2 = 0) :
    Calls Tryd.prog 6 #[.slice ad L.length cap, .slice ad2 M.length cap2] w fun e w' => e = .returned (.bool true) ∧ Below w.heap.size w w' := joins_main L M _ _ rfl rfl h1 h2 ad ad2 cap cap2 w hk hr.1 hr2.1 hr.2 hr2.2 hz hz2
theorem law_RecipeSigns (k : Int) (w : World) (hk : KW w) (_ : -9223372036854775808 ≤ k ∧ k ≤ 9223372036854775807) :
    Calls Tryd.prog 5 #[.int .i64 k] w fun e w' => e = .returned (.bool true) ∧ Below w.heap.size w w' := signs_main k w hk
end Go.Proofs.YtlknopmpbkepjaaDoor
