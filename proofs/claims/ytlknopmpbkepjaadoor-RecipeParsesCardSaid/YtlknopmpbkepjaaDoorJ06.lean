/- Parts, joined. -/
import Derived.Test.YtlknopmpbkepjaaDoorJ04
import Derived.Test.YtlknopmpbkepjaaDoorJ05
import Derived.Test.YtlknopmpbkepjaaDoorJ01
import Derived.Deep.RegionHeld3
import Derived.BigQuiet
import Derived.IntWalk
import Derived.Deep.QuietTactic
import Derived.OpenShut
/- Operations as texts: the document's signs, names, digits, rows of numbers. -/
namespace Go.Proofs.YtlknopmpbkepjaaDoor
open Go.RowKit


theorem txt_app {a b : List Int} (ha : Byts a) (hb : Byts b) : txt a ++ txt b = txt (a ++ b) := txt_of (by rw [byt_add, byt_txt ha, byt_txt hb])
theorem txt_nil : txt [] = ⟨#[]⟩ := rfl
theorem kind_of (k : Int) : k = 0 ∨ k = 1 ∨ k = 2 ∨ k = 3 ∨ (k ≠ 0 ∧ k ≠ 1 ∧ k ≠ 2 ∧ k ≠ 3) := by omega
theorem three_of (k : Int) : k = 0 ∨ k = 1 ∨ k = 2 ∨ (k ≠ 0 ∧ k ≠ 1 ∧ k ≠ 2) := by omega
theorem dsign13_any (k : Int) (w : World) : Calls Tryd.prog 18 #[.int .i64 k] w fun e w' => e = .returned (.string (txt (sgnB k))) ∧ w = w' := by
  rcases kind_of k with rfl | rfl | rfl | rfl | ⟨h0, h1, h2, h3⟩
  · go_enter Tryd.func18, Tryd.ntmps18
    go_wp2
    go_ret
    exact ⟨rfl, rfl⟩
  · go_enter Tryd.func18, Tryd.ntmps18
    go_wp2
    go_ret
    exact ⟨rfl, rfl⟩
  · go_enter Tryd.func18, Tryd.ntmps18
    go_wp2
    go_ret
    exact ⟨rfl, rfl⟩
  · go_enter Tryd.func18, Tryd.ntmps18
    go_wp2
    go_ret
    exact ⟨rfl, rfl⟩
  · rw [show sgnB k = [] by unfold sgnB; rw [if_neg h0, if_neg h1, if_neg h2, if_neg h3]]
    have e0 : (k == 0) = false := beq_eq_false_iff_ne.2 h0
    have e1 : (k == 1) = false := beq_eq_false_iff_ne.2 h1
    have e2 : (k == 2) = false := beq_eq_false_iff_ne.2 h2
    have e3 : (k == 3) = false := beq_eq_false_iff_ne.2 h3
    clear h0 h1 h2 h3
    go_enter Tryd.func18, Tryd.ntmps18
    go_wp2
    go_ret
    exact ⟨rfl, rfl⟩
theorem dmul_any (w : World) : Calls Tryd.prog 23 #[] w fun e w' => e = .returned (.string (txt mulB)) ∧ w = w' := by
  go_enter Tryd.func23, Tryd.ntmps23
  go_wp2
  go_ret
  exact ⟨rfl, rfl⟩
theorem dbord_any (k : Int) (w : World) : Calls Tryd.prog 20 #[.int .i64 k] w fun e w' => e = .returned (.string (txt (bordB k))) ∧ w = w' := by
  rcases three_of k with rfl | rfl | rfl | ⟨h0, h1, h2⟩
  · go_enter Tryd.func20, Tryd.ntmps20
    go_wp2
    go_ret
    exact ⟨rfl, rfl⟩
  · go_enter Tryd.func20, Tryd.ntmps20
    go_wp2
    go_ret
    exact ⟨rfl, rfl⟩
  · go_enter Tryd.func20, Tryd.ntmps20
    go_wp2
    go_ret
    exact ⟨rfl, rfl⟩
  · rw [show bordB k = [] by unfold bordB; rw [if_neg h0, if_neg h1, if_neg h2]]
    have e0 : (k == 0) = false := beq_eq_false_iff_ne.2 h0
    have e1 : (k == 1) = false := beq_eq_false_iff_ne.2 h1
    have e2 : (k == 2) = false := beq_eq_false_iff_ne.2 h2
    clear h0 h1 h2
    go_enter Tryd.func20, Tryd.ntmps20
    go_wp2
    go_ret
    exact ⟨rfl, rfl⟩
theorem dfilt_any (k : Int) (w : World) : Calls Tryd.prog 24 #[.int .i64 k] w fun e w' => e = .returned (.string (txt (filtB k))) ∧ w = w' := by
  rcases three_of k with rfl | rfl | rfl | ⟨h0, h1, h2⟩
  · go_enter Tryd.func24, Tryd.ntmps24
    go_wp2
    go_ret
    exact ⟨rfl, rfl⟩
  · go_enter Tryd.func24, Tryd.ntmps24
    go_wp2
    go_ret
    exact ⟨rfl, rfl⟩
  · go_enter Tryd.func24, Tryd.ntmps24
    go_wp2
    go_ret
    exact ⟨rfl, rfl⟩
  · rw [show filtB k = [] by unfold filtB; rw [if_neg h0, if_neg h1, if_neg h2]]
    have e0 : (k == 0) = false := beq_eq_false_iff_ne.2 h0
    have e1 : (k == 1) = false := beq_eq_false_iff_ne.2 h1
    have e2 : (k == 2) = false := beq_eq_false_iff_ne.2 h2
    clear h0 h1 h2
    go_enter Tryd.func24, Tryd.ntmps24
    go_wp2
    go_ret
    exact ⟨rfl, rfl⟩
theorem ddeci_any (x : Int) (hx : I64P x) (w : World) : Calls Tryd.prog 21 #[.int .i64 x] w fun e w' => e = .returned (.string (txt (intF x))) ∧ Below w.heap.size w w' := by
  have C : ∀ w, Calls Tryd.prog 36 #[.int .i64 x] w fun e w' => e = .returned (.string (txt (intF x))) ∧ Below w.heap.size w w' := fun w => (ddec_any x hx.1 hx.2 w).mono fun e w' ⟨t, he, ht, _, hb⟩ => ⟨by rw [he, txt_of ht], hb⟩
  generalize txt (intF x) = t at *
  go_enter Tryd.func21, Tryd.ntmps21
  go_wp2_with (go_at_call 36; (with_reducible refine (C _).mono ?_); rintro e w1 ⟨rfl, b1⟩)
  go_ret
  exact ⟨rfl, b1⟩
theorem take_row {xs : List Int} {k : Nat} (hk : k < xs.length) : xs.take (k + 1) = xs.take k ++ [xs.getD k 0] := by
  rw [List.take_add_one, List.getD_eq_getElem?_getD, List.getElem?_eq_getElem hk]
  rfl
set_option maxHeartbeats 2000000 in
theorem dlist_any (xs : List Int) (n : Nat) (hn : xs.length = n) (h1 : n ≤ 1000000) (hx : ∀ x ∈ xs, I64P x) (ad : Option Addr) (cap : Nat) (w : World) (hr : RowAt .i64 w ad xs) :
    Calls Tryd.prog 22 #[.slice ad n cap] w fun e w' => e = .returned (.string (txt (rowB xs))) ∧ Below w.heap.size w w' := by
  have HR := hide hr
  have HN := hide hn
  have HX := hide hx
  clear hr hn hx
  go_enter Tryd.func22, Tryd.ntmps22
  go_wp2
  go_loopw [3, 8] (fun o i wr => ∃ k : Nat, k ≤ n ∧ i = .int .i64 (k : Int) ∧ o = .string (txt (rowB (xs.take k))) ∧ Below w.heap.size w wr) (fun _ i _ => n - (intOf i).toNat)
  case atStart => exact ⟨0, by omega, rfl, rfl, Below.refl _ _⟩
  case round =>
    obtain ⟨k, hk, rfl, rfl, hb⟩ := hrel
    have HB := hide hb
    by_cases hlt : k < n
    · obtain ⟨b, off, rfl, hc⟩ := (HR.out.below hb).get (show k < xs.length by rw [HN.out]; exact hlt)
      have hkx : k < xs.length := by rw [HN.out]; exact hlt
      have hxk : I64P (xs.getD k 0) := HX.out _ (by rw [List.getD_eq_getElem?_getD, List.getElem?_eq_getElem hkx]; exact List.getElem_mem hkx)
      have CD := fun w => ddeci_any (xs.getD k 0) hxk w
      have h1s : (txt (rowB (xs.take k))).size ≤ 21 * k := by
        rw [txt_size (byts_row _)]
        have := rowB_len (xs := xs.take k) (fun x hx => HX.out x (List.mem_of_mem_take hx))
        rw [List.length_take] at this
        omega
      have h2s : (txt (intF (xs.getD k 0))).size ≤ 20 := by rw [txt_size (byts_int _)]; exact intF_20 hxk
      have HZ := hide (show k = 0 → txt (rowB (xs.take k)) ++ txt (intF (xs.getD k 0)) = txt (rowB (xs.take (k + 1))) from fun e => by
        rw [take_row hkx, e, txt_app (byts_row _) (byts_int _)]
        rfl)
      have HM := hide (show k ≠ 0 → txt (rowB (xs.take k)) ++ ⟨#[44]⟩ ++ txt (intF (xs.getD k 0)) = txt (rowB (xs.take (k + 1))) from fun e => by
        have hne : xs.take k ≠ [] := fun q => by
          have hl : 0 < (xs.take k).length := by rw [List.length_take]; omega
          rw [q] at hl
          cases hl
        rw [take_row hkx, rowB_more hne, show (⟨#[44]⟩ : ByteArray) = txt [44] from rfl, txt_app (byts_row _) (by intro x hx; simp at hx; omega), txt_app (by intro x hx; rcases List.mem_append.1 hx with h | h; exact byts_row _ x h; simp at h; omega) (byts_int _), List.append_assoc]
        rfl)
      clear hxk hb
      generalize xs.getD k 0 = x at *
      obtain ⟨t', ht'⟩ : ∃ t', txt (rowB (xs.take (k + 1))) = t' := ⟨_, rfl⟩
      rw [ht'] at HZ HM
      have HT := hide ht'
      clear ht'
      generalize txt (rowB (xs.take k)) = t at *
      generalize txt (intF x) = d at *
      by_cases hk0 : k = 0
      · subst hk0
        have hz := HZ.out rfl
        replace hc : wr.cell? ⟨b, off, none⟩ = some (.int .i64 x) := hc
        clear HM HZ
        go_wp2_with (go_at_call 21; (with_reducible refine (CD _).mono ?_); rintro e w1 ⟨rfl, b1⟩)
        go_roundw
        case rel => exact ⟨0 + 1, by omega, by go_num, by rw [HT.out], bt HB.out b1⟩
        case measure => simp [intOf]; omega
      · have hm := HM.out hk0
        have hk1 : 0 < (k : Int) := by omega
        go_wp2_with (go_at_call 21; (with_reducible refine (CD _).mono ?_); rintro e w1 ⟨rfl, b1⟩)
        go_roundw
        case rel => exact ⟨k + 1, by omega, by go_num, by rw [HT.out], bt HB.out b1⟩
        case measure => simp [intOf]; omega
    · obtain rfl : k = n := by omega
      have he : xs.take k = xs := List.take_of_length_le (by rw [HN.out]; exact Nat.le_refl _)
      rw [he]
      clear hb
      go_wp2
      go_ret
      exact ⟨rfl, HB.out⟩
/-- A piece of a text. -/
theorem byt_part (s : ByteArray) (i j : Nat) : byt (s.extract i j) = ((byt s).drop i).take (j - i) := by
  unfold byt
  rw [← List.map_drop, ← List.map_take]
  congr 1
  rw [ByteArray.data_extract, Array.toList_extract, List.extract_eq_take_drop]
theorem part_at {s t : ByteArray} {i : Nat} : s.extract i (i + t.size) = t ↔ AtP (byt t) (byt s) i := by
  unfold AtP
  rw [byt_len]
  constructor
  · intro h
    have := congrArg byt h
    rwa [byt_part, Nat.add_sub_cancel_left] at this
  · intro h
    exact byt_inj (by rw [byt_part, Nat.add_sub_cancel_left]; exact h)
theorem str_neq {a b : ByteArray} (h : a ≠ b) : (a.toList == b.toList) = false :=
  beq_eq_false_iff_ne.2 fun e => h (ByteArray.ext (Array.toList_inj.1 (by rw [ByteArray.toList_eq, ByteArray.toList_eq] at e; exact e)))
/-- What cut answers. -/
def CutAns (s t : ByteArray) (e : Ending) : Prop :=
  (∃ i, i + t.size ≤ s.size ∧ AtP (byt t) (byt s) i ∧ (∀ j, j < i → ¬ AtP (byt t) (byt s) j) ∧ e = .returned (.tuple #[.string (s.extract 0 i), .string (s.extract (i + t.size) s.size), .bool true])) ∨
  ((∀ j, j + t.size ≤ s.size → ¬ AtP (byt t) (byt s) j) ∧ e = .returned (.tuple #[.string s, .string ⟨#[]⟩, .bool false]))
set_option maxHeartbeats 2000000 in
theorem dcut_any (s t : ByteArray) (hs : s.size ≤ 1000000) (ht : t.size ≤ 1000000) (w : World) :
    Calls Tryd.prog 34 #[.string s, .string t] w fun e w' => CutAns s t e ∧ Drew w w' := by
  have HA := hide (fun (i : Nat) (h1 : i + t.size ≤ s.size) (h2 : AtP (byt t) (byt s) i) (h3 : ∀ j, j < i → ¬ AtP (byt t) (byt s) j) => show CutAns s t (.returned (.tuple #[.string (s.extract 0 i), .string (s.extract (i + t.size) s.size), .bool true])) from .inl ⟨i, h1, h2, h3, rfl⟩)
  have HN := hide (fun (h3 : ∀ j, j + t.size ≤ s.size → ¬ AtP (byt t) (byt s) j) => show CutAns s t (.returned (.tuple #[.string s, .string ⟨#[]⟩, .bool false])) from .inr ⟨h3, rfl⟩)
  have HP := hide (fun i => part_at (s := s) (t := t) (i := i))
  obtain ⟨n, hn⟩ : ∃ n, s.size = n := ⟨_, rfl⟩
  obtain ⟨m, hm⟩ : ∃ m, t.size = m := ⟨_, rfl⟩
  rw [hn] at hs
  rw [hm] at ht
  go_enter Tryd.func34, Tryd.ntmps34
  go_wp2
  go_loopw [7] (fun i wr => ∃ k : Nat, k ≤ n + 1 ∧ i = .int .i64 (k : Int) ∧ Hid (∀ j, j < k → ¬ AtP (byt t) (byt s) j) ∧ w = wr) (fun i _ => n + 1 - (intOf i).toNat)
  case atStart => exact ⟨0, by omega, rfl, hide (fun j hj => absurd hj (Nat.not_lt_zero _)), rfl⟩
  case round =>
    obtain ⟨k, hk, rfl, hf, rfl⟩ := hrel
    by_cases hlt : k + m ≤ n
    · by_cases hat : s.extract k (k + m) = t
      · have HE := hide (HA.out k (by rw [hm, hn]; exact hlt) ((HP.out k).1 (by rw [hm]; exact hat)) hf.out)
        rw [hm, hn] at HE
        clear HA HN HP hf
        go_upto_region 5 with fail
        go_quiet (fail)
        go_wp2
        exact bodyPost_ret (v := .tuple #[.string (s.extract 0 k), .string (s.extract (k + m) n), .bool true]) (by simp [results, Tryd.results34, go_sem]) rfl ⟨HE.out, ⟨nq, rfl⟩⟩
      · have HF := hide (show ∀ j, j < k + 1 → ¬ AtP (byt t) (byt s) j from fun j hj => by
          by_cases e : j = k
          · subst e
            exact fun q => hat (by have := (HP.out j).2 q; rw [hm] at this; exact this)
          · exact hf.out j (by omega))
        have hne := str_neq hat
        clear HA HN HP hf
        go_wp2
        go_roundw
        case rel => exact ⟨k + 1, by omega, by go_num, HF, by trivial⟩
        case measure => simp [intOf]; omega
    · have HE := hide (HN.out (fun j hj => hf.out j (by rw [hm, hn] at hj; omega)))
      clear HA HN HP hf
      go_wp2
      exact bodyPost_ret (v := .tuple #[.string s, .string ⟨#[]⟩, .bool false]) (by simp [results, Tryd.results34, go_sem]) rfl ⟨HE.out, Drew.refl _⟩
/-- Cut at one byte. -/
theorem cut_one {c : Int} (h0 : 0 ≤ c) (h1 : c ≤ 255) {s : ByteArray} {e : Ending} (h : CutAns s (txt [c]) e) :
    (∃ a b, e = .returned (.tuple #[.string a, .string b, .bool true]) ∧ byt s = byt a ++ c :: byt b ∧ c ∉ byt a) ∨ (e = .returned (.tuple #[.string s, .string ⟨#[]⟩, .bool false]) ∧ c ∉ byt s) := by
  have hb : byt (txt [c]) = [c] := byt_txt (fun x hx => by simp at hx; omega)
  have hsz : (txt [c]).size = 1 := by rw [← byt_len, hb]; rfl
  unfold CutAns at h
  rw [hb, hsz] at h
  rcases h with ⟨i, hi, ha, hf, he⟩ | ⟨hf, he⟩
  · refine .inl ⟨_, _, he, ?_, ?_⟩
    · rw [byt_part, byt_part, List.drop_zero, Nat.sub_zero, List.take_of_length_le (l := (byt s).drop (i + 1)) (by rw [List.length_drop, byt_len]; exact Nat.le_refl _)]
      exact at_cut ha
    · rw [byt_part, List.drop_zero, Nat.sub_zero]
      exact no_at hf
  · refine .inr ⟨he, fun hm => ?_⟩
    have := no_at (n := (byt s).length) (fun i hi => hf i (by rw [byt_len] at hi; omega))
    rw [List.take_length] at this
    exact this hm
/-- Cut at ×. -/
theorem cut_mul {s : ByteArray} {e : Ending} (h : CutAns s (txt mulB) e) :
    (∃ a b, e = .returned (.tuple #[.string a, .string b, .bool true]) ∧ byt s = byt a ++ (mulB ++ byt b) ∧ ∀ p q, (195 : Int) ∉ p → byt s = p ++ (mulB ++ q) → byt a = p ∧ byt b = q) ∨ (e = .returned (.tuple #[.string s, .string ⟨#[]⟩, .bool false]) ∧ ∀ p q, byt s ≠ p ++ (mulB ++ q)) := by
  have hb : byt (txt mulB) = mulB := byt_txt (fun x hx => by have := mul_mem hx; omega)
  have hsz : (txt mulB).size = 2 := by rw [← byt_len, hb]; rfl
  unfold CutAns at h
  rw [hb, hsz] at h
  rcases h with ⟨i, hi, ha, hf, he⟩ | ⟨hf, he⟩
  · have e1 : byt (s.extract 0 i) = (byt s).take i := by rw [byt_part, List.drop_zero, Nat.sub_zero]
    have e2 : byt (s.extract (i + 2) s.size) = (byt s).drop (i + 2) := by rw [byt_part, List.take_of_length_le (by rw [List.length_drop, byt_len]; exact Nat.le_refl _)]
    refine .inl ⟨_, _, he, ?_, fun p q hp hs => ?_⟩
    · rw [e1, e2]
      exact at_cut ha
    · have hip := mul_first hp hs ha hf
      rw [e1, e2, hs, hip, List.take_left, ← List.drop_drop, List.drop_left]
      exact ⟨rfl, rfl⟩
  · refine .inr ⟨he, fun p q hs => ?_⟩
    refine hf p.length ?_ (hs ▸ at_app p mulB q)
    rw [← byt_len, hs]
    simp [mulB]
end Go.Proofs.YtlknopmpbkepjaaDoor

/- Operations as texts: the library's Cut answers as the document's; into parts that are known ahead. -/
namespace Go.Proofs.YtlknopmpbkepjaaDoor
open Go.RowKit


theorem occ_pre {s t : List UInt8} {j : Nat} : Go.Lib.occAt s t j = true ↔ t <+: s.drop j := by
  unfold Go.Lib.occAt
  exact List.isPrefixOf_iff_prefix
theorem at_pre {s t : ByteArray} {j : Nat} : Go.Lib.occAt s.data.toList t.data.toList j = true ↔ AtP (byt t) (byt s) j := by
  rw [occ_pre, List.prefix_iff_eq_take]
  unfold AtP byt
  rw [← List.map_drop, List.length_map, ← List.map_take, List.map_inj_right (by intro x y e; exact UInt8.toNat_inj.1 (by omega))]
  exact ⟨fun h => h.symm, fun h => h.symm⟩
theorem lib_cut (s t : ByteArray) : CutAns s t (.returned (.tuple #[.string ⟨(Go.Lib.cut s.data.toList t.data.toList).1.toArray⟩, .string ⟨(Go.Lib.cut s.data.toList t.data.toList).2.1.toArray⟩, .bool (Go.Lib.cut s.data.toList t.data.toList).2.2])) := by
  rcases Go.Lib.index_spec s.data.toList t.data.toList with ⟨hx, hn⟩ | ⟨i, hx, hi, ho, hf⟩
  · obtain ⟨e1, e2, e3⟩ := Go.Lib.cutB_miss s t hx
    rw [e1, e2, e3]
    refine .inr ⟨fun j hj q => ?_, rfl⟩
    have h1 := hn j (by rw [← Go.Lib.size_eq]; omega)
    rw [at_pre.2 q] at h1
    cases h1
  · obtain ⟨e1, e2, e3⟩ := Go.Lib.cutB_hit s t i hx
    rw [e1, e2, e3]
    have hr := Go.Lib.index_room s.data.toList t.data.toList (by rw [hx]; omega)
    rw [hx, ← Go.Lib.size_eq, ← Go.Lib.size_eq] at hr
    refine .inl ⟨i, by omega, at_pre.1 ho, fun j hj q => ?_, rfl⟩
    have h1 := hf j hj
    rw [at_pre.2 q] at h1
    cases h1
/-- What Cut answers at one byte, by what stands in the text. -/
theorem ans_yes {c : Int} (h0 : 0 ≤ c) (h1 : c ≤ 255) {s a b : ByteArray} (hs : byt s = byt a ++ c :: byt b) (ha : c ∉ byt a) {e : Ending} (h : CutAns s (txt [c]) e) : e = .returned (.tuple #[.string a, .string b, .bool true]) := by
  rcases cut_one h0 h1 h with ⟨p, q, he, hpq, hp⟩ | ⟨_, hn⟩
  · obtain ⟨e1, e2⟩ := first_inj hp ha (hpq.symm.trans hs)
    rw [he, byt_inj e1, byt_inj e2]
  · exact absurd (by rw [hs]; exact List.mem_append.2 (.inr List.mem_cons_self)) hn
theorem ans_no {c : Int} (h0 : 0 ≤ c) (h1 : c ≤ 255) {s : ByteArray} (hs : c ∉ byt s) {e : Ending} (h : CutAns s (txt [c]) e) : e = .returned (.tuple #[.string s, .string ⟨#[]⟩, .bool false]) := by
  rcases cut_one h0 h1 h with ⟨p, q, _, hpq, _⟩ | ⟨he, _⟩
  · exact absurd (by rw [hpq]; exact List.mem_append.2 (.inr List.mem_cons_self)) hs
  · exact he
/-- The parts of a text at its first c. -/
theorem parts_at {c : Int} {s : ByteArray} (h : c ∈ byt s) : ∃ a b : ByteArray, byt s = byt a ++ c :: byt b ∧ c ∉ byt a ∧ a.size + 1 + b.size = s.size := by
  obtain ⟨p, q, hpq⟩ : ∃ p q, byt s = p ++ c :: q ∧ c ∉ p := by
    obtain ⟨h2, h3⟩ := split_join c (byt s)
    match hq : splitC c (byt s), splitC_ne c (byt s) with
    | [a], _ =>
      rw [hq] at h2 h3
      have e : a = byt s := h2
      exact absurd h (by rw [← e]; exact h3 a List.mem_cons_self)
    | a :: b :: ps, _ =>
      rw [hq] at h2 h3
      exact ⟨a, joinC c (b :: ps), h2.symm, h3 a List.mem_cons_self⟩
  have bp : Byts p := fun x hx => byt_in s x (by rw [hpq.1]; exact List.mem_append.2 (.inl hx))
  have bq : Byts q := fun x hx => byt_in s x (by rw [hpq.1]; exact List.mem_append.2 (.inr (List.mem_cons_of_mem _ hx)))
  refine ⟨txt p, txt q, by rw [byt_txt bp, byt_txt bq]; exact hpq.1, by rw [byt_txt bp]; exact hpq.2, ?_⟩
  have := congrArg List.length hpq.1
  rw [List.length_append, List.length_cons, byt_len] at this
  rw [txt_size bp, txt_size bq]
  omega
/-- What Cut answers at ×, some parts ahead; they are those of every word. -/
theorem ans_mul (s : ByteArray) : (∃ a b : ByteArray, byt s = byt a ++ (mulB ++ byt b) ∧ a.size + 2 + b.size = s.size ∧ (∀ p q, (195 : Int) ∉ p → byt s = p ++ (mulB ++ q) → byt a = p ∧ byt b = q) ∧ ∀ e, CutAns s (txt mulB) e → e = .returned (.tuple #[.string a, .string b, .bool true])) ∨ ((∀ p q, byt s ≠ p ++ (mulB ++ q)) ∧ ∀ e, CutAns s (txt mulB) e → e = .returned (.tuple #[.string s, .string ⟨#[]⟩, .bool false])) := by
  have hl := lib_cut s (txt mulB)
  have hb : byt (txt mulB) = mulB := byt_txt (fun x hx => by have := mul_mem hx; omega)
  have one : ∀ {e e' : Ending}, CutAns s (txt mulB) e → CutAns s (txt mulB) e' → e = e' := by
    intro e e' h h'
    unfold CutAns at h h'
    rcases h with ⟨i, hi, h1, h2, rfl⟩ | ⟨h2, rfl⟩ <;> rcases h' with ⟨j, hj, g1, g2, rfl⟩ | ⟨g2, rfl⟩
    · have : i = j := by
        rcases Nat.lt_trichotomy i j with q | q | q
        · exact absurd h1 (g2 i q)
        · exact q
        · exact absurd g1 (h2 j q)
      rw [this]
    · exact absurd h1 (g2 i hi)
    · exact absurd g1 (h2 j hj)
    · rfl
  generalize Ending.returned _ = e0 at hl
  rcases cut_mul hl with ⟨a, b, he, hab, hp⟩ | ⟨he, hn⟩
  · refine .inl ⟨a, b, hab, ?_, hp, fun e h => (one h hl).trans he⟩
    have := congrArg List.length hab
    rw [List.length_append, List.length_append, byt_len, byt_len, byt_len] at this
    have : mulB.length = 2 := rfl
    omega
  · exact .inr ⟨hn, fun e h => (one h hl).trans he⟩
end Go.Proofs.YtlknopmpbkepjaaDoor

/- What stands beyond the edge: the program's answer, and the document's. -/
namespace Go.Proofs.YtlknopmpbkepjaaDoor
open Go.RowKit

theorem knownE_yes (p : Int) (p0 : 0 ≤ p) (p1 : p ≤ 2) (w : World) :
    Calls Tryd.prog 37 #[.int .i64 p] w fun e w' => e = .returned (.bool true) ∧ w = w' := by
  go_enter Tryd.func37, Tryd.ntmps37
  go_wp2
  go_ret
  first | exact ⟨rfl, rfl⟩ | exact ⟨ret_bool (decide_eq_true (by omega)), rfl⟩
theorem knownE_no (p : Int) (h : p < 0 ∨ 2 < p) (w : World) :
    Calls Tryd.prog 37 #[.int .i64 p] w fun e w' => e = .returned (.bool false) ∧ w = w' := by
  rcases h with h | h
  all_goals
    go_enter Tryd.func37, Tryd.ntmps37
    go_wp2
    go_ret
    first | exact ⟨rfl, rfl⟩ | exact ⟨ret_bool (decide_eq_false (by omega)), rfl⟩
end Go.Proofs.YtlknopmpbkepjaaDoor

/- What 'make' makes of numbers of 64 bits. -/
namespace Go.Proofs.YtlknopmpbkepjaaDoor
open Go.RowKit


theorem infoI64Q : (Tryd.prog.info? 2).map (fun i => (i.zero, i.size, i.bytes)) = some (some (.int .i64 0), 1, 8) := by kernel_rfl
theorem make64 (n : Nat) (h : n ≤ 1048576) : ∃ zs : Array Value, (∀ w : World, (Instr.makeSlice 27 (.int .i64 (n : Int)) (.int .i64 (n : Int))).run Tryd.prog w = .ok (.slice (some ⟨w.heap.size, 0, none⟩) n n) (w.alloc (.cells zs 2))) ∧ (∀ (w : World) (B : Nat), B ≤ w.heap.size → OwnI .i64 2 (w.alloc (.cells zs 2)) B (.slice (some ⟨w.heap.size, 0, none⟩) n n) (List.replicate n 0)) ∧ zs.toList = List.replicate n (.int .i64 0) := by
  obtain ⟨i0, hi, hz0, hz1, hz2⟩ := info_parts infoI64Q
  have hm : (n : Int) ≤ 9223372036854775807 := by omega
  refine ⟨madeCells (Value.int .i64 0).cells (n * i0.size), fun w => ?_, fun w B hB => ?_, ?_⟩
  · have hr := run_make (P := Tryd.prog) w 27 2 i0 (.int .i64 0) Tryd.underlying27 hi hz0 .i64 .i64 n n (by omega) (Int.le_refl _) (by rw [hz2]; omega) hm
    simpa only [Int.toNat_natCast] using hr
  · refine OwnI.made ?_
    rw [hz1]
    exact World.ownsRow_lit w _ n hB (by unfold maxLen; omega) (by rw [size_madeCells])
  · rw [hz1, Nat.mul_one]; exact toList_madeCells_one _ _
end Go.Proofs.YtlknopmpbkepjaaDoor
