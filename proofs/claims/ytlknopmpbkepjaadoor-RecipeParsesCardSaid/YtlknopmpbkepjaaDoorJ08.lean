/- Parts, joined. -/
import Derived.Test.YtlknopmpbkepjaaDoorJ07
import Derived.Test.YtlknopmpbkepjaaDoorJ06
import Derived.Test.YtlknopmpbkepjaaDoorJ05
import Derived.Test.YtlknopmpbkepjaaDoorJ02
import Derived.Deep.Slices
import Derived.Deep.Fields
import Derived.ChangeSame
import Derived.OpenShut
/- Operations as texts: the document's numbers with commas between. -/
namespace Go.Proofs.YtlknopmpbkepjaaDoor
open Go.RowKit


/-- What numbers answers. -/
def NumsAns (B : Nat) (s : ByteArray) (e : Ending) (w' : World) : Prop :=
  (∃ v xs, e = .returned (.tuple #[v, .bool true]) ∧ byt s = rowB xs ∧ (∀ x ∈ xs, I64P x) ∧ OwnI .i64 2 w' B v xs) ∨
  (e = .returned (.tuple #[.slice none 0 0, .bool false]) ∧ ∀ xs, (∀ x ∈ xs, I64P x) → byt s ≠ rowB xs)
theorem nums_end {s : List Int} {xs : List Int} (h : splitC 44 s = xs.map intF) : s = rowB xs := by
  have := congrArg (joinC 44) h
  rw [(split_join 44 s).1] at this
  exact this
theorem nums_bad {s p : List Int} {xs : List Int} {ps : List (List Int)} (hs : s ≠ []) (h : splitC 44 s = xs.map intF ++ p :: ps) (hp : ∀ y, I64P y → p ≠ intF y) : ∀ ys, (∀ y ∈ ys, I64P y) → s ≠ rowB ys := by
  intro ys hy e
  have hne : ys ≠ [] := fun q => hs (by rw [e, q]; rfl)
  have e2 := rowB_split hne
  rw [← e, h] at e2
  have : p ∈ ys.map intF := by rw [← e2]; exact List.mem_append.2 (.inr List.mem_cons_self)
  obtain ⟨y, hy1, hy2⟩ := List.mem_map.1 this
  exact hp y (hy y hy1) hy2.symm
theorem cut_head {c : Int} {s a b : List Int} (h : s = a ++ c :: b) (ha : c ∉ a) : splitC c s = a :: splitC c b := by rw [h, splitC_app ha]
/-- Cut where there is one: into what is known ahead. -/
theorem cut_yes {c : Int} (h0 : 0 ≤ c) (h1 : c ≤ 255) {s : ByteArray} (hs : s.size ≤ 1000000) (h : c ∈ byt s) :
    ∃ a b : ByteArray, byt s = byt a ++ c :: byt b ∧ c ∉ byt a ∧ ∀ w, Calls Tryd.prog 34 #[.string s, .string (txt [c])] w fun e w' => e = .returned (.tuple #[.string a, .string b, .bool true]) ∧ Drew w w' := by
  obtain ⟨p, q, hpq⟩ : ∃ p q, byt s = p ++ c :: q ∧ c ∉ p := by
    obtain ⟨h2, h3⟩ := split_join c (byt s)
    match hq : splitC c (byt s), splitC_ne c (byt s) with
    | [a], _ =>
      rw [hq] at h2 h3
      have e : a = byt s := h2
      exact absurd h (by rw [← e]; exact h3 a List.mem_cons_self)
    | a :: b :: ps, _ =>
      rw [hq] at h2 h3
      exact ⟨a, joinC c (b :: ps), h2.symm, h3 a List.mem_cons_self⟩
  have bp : Byts p := fun x hx => byt_in s x (by rw [hpq.1]; exact List.mem_append.2 (.inl hx))
  have bq : Byts q := fun x hx => byt_in s x (by rw [hpq.1]; exact List.mem_append.2 (.inr (List.mem_cons_of_mem _ hx)))
  refine ⟨txt p, txt q, by rw [byt_txt bp, byt_txt bq]; exact hpq.1, by rw [byt_txt bp]; exact hpq.2, fun w => ?_⟩
  refine (dcut_any s (txt [c]) hs (by rw [txt_size (by intro x h; simp at h; omega)]; exact (by omega : (1 : Nat) ≤ 1000000)) w).mono fun e w' ⟨hc, hd⟩ => ⟨?_, hd⟩
  rcases cut_one h0 h1 hc with ⟨a, b, he, hab, ha⟩ | ⟨_, hn⟩
  · obtain ⟨e1, e2⟩ := first_inj ha hpq.2 (hab.symm.trans hpq.1)
    rw [he, txt_of e1, txt_of e2]
  · exact absurd h hn
theorem cut_no {c : Int} (h0 : 0 ≤ c) (h1 : c ≤ 255) {s : ByteArray} (hs : s.size ≤ 1000000) (h : c ∉ byt s) (w : World) :
    Calls Tryd.prog 34 #[.string s, .string (txt [c])] w fun e w' => e = .returned (.tuple #[.string s, .string ⟨#[]⟩, .bool false]) ∧ Drew w w' := by
  refine (dcut_any s (txt [c]) hs (by rw [txt_size (by intro x h; simp at h; omega)]; exact (by omega : (1 : Nat) ≤ 1000000)) w).mono fun e w' ⟨hc, hd⟩ => ⟨?_, hd⟩
  rcases cut_one h0 h1 hc with ⟨a, b, _, hab, _⟩ | ⟨he, _⟩
  · exact absurd (by rw [hab]; exact List.mem_append.2 (.inr List.mem_cons_self)) h
  · exact he
/-- A number, or none. -/
theorem num_or (s : ByteArray) (hs : s.size ≤ 1000000) :
    (∃ x, I64P x ∧ byt s = intF x ∧ ∀ w, Calls Tryd.prog 49 #[.string s] w fun e w' => e = .returned (.tuple #[.int .i64 x, .bool true]) ∧ Below w.heap.size w w') ∨
    ((∀ y, I64P y → byt s ≠ intF y) ∧ ∀ w, Calls Tryd.prog 49 #[.string s] w fun e w' => (∃ x, e = .returned (.tuple #[.int .i64 x, .bool false])) ∧ Below w.heap.size w w') := by
  by_cases h : ∃ x, I64P x ∧ byt s = intF x
  · obtain ⟨x, hx, hb⟩ := h
    refine .inl ⟨x, hx, hb, fun w => (dnum_any s hs w).mono fun e w' ⟨⟨y, b, he, h1, h2⟩, hB⟩ => ⟨?_, hB⟩⟩
    cases b with
    | true => rw [he, intF_inj ((h1 rfl).1.symm.trans hb)]
    | false => exact absurd hb (h2 rfl x hx)
  · have hn : ∀ y, I64P y → byt s ≠ intF y := fun y hy e => h ⟨y, hy, e⟩
    refine .inr ⟨hn, fun w => (dnum_any s hs w).mono fun e w' ⟨⟨y, b, he, h1, h2⟩, hB⟩ => ⟨?_, hB⟩⟩
    cases b with
    | true => exact absurd (h1 rfl).1 (hn y (h1 rfl).2)
    | false => exact ⟨y, he⟩
set_option maxHeartbeats 4000000 in
theorem dnums_any (s : ByteArray) (hs : s.size ≤ 1000000) (w : World) :
    Calls Tryd.prog 50 #[.string s] w fun e w' => NumsAns w.heap.size s e w' ∧ Below w.heap.size w w' := by
  cases hb : byt s with
  | nil =>
    have he : s.toList.isEmpty = true := by rw [byt_empty, hb]; rfl
    have HE := hide (show NumsAns w.heap.size s (.returned (.tuple #[.slice none 0 0, .bool true])) w from .inl ⟨_, [], rfl, hb, (fun x h => by cases h), OwnI.nil _ _ _ _⟩)
    clear hb
    go_enter Tryd.func50, Tryd.ntmps50
    go_wp2
    exact bodyPost_ret (v := .tuple #[.slice none 0 0, .bool true]) (by simp [results, Tryd.results50, go_sem]) rfl ⟨HE.out, Below.refl _ _⟩
  | cons x u =>
    have he : s.toList.isEmpty = false := by rw [byt_empty, hb]; rfl
    have HNE := hide (show byt s ≠ [] by rw [hb]; simp)
    obtain ⟨i0, hi, hz0, hz1, hz2⟩ := info_parts infoI64Q
    obtain ⟨n, hn⟩ : ∃ n, s.size = n := ⟨_, rfl⟩
    rw [hn] at hs
    have HN := hide hn
    clear hb hn
    go_enter Tryd.func50, Tryd.ntmps50
    go_wp2
    go_loopw [0, 4] (fun a v wr => ∃ (r : ByteArray) (xs : List Int), a = .string r ∧ Hid (splitC 44 (byt s) = xs.map intF ++ splitC 44 (byt r)) ∧ Hid (∀ x ∈ xs, I64P x) ∧ Hid (OwnI .i64 2 wr w.heap.size v xs) ∧ xs.length + r.size ≤ n ∧ Below w.heap.size w wr) (fun a _ _ => lenOfV a)
    case atStart => exact ⟨s, [], rfl, hide rfl, hide (fun x h => by cases h), hide (OwnI.nil _ _ _ _), by rw [HN.out]; simp, Below.refl _ _⟩
    case round =>
      obtain ⟨r, xs, rfl, hsp, hxs, ho, hlen, hbw⟩ := hrel
      have HB := hide hbw
      have HO := hide ho.out
      have HSP := hide hsp.out
      have HXS := hide hxs.out
      have hr : r.size ≤ 1000000 := by omega
      clear hbw ho hsp hxs
      by_cases hm : (44 : Int) ∈ byt r
      · obtain ⟨p, q, hpq, hp, CC⟩ := cut_yes (c := 44) (by decide) (by decide) hr hm
        have hsz : p.size + 1 + q.size = r.size := by
          have := congrArg List.length hpq
          rw [List.length_append, List.length_cons, byt_len, byt_len, byt_len] at this
          omega
        rw [show txt [44] = ⟨#[44]⟩ from rfl] at CC
        have h2 := HSP.out
        rw [cut_head hpq hp] at h2
        rcases num_or p (by omega) with ⟨y, hy, hpy, CN⟩ | ⟨hpy, CN⟩
        · have HS2 := hide (show splitC 44 (byt s) = (xs ++ [y]).map intF ++ splitC 44 (byt q) by rw [h2, hpy, List.map_append, List.append_assoc]; rfl)
          have HX2 := hide (show ∀ x ∈ xs ++ [y], I64P x from fun x hx => by
            rcases List.mem_append.1 hx with h | h
            · exact HXS.out x h
            · rw [List.mem_singleton] at h; rw [h]; exact hy)
          clear h2 hpq hp hm hpy
          go_wp2_with (first
            | (go_at_call 34; (with_reducible refine (CC _).mono ?_); rintro e w1 ⟨rfl, hdr⟩)
            | (go_at_call 49; (with_reducible refine (CN _).mono ?_); rintro e w2 ⟨rfl, b2⟩)
            | (at_builtin; refine wpList_append_own _ rfl _ _ 27 rfl w.heap.size 2 i0 (.int .i64 0) 1 8 Tryd.underlying27 hi hz0 hz1 hz2 rfl (by decide) _ _ _ rfl ((HO.out.below (bt hdr.below b2)).alloc _) ⟨w2.heap.size, 0, none⟩ 1 1 [.int .i64 y] rfl rfl (new_one _ _ _) (one_int _ _) (by unfold maxLen; omega) (by omega) (by have := HB.out.size; have := (bt hdr.below b2).size; simp; omega) ?_; intro u' w3 own3 grow3 _))
          have R := hide (own_more (bt HB.out (bt hdr.below b2)) (HO.out.below (bt hdr.below b2)) own3 grow3)
          clear own3 grow3 b2 CC CN
          go_wp2
          go_roundw
          case rel => exact ⟨q, xs ++ [y], rfl, HS2, HX2, hide R.out.1, by rw [List.length_append, List.length_singleton]; omega, R.out.2⟩
          case measure => show q.size < r.size; omega
        · have HE := hide (fun (w' : World) => show NumsAns w.heap.size s (.returned (.tuple #[.slice none 0 0, .bool false])) w' from .inr ⟨rfl, nums_bad HNE.out h2 hpy⟩)
          clear h2 hpq hp hm hpy
          go_wp2_with (first
            | (go_at_call 34; (with_reducible refine (CC _).mono ?_); rintro e w1 ⟨rfl, hdr⟩)
            | (go_at_call 49; (with_reducible refine (CN _).mono ?_); rintro e w2 ⟨⟨z, rfl⟩, b2⟩))
          exact bodyPost_ret (v := .tuple #[.slice none 0 0, .bool false]) (by simp [results, Tryd.results50, go_sem]) rfl ⟨HE.out _, bt HB.out (bt hdr.below b2)⟩
      · have CC := fun w => cut_no (c := 44) (by decide) (by decide) hr hm w
        rw [show txt [44] = ⟨#[44]⟩ from rfl] at CC
        have h2 := HSP.out
        rw [splitC_no hm] at h2
        rcases num_or r hr with ⟨y, hy, hpy, CN⟩ | ⟨hpy, CN⟩
        · have HS2 := hide (show byt s = rowB (xs ++ [y]) from nums_end (by rw [h2, hpy, List.map_append]; rfl))
          have HX2 := hide (show ∀ x ∈ xs ++ [y], I64P x from fun x hx => by
            rcases List.mem_append.1 hx with h | h
            · exact HXS.out x h
            · rw [List.mem_singleton] at h; rw [h]; exact hy)
          clear h2 hm hpy
          go_wp2_with (first
            | (go_at_call 34; (with_reducible refine (CC _).mono ?_); rintro e w1 ⟨rfl, hdr⟩)
            | (go_at_call 49; (with_reducible refine (CN _).mono ?_); rintro e w2 ⟨rfl, b2⟩)
            | (at_builtin; refine wpList_append_own _ rfl _ _ 27 rfl w.heap.size 2 i0 (.int .i64 0) 1 8 Tryd.underlying27 hi hz0 hz1 hz2 rfl (by decide) _ _ _ rfl ((HO.out.below (bt hdr.below b2)).alloc _) ⟨w2.heap.size, 0, none⟩ 1 1 [.int .i64 y] rfl rfl (new_one _ _ _) (one_int _ _) (by unfold maxLen; omega) (by omega) (by have := HB.out.size; have := (bt hdr.below b2).size; simp; omega) ?_; intro u' w3 own3 grow3 _))
          have R := own_more (bt HB.out (bt hdr.below b2)) (HO.out.below (bt hdr.below b2)) own3 grow3
          obtain ⟨ad, cap, rfl, _⟩ := R.1.form
          have HE := hide (show NumsAns w.heap.size s (.returned (.tuple #[.slice ad (xs ++ [y]).length cap, .bool true])) w3 from .inl ⟨_, _, rfl, HS2.out, HX2.out, R.1⟩)
          have HR := hide R.2
          clear own3 grow3 b2 CC CN R
          go_wp2
          exact bodyPost_ret (v := .tuple #[.slice ad (xs ++ [y]).length cap, .bool true]) (by simp [results, Tryd.results50, go_sem]) rfl ⟨HE.out, HR.out⟩
        · have HE := hide (fun (w' : World) => show NumsAns w.heap.size s (.returned (.tuple #[.slice none 0 0, .bool false])) w' from .inr ⟨rfl, nums_bad HNE.out h2 hpy⟩)
          clear h2 hm hpy
          go_wp2_with (first
            | (go_at_call 34; (with_reducible refine (CC _).mono ?_); rintro e w1 ⟨rfl, hdr⟩)
            | (go_at_call 49; (with_reducible refine (CN _).mono ?_); rintro e w2 ⟨⟨z, rfl⟩, b2⟩))
          exact bodyPost_ret (v := .tuple #[.slice none 0 0, .bool false]) (by simp [results, Tryd.results50, go_sem]) rfl ⟨HE.out _, bt HB.out (bt hdr.below b2)⟩
end Go.Proofs.YtlknopmpbkepjaaDoor

/- The deeds of a play in memory: a slice of records of three ints and a sample. -/
namespace Go.Proofs.YtlknopmpbkepjaaDoor
open Go.RowKit

theorem list_of {α : Type} (d : α) (P : Nat → α → Prop) : ∀ (n : Nat), (∀ i, i < n → ∃ x, P i x) → ∃ L : List α, L.length = n ∧ ∀ i, i < n → P i (L.getD i d)
  | 0, _ => ⟨[], rfl, fun _ h => absurd h (Nat.not_lt_zero _)⟩
  | n + 1, h => by
    obtain ⟨L, hL, hP⟩ := list_of d P n (fun i hi => h i (by omega))
    obtain ⟨x, hx⟩ := h n (by omega)
    refine ⟨L ++ [x], by simp [hL], fun i hi => ?_⟩
    by_cases e : i = n
    · subst e
      rw [List.getD_eq_getElem?_getD, List.getElem?_append_right (by omega), hL, Nat.sub_self]
      exact hx
    · rw [List.getD_eq_getElem?_getD, List.getElem?_append_left (by omega), ← List.getD_eq_getElem?_getD]
      exact hP i (by omega)
end Go.Proofs.YtlknopmpbkepjaaDoor

/- Operations in memory: a struct of seven ints and two slices of ints, by value and in a slice; opened. -/
namespace Go.Proofs.YtlknopmpbkepjaaDoor
open Go.RowKit


/-- An operation as a value. -/
def opV (o : Opr) (ax : Option Addr) (cx : Nat) (ay : Option Addr) (cy : Nat) : Value :=
  .agg #[.int .i64 o.kd, .int .i64 o.bd, .int .i64 o.sg, .int .i64 o.rd, .slice ax o.xs.length cx, .slice ay o.ys.length cy, .int .i64 o.fl, .int .i64 o.wd, .int .i64 o.ht]
def In64 (x : Int) : Prop := -9223372036854775808 ≤ x ∧ x ≤ 9223372036854775807
/-- What numbers it may have. -/
structure OpFits (o : Opr) : Prop where
  kd : In64 o.kd
  bd : In64 o.bd
  sg : In64 o.sg
  rd : In64 o.rd
  fl : In64 o.fl
  wd : In64 o.wd
  ht : In64 o.ht
  xs : AllK .i64 o.xs
  ys : AllK .i64 o.ys
  lx : o.xs.length ≤ maxLen
  ly : o.ys.length ≤ maxLen
theorem AllK.all {xs : List Int} (h : AllK .i64 xs) : All64 xs := fun _ hj => allK_i64 h hj
/-- Its weights stand in memory. -/
def OpAt (w : World) (o : Opr) (ax : Option Addr) (cx : Nat) (ay : Option Addr) (cy : Nat) : Prop := RowAt .i64 w ax o.xs ∧ RowAt .i64 w ay o.ys ∧ (ax = none → cx = 0) ∧ (ay = none → cy = 0)
theorem OpAt.below {w w' : World} {o : Opr} {ax ay : Option Addr} {cx cy : Nat} (h : OpAt w o ax cx ay cy) (hb : Below w.heap.size w w') : OpAt w' o ax cx ay cy := ⟨h.1.below hb, h.2.1.below hb, h.2.2⟩
/-- The nine cells of one. -/
def OpIn (w : World) (b q : Nat) (o : Opr) : Prop :=
  w.cell? ⟨b, q, none⟩ = some (.int .i64 o.kd) ∧ w.cell? ⟨b, q + 1, none⟩ = some (.int .i64 o.bd) ∧ w.cell? ⟨b, q + 2, none⟩ = some (.int .i64 o.sg) ∧ w.cell? ⟨b, q + 3, none⟩ = some (.int .i64 o.rd) ∧
  w.cell? ⟨b, q + 6, none⟩ = some (.int .i64 o.fl) ∧ w.cell? ⟨b, q + 7, none⟩ = some (.int .i64 o.wd) ∧ w.cell? ⟨b, q + 8, none⟩ = some (.int .i64 o.ht) ∧
  ∃ ax cx ay cy, w.cell? ⟨b, q + 4, none⟩ = some (.slice ax o.xs.length cx) ∧ w.cell? ⟨b, q + 5, none⟩ = some (.slice ay o.ys.length cy) ∧ OpAt w o ax cx ay cy
theorem OpIn.below {w w' : World} {b q : Nat} {o : Opr} (h : OpIn w b q o) (hb : Below w.heap.size w w') : OpIn w' b q o := by
  obtain ⟨h0, h1, h2, h3, h6, h7, h8, ax, cx, ay, cy, h4, h5, ha⟩ := h
  have hl := cell_ltL h0
  exact ⟨cb hb hl h0, cb hb hl h1, cb hb hl h2, cb hb hl h3, cb hb hl h6, cb hb hl h7, cb hb hl h8, ax, cx, ay, cy, cb hb hl h4, cb hb hl h5, ha.below hb⟩
/-- The slice at an address reads as these operations. -/
def OpsAt (w : World) (ad : Option Addr) (L : List Opr) : Prop :=
  L = [] ∨ ∃ b off, ad = some ⟨b, off, none⟩ ∧ ∀ j, j < L.length → OpIn w b (off + j * 9) (opAt L j)
def OpsFit (L : List Opr) : Prop := ∀ j, j < L.length → OpFits (opAt L j)
theorem OpsAt.get {w : World} {ad : Option Addr} {L : List Opr} (h : OpsAt w ad L) {j : Nat} (hj : j < L.length) : ∃ b off, ad = some ⟨b, off, none⟩ ∧ OpIn w b (off + j * 9) (opAt L j) := by
  rcases h with rfl | ⟨b, off, h1, h2⟩
  · exact absurd hj (Nat.not_lt_zero _)
  · exact ⟨b, off, h1, h2 j hj⟩
theorem OpsAt.below {w w' : World} {ad : Option Addr} {L : List Opr} (h : OpsAt w ad L) (hb : Below w.heap.size w w') : OpsAt w' ad L := by
  rcases h with h | ⟨b, off, h1, h2⟩
  · exact Or.inl h
  · exact Or.inr ⟨b, off, h1, fun j hj => (h2 j hj).below hb⟩
theorem in64_wf {x : Int} (h : (Lit.int .i64 x).wf = true) : In64 x := by
  simpa [In64, Lit.wf, IntKind.min, IntKind.max, IntKind.signed, IntKind.bits] using h
theorem rowo_cells {H : Type} {enc : TypeId × Value → H} {w : World} {base : Nat} {held : Bool} {fuel : Nat} {v : Value} {x : DataW H × List MemPlace}
    (h : DataW.trod enc Tryd.prog w base (fun _ => true) held fuel 27 [v] = some x) : ∃ (xs : List Int) (ad : Option Addr) (cap : Nat), v = .slice ad xs.length cap ∧ RowAt .i64 w ad xs ∧ AllK .i64 xs ∧ xs.length ≤ maxLen ∧ (ad = none → cap = 0) := by
  rcases Go.ChangeShapes.open_ints Tryd.underlying27 Tryd.underlying2 (by kernel_rfl) h with ⟨hcs, _⟩ | ⟨x, l, c, zs, hcs, _, hl, hm, hz, _, hcell, hwz⟩
  · obtain rfl : v = .slice none 0 0 := by simpa using hcs
    exact ⟨[], none, 0, rfl, Or.inl rfl, fun n hn => (by cases hn), Nat.zero_le _, fun _ => rfl⟩
  · obtain rfl : v = .slice (some x) l c := by simpa using hcs
    obtain ⟨xs, e, a, b, d, f⟩ := row_open (.inr ⟨x, zs, rfl, hl, hm, by simpa using hz, hcell, hwz⟩)
    subst e
    exact ⟨xs, _, _, rfl, a, b, d, f⟩
set_option maxRecDepth 100000 in
theorem op_cells {H : Type} {enc : TypeId × Value → H} {w : World} {base : Nat} {held : Bool} {fuel : Nat} {cs : List Value} {x : DataW H × List MemPlace}
    (h : DataW.trod enc Tryd.prog w base (fun _ => true) held fuel 30 cs = some x) (h9 : cs.length = 9) : ∃ (o : Opr) (ax : Option Addr) (cx : Nat) (ay : Option Addr) (cy : Nat),
      cs = [.int .i64 o.kd, .int .i64 o.bd, .int .i64 o.sg, .int .i64 o.rd, .slice ax o.xs.length cx, .slice ay o.ys.length cy, .int .i64 o.fl, .int .i64 o.wd, .int .i64 o.ht] ∧ OpAt w o ax cx ay cy ∧ OpFits o := by
  obtain ⟨ys, n', _, _, hlen, hyl, hf⟩ := DataW.trod_struct Tryd.underlying30 h
  have k1 : Tryd.prog.cellsOf 3 = 1 := by kernel_rfl
  have k2 : Tryd.prog.cellsOf 2 = 1 := by kernel_rfl
  have k3 : Tryd.prog.cellsOf 25 = 1 := by kernel_rfl
  have k4 : Tryd.prog.cellsOf 26 = 1 := by kernel_rfl
  have k5 : Tryd.prog.cellsOf 28 = 1 := by kernel_rfl
  have k6 : Tryd.prog.cellsOf 27 = 1 := by kernel_rfl
  match cs, h9 with
  | [c0, c1, c2, c3, c4, c5, c6, c7, c8], _ =>
    have hy : ys.length = 9 := hyl
    match ys, hy with
    | [y0, y1, y2, y3, y4, y5, y6, y7, y8], _ =>
      have f0 : DataW.trod enc Tryd.prog w base (fun _ => true) held n' 25 (List.take (Tryd.prog.cellsOf 25) (List.drop 0 [c0, c1, c2, c3, c4, c5, c6, c7, c8])) = some y0 := hf 0 _ rfl
      have f1 : DataW.trod enc Tryd.prog w base (fun _ => true) held n' 26 (List.take (Tryd.prog.cellsOf 26) (List.drop 1 [c0, c1, c2, c3, c4, c5, c6, c7, c8])) = some y1 := hf 1 _ rfl
      have f2 : DataW.trod enc Tryd.prog w base (fun _ => true) held n' 2 (List.take (Tryd.prog.cellsOf 2) (List.drop 2 [c0, c1, c2, c3, c4, c5, c6, c7, c8])) = some y2 := hf 2 _ rfl
      have f3 : DataW.trod enc Tryd.prog w base (fun _ => true) held n' 3 (List.take (Tryd.prog.cellsOf 3) (List.drop 3 [c0, c1, c2, c3, c4, c5, c6, c7, c8])) = some y3 := hf 3 _ rfl
      have f4 : DataW.trod enc Tryd.prog w base (fun _ => true) held n' 27 (List.take (Tryd.prog.cellsOf 27) (List.drop 4 [c0, c1, c2, c3, c4, c5, c6, c7, c8])) = some y4 := hf 4 _ rfl
      have f5 : DataW.trod enc Tryd.prog w base (fun _ => true) held n' 27 (List.take (Tryd.prog.cellsOf 27) (List.drop 5 [c0, c1, c2, c3, c4, c5, c6, c7, c8])) = some y5 := hf 5 _ rfl
      have f6 : DataW.trod enc Tryd.prog w base (fun _ => true) held n' 28 (List.take (Tryd.prog.cellsOf 28) (List.drop 6 [c0, c1, c2, c3, c4, c5, c6, c7, c8])) = some y6 := hf 6 _ rfl
      have f7 : DataW.trod enc Tryd.prog w base (fun _ => true) held n' 3 (List.take (Tryd.prog.cellsOf 3) (List.drop 7 [c0, c1, c2, c3, c4, c5, c6, c7, c8])) = some y7 := hf 7 _ rfl
      have f8 : DataW.trod enc Tryd.prog w base (fun _ => true) held n' 3 (List.take (Tryd.prog.cellsOf 3) (List.drop 8 [c0, c1, c2, c3, c4, c5, c6, c7, c8])) = some y8 := hf 8 _ rfl
      rw [k3] at f0
      rw [k4] at f1
      rw [k2] at f2
      rw [k1] at f3 f7 f8
      rw [k6] at f4 f5
      rw [k5] at f6
      obtain ⟨x0, q0, _, w0⟩ := DataW.trod_int Tryd.underlying25 f0
      obtain ⟨x1, q1, _, w1⟩ := DataW.trod_int Tryd.underlying26 f1
      obtain ⟨x2, q2, _, w2⟩ := DataW.trod_int Tryd.underlying2 f2
      obtain ⟨x3, q3, _, w3⟩ := DataW.trod_int Tryd.underlying3 f3
      obtain ⟨x6, q6, _, w6⟩ := DataW.trod_int Tryd.underlying28 f6
      obtain ⟨x7, q7, _, w7⟩ := DataW.trod_int Tryd.underlying3 f7
      obtain ⟨x8, q8, _, w8⟩ := DataW.trod_int Tryd.underlying3 f8
      simp at q0 q1 q2 q3 q6 q7 q8
      subst q0 q1 q2 q3 q6 q7 q8
      obtain ⟨xs, ax, cx, rfl, r4, a4, l4, z4⟩ := rowo_cells f4
      obtain ⟨zs, ay, cy, rfl, r5, a5, l5, z5⟩ := rowo_cells f5
      exact ⟨⟨x0, x1, x2, x3, xs, zs, x6, x7, x8⟩, ax, cx, ay, cy, rfl, ⟨r4, r5, z4, z5⟩, in64_wf w0, in64_wf w1, in64_wf w2, in64_wf w3, in64_wf w6, in64_wf w7, in64_wf w8, a4, a5, l4, l5⟩
set_option maxRecDepth 100000 in
theorem op_open {H : Type} {enc : TypeId × Value → H} {w : World} {r : Reach} {b0 base : Nat} {held : Bool} {v : Value} {d : DataW H} {p : List MemPlace}
    (hv : Value.okWide Tryd.prog w r b0 30 v) (h : DataW.Trod enc Tryd.prog w base (fun _ => true) held 30 v d p) : ∃ (o : Opr) (ax : Option Addr) (cx : Nat) (ay : Option Addr) (cy : Nat), v = opV o ax cx ay cy ∧ OpAt w o ax cx ay cy ∧ OpFits o := by
  obtain ⟨cs, rfl, hsz⟩ := Go.WideShapes.okWide_struct Tryd.underlying30 hv
  obtain ⟨n, hn⟩ := h
  have hC : Tryd.prog.cellsOf 30 = 9 := by kernel_rfl
  rw [hC] at hsz
  obtain ⟨o, ax, cx, ay, cy, e, a, b⟩ := op_cells hn (by simpa [Value.cells] using hsz)
  obtain ⟨l⟩ := cs
  simp only [Value.cells] at e
  subst e
  exact ⟨o, ax, cx, ay, cy, rfl, a, b⟩
set_option maxRecDepth 100000 in
/-- Operations that come in as a slice. -/
theorem ops_open {H : Type} {enc : TypeId × Value → H} {w : World} {base : Nat} {held : Bool} {fuel : Nat} {ad : Option Addr} {len cap : Nat} {x : DataW H × List MemPlace}
    (h : DataW.trod enc Tryd.prog w base (fun _ => true) held fuel 22 [.slice ad len cap] = some x) :
    ∃ L : List Opr, L.length = len ∧ (OpsAt w ad L ∧ OpsFit L) ∧ L.length ≤ maxLen ∧ (ad = none → cap = 0) := by
  rcases Go.Deep.open_slice Tryd.underlying22 h with ⟨hcs, _⟩ | ⟨a, len', cap', m, n, D, Pl, hcs, _, hl, hm, hmm, _, hi⟩
  · simp only [List.cons.injEq, Value.slice.injEq, and_true] at hcs
    obtain ⟨rfl, rfl, rfl⟩ := hcs
    exact ⟨[], rfl, ⟨Or.inl rfl, fun _ hj => absurd hj (Nat.not_lt_zero _)⟩, Nat.zero_le _, fun _ => rfl⟩
  · simp only [List.cons.injEq, Value.slice.injEq, and_true] at hcs
    obtain ⟨rfl, rfl, rfl⟩ := hcs
    have hlm : len ≤ m := by rw [hmm]; split <;> omega
    have hC : Tryd.prog.cellsOf 30 = 9 := by kernel_rfl
    have one : ∀ i, i < len → ∃ o : Opr, (∃ ax cx ay cy, w.cell? (a.add (i * 9)) = some (.int .i64 o.kd) ∧ w.cell? (a.add (i * 9 + 1)) = some (.int .i64 o.bd) ∧ w.cell? (a.add (i * 9 + 2)) = some (.int .i64 o.sg) ∧ w.cell? (a.add (i * 9 + 3)) = some (.int .i64 o.rd) ∧ w.cell? (a.add (i * 9 + 6)) = some (.int .i64 o.fl) ∧ w.cell? (a.add (i * 9 + 7)) = some (.int .i64 o.wd) ∧ w.cell? (a.add (i * 9 + 8)) = some (.int .i64 o.ht) ∧
        w.cell? (a.add (i * 9 + 4)) = some (.slice ax o.xs.length cx) ∧ w.cell? (a.add (i * 9 + 5)) = some (.slice ay o.ys.length cy) ∧ OpAt w o ax cx ay cy) ∧ OpFits o := by
      intro i hil
      obtain ⟨cs', hc, ht⟩ := hi i (by omega)
      rw [hC] at hc
      obtain ⟨_, hcl, hat⟩ := World.cells?_some hc
      obtain ⟨o, ax, cx, ay, cy, rfl, oa, ofi⟩ := op_cells ht hcl
      refine ⟨o, ⟨ax, cx, ay, cy, ?_⟩, ofi⟩
      have a0 := hat 0 (by decide)
      have a1 := hat 1 (by decide)
      have a2 := hat 2 (by decide)
      have a3 := hat 3 (by decide)
      have a4 := hat 4 (by decide)
      have a5 := hat 5 (by decide)
      have a6 := hat 6 (by decide)
      have a7 := hat 7 (by decide)
      have a8 := hat 8 (by decide)
      rw [Go.Deep.add_add] at a0 a1 a2 a3 a4 a5 a6 a7 a8
      exact ⟨a0, a1, a2, a3, a6, a7, a8, a4, a5, oa⟩
    obtain ⟨L, hL, hP⟩ := list_of op0 _ len one
    refine ⟨L, hL, ⟨?_, fun j hj => (hP j (by omega)).2⟩, by omega, fun e => by cases e⟩
    by_cases h0 : len = 0
    · exact Or.inl (List.eq_nil_of_length_eq_zero (by omega))
    · obtain ⟨b, off, spot⟩ := a
      have hspot : spot = none := by
        obtain ⟨⟨ax, cx, ay, cy, this, _⟩, _⟩ := hP 0 (by omega)
        simpa [Addr.add] using World.cell?_spot this
      subst hspot
      refine Or.inr ⟨b, off, rfl, fun j hj => ?_⟩
      obtain ⟨⟨ax, cx, ay, cy, g0, g1, g2, g3, g6, g7, g8, g4, g5, oa⟩, _⟩ := hP j (by omega)
      rw [addr_add] at g0 g1 g2 g3 g4 g5 g6 g7 g8
      exact ⟨g0, g1, g2, g3, g6, g7, g8, ax, cx, ay, cy, g4, g5, oa⟩
end Go.Proofs.YtlknopmpbkepjaaDoor

/- Operations as texts: the document's Clean and Word. Written by gen_XS13G.py. -/
namespace Go.Proofs.YtlknopmpbkepjaaDoor
open Go.RowKit


set_option maxHeartbeats 4000000 in
set_option maxRecDepth 100000 in
theorem dclean_any (o : Opr) (ax : Option Addr) (cx : Nat) (ay : Option Addr) (cy : Nat) (w : World) (hA : OpAt w o ax cx ay cy) :
    Calls Tryd.prog 14 #[opV o ax cx ay cy] w fun e w' => (∃ bx dx by_ dy, e = .returned (opV (clnO o) bx dx by_ dy) ∧ OpAt w' (clnO o) bx dx by_ dy) ∧ Below w.heap.size w w' := by
  have HA := hide hA
  unfold opV clnO
  obtain ⟨kd, bd, sg, rd, xs, ys, fl, wd, ht⟩ := o
  simp only
  clear hA
  rcases kind_of kd with rfl | rfl | rfl | rfl | ⟨h0, h1, h2, h3⟩
  · simp only [Int.reduceEq, if_true, if_false]
    go_enter Tryd.func14, Tryd.ntmps14
    go_wp2
    exact bodyPost_ret (v := .agg #[.int .i64 0, .int .i64 bd, .int .i64 sg, .int .i64 0, .slice none 0 0, .slice none 0 0, .int .i64 0, .int .i64 0, .int .i64 0]) (by simp [results, Tryd.results14, go_sem]) rfl ⟨⟨none, 0, none, 0, rfl, ⟨.inl rfl, .inl rfl, fun _ => rfl, fun _ => rfl⟩⟩, by repeat (first | exact Below.refl _ _ | with_reducible refine ba ?_ _)⟩
  · simp only [Int.reduceEq, if_true, if_false]
    go_enter Tryd.func14, Tryd.ntmps14
    go_wp2
    exact bodyPost_ret (v := .agg #[.int .i64 1, .int .i64 bd, .int .i64 0, .int .i64 rd, .slice none 0 0, .slice none 0 0, .int .i64 0, .int .i64 0, .int .i64 0]) (by simp [results, Tryd.results14, go_sem]) rfl ⟨⟨none, 0, none, 0, rfl, ⟨.inl rfl, .inl rfl, fun _ => rfl, fun _ => rfl⟩⟩, by repeat (first | exact Below.refl _ _ | with_reducible refine ba ?_ _)⟩
  · simp only [Int.reduceEq, if_true, if_false]
    go_enter Tryd.func14, Tryd.ntmps14
    go_wp2
    exact bodyPost_ret (v := .agg #[.int .i64 2, .int .i64 bd, .int .i64 0, .int .i64 0, .slice ax xs.length cx, .slice ay ys.length cy, .int .i64 0, .int .i64 0, .int .i64 0]) (by simp [results, Tryd.results14, go_sem]) rfl ⟨⟨ax, cx, ay, cy, rfl, HA.out.below (by repeat (first | exact Below.refl _ _ | with_reducible refine ba ?_ _))⟩, by repeat (first | exact Below.refl _ _ | with_reducible refine ba ?_ _)⟩
  · simp only [Int.reduceEq, if_true, if_false]
    go_enter Tryd.func14, Tryd.ntmps14
    go_wp2
    exact bodyPost_ret (v := .agg #[.int .i64 3, .int .i64 bd, .int .i64 0, .int .i64 0, .slice none 0 0, .slice none 0 0, .int .i64 fl, .int .i64 wd, .int .i64 ht]) (by simp [results, Tryd.results14, go_sem]) rfl ⟨⟨none, 0, none, 0, rfl, ⟨.inl rfl, .inl rfl, fun _ => rfl, fun _ => rfl⟩⟩, by repeat (first | exact Below.refl _ _ | with_reducible refine ba ?_ _)⟩
  · simp only [if_neg h0, if_neg h1, if_neg h2, if_neg h3]
    have e0 : (kd == 0) = false := beq_eq_false_iff_ne.2 h0
    have e1 : (kd == 1) = false := beq_eq_false_iff_ne.2 h1
    have e2 : (kd == 2) = false := beq_eq_false_iff_ne.2 h2
    have e3 : (kd == 3) = false := beq_eq_false_iff_ne.2 h3
    clear h0 h1 h2 h3
    go_enter Tryd.func14, Tryd.ntmps14
    go_wp2
    exact bodyPost_ret (v := .agg #[.int .i64 kd, .int .i64 bd, .int .i64 0, .int .i64 0, .slice none 0 0, .slice none 0 0, .int .i64 0, .int .i64 0, .int .i64 0]) (by simp [results, Tryd.results14, go_sem]) rfl ⟨⟨none, 0, none, 0, rfl, ⟨.inl rfl, .inl rfl, fun _ => rfl, fun _ => rfl⟩⟩, by repeat (first | exact Below.refl _ _ | with_reducible refine ba ?_ _)⟩
end Go.Proofs.YtlknopmpbkepjaaDoor
