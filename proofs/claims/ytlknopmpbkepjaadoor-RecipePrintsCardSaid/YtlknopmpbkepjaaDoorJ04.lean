/- Parts, joined. -/
import Derived.Test.YtlknopmpbkepjaaDoorJ03
import Derived.Shelf.Unicode.DecodeAny
/- Operations as texts: how long they are; what is a number; cutting at the first place. Plain; no number of the program stands in it. -/
namespace Go.Proofs.YtlknopmpbkepjaaDoor
open Go.RowKit


/-- Is it so in 64 bits? -/
def I64P (x : Int) : Prop := -9223372036854775808 ≤ x ∧ x ≤ 9223372036854775807
theorem decF_le : ∀ (k n : Nat), n < 10 ^ (k + 1) → (decF n).length ≤ k + 1
  | 0, n, h => by rw [decF_small (by simpa using h)]; simp
  | k + 1, n, h => by
    by_cases g : n < 10
    · rw [decF_small g]; simp
    · rw [decF_more (by omega), List.length_append, List.length_singleton]
      have := decF_le k (n / 10) (by rw [Nat.pow_succ] at h; omega)
      omega
theorem decF_19 {n : Nat} (h : n ≤ 9223372036854775808) : (decF n).length ≤ 19 := decF_le 18 n (by omega)
theorem intF_20 {n : Int} (h : I64P n) : (intF n).length ≤ 20 := by
  unfold intF
  unfold I64P at h
  by_cases g : n < 0
  · rw [if_pos g, List.length_cons]
    have := decF_19 (n := (-n).toNat) (by omega)
    omega
  · rw [if_neg g]
    have := decF_19 (n := n.toNat) (by omega)
    omega
theorem rowB_len : ∀ {xs : List Int}, (∀ x ∈ xs, I64P x) → (rowB xs).length ≤ 21 * xs.length
  | [], _ => Nat.le_refl _
  | [x], h => by
    show (intF x).length ≤ 21
    have := intF_20 (h x List.mem_cons_self)
    omega
  | x :: y :: l, h => by
    show (intF x ++ 44 :: rowB (y :: l)).length ≤ _
    have h1 := intF_20 (h x List.mem_cons_self)
    have h2 := rowB_len (xs := y :: l) (fun z hz => h z (List.mem_cons_of_mem _ hz))
    rw [List.length_append, List.length_cons, List.length_cons]
    omega
theorem rowB_more {xs : List Int} (h : xs ≠ []) (x : Int) : rowB (xs ++ [x]) = rowB xs ++ 44 :: intF x := by
  induction xs with
  | nil => exact absurd rfl h
  | cons a l ih =>
    cases l with
    | nil => rfl
    | cons b l =>
      have := ih (List.cons_ne_nil _ _)
      show intF a ++ 44 :: rowB ((b :: l) ++ [x]) = (intF a ++ 44 :: rowB (b :: l)) ++ 44 :: intF x
      rw [this]
      simp
theorem filt_len (f : Int) : (filtB f).length ≤ 7 := by
  unfold filtB
  repeat' split
  all_goals decide
theorem bord_len (b : Int) : (bordB b).length ≤ 6 := by
  unfold bordB
  repeat' split
  all_goals decide
theorem sgn_len (k : Int) : (sgnB k).length ≤ 3 := by
  unfold sgnB
  repeat' split
  all_goals decide
theorem body_len {o : Opr} (h : FitW o) : (bodyB o).length ≤ 50 + 21 * (o.xs.length + o.ys.length) := by
  obtain ⟨h1, h2, h3⟩ := h
  have i1 := intF_20 (n := o.sg) (h1 _ (by simp))
  have i2 := intF_20 (n := o.rd) (h1 _ (by simp))
  have i3 := intF_20 (n := o.wd) (h1 _ (by simp))
  have i4 := intF_20 (n := o.ht) (h1 _ (by simp))
  have r1 := rowB_len h2
  have r2 := rowB_len h3
  have f1 := filt_len o.fl
  unfold bodyB
  have hm : mulB.length = 2 := rfl
  by_cases h0 : o.kd = 0
  · rw [if_pos h0]; omega
  by_cases h1' : o.kd = 1
  · rw [if_neg h0, if_pos h1']; omega
  by_cases h2' : o.kd = 2
  · rw [if_neg h0, if_neg h1', if_pos h2', List.length_append, List.length_append]; omega
  rw [if_neg h0, if_neg h1', if_neg h2', List.length_append, List.length_append, List.length_append, List.length_cons]
  omega
theorem word_len {o : Opr} (h : FitW o) : (wordB o).length ≤ 60 + 21 * (o.xs.length + o.ys.length) := by
  have b1 := body_len h
  have b2 := bord_len o.bd
  have b3 := sgn_len o.kd
  unfold wordB
  simp only [List.length_append, List.length_cons]
  omega
theorem printB_more {L : List Opr} (h : L ≠ []) (o : Opr) : printB (L ++ [o]) = printB L ++ 59 :: wordB o := by
  induction L with
  | nil => exact absurd rfl h
  | cons a l ih =>
    cases l with
    | nil => rfl
    | cons b l =>
      have := ih (List.cons_ne_nil _ _)
      show wordB a ++ 59 :: printB ((b :: l) ++ [o]) = (wordB a ++ 59 :: printB (b :: l)) ++ 59 :: wordB o
      rw [this]
      simp
theorem printB_app {L M : List Opr} (h : L ≠ []) (g : M ≠ []) : printB (L ++ M) = printB L ++ 59 :: printB M := by
  induction L with
  | nil => exact absurd rfl h
  | cons a l ih =>
    cases l with
    | nil =>
      cases M with
      | nil => exact absurd rfl g
      | cons b m => rfl
    | cons b l =>
      have := ih (List.cons_ne_nil _ _)
      show wordB a ++ 59 :: printB ((b :: l) ++ M) = (wordB a ++ 59 :: printB (b :: l)) ++ 59 :: printB M
      rw [this]
      simp
theorem print_len : ∀ {L : List Opr} (B : Nat), (∀ o ∈ L, (wordB o).length ≤ B) → (printB L).length ≤ (B + 1) * L.length
  | [], _, _ => Nat.zero_le _
  | [o], B, h => by
    show (wordB o).length ≤ _
    have := h o List.mem_cons_self
    rw [List.length_singleton]
    omega
  | o :: p :: L, B, h => by
    show (wordB o ++ 59 :: printB (p :: L)).length ≤ _
    have h1 := h o List.mem_cons_self
    have h2 := print_len (L := p :: L) B (fun q hq => h q (List.mem_cons_of_mem _ hq))
    rw [List.length_append, List.length_cons, List.length_cons (a := o), Nat.mul_add]
    omega
/-! ### The bytes are bytes -/
def Byts (l : List Int) : Prop := ∀ x ∈ l, 0 ≤ x ∧ x ≤ 255
theorem byts_int (n : Int) : Byts (intF n) := fun x h => by have := intF_mem h; omega
theorem byts_row (xs : List Int) : Byts (rowB xs) := fun x h => by have := rowB_mem h; omega
theorem sgn_in {k y : Int} (h : y ∈ sgnB k) : 0 ≤ y ∧ y ≤ 255 := by
  unfold sgnB at h
  repeat' split at h
  all_goals simp at h
  all_goals omega
theorem byts_body (o : Opr) : Byts (bodyB o) := by
  intro y h
  unfold bodyB at h
  by_cases h0 : o.kd = 0
  · rw [if_pos h0] at h; have := intF_mem h; omega
  rw [if_neg h0] at h
  by_cases h1 : o.kd = 1
  · rw [if_pos h1] at h; have := intF_mem h; omega
  rw [if_neg h1] at h
  by_cases h2 : o.kd = 2
  · rw [if_pos h2] at h
    rcases List.mem_append.1 h with h | h
    · have := rowB_mem h; omega
    rcases List.mem_append.1 h with h | h
    · have := mul_mem h; omega
    · have := rowB_mem h; omega
  rw [if_neg h2] at h
  rcases List.mem_append.1 h with h | h
  · have := intF_mem h; omega
  rcases List.mem_append.1 h with h | h
  · have := mul_mem h; omega
  rcases List.mem_append.1 h with h | h
  · have := intF_mem h; omega
  rcases List.mem_cons.1 h with h | h
  · omega
  · have := filt_mem h; omega
theorem byts_word (o : Opr) : Byts (wordB o) := by
  intro y h
  unfold wordB at h
  rcases List.mem_append.1 h with h | h
  · exact sgn_in h
  rcases List.mem_append.1 h with h | h
  · exact byts_body o y h
  rcases List.mem_cons.1 h with h | h
  · omega
  · have := bord_mem h; omega
theorem byts_print (L : List Opr) : Byts (printB L) := by
  intro y h
  rcases join_mem h with h | ⟨p, hp, h⟩
  · omega
  · obtain ⟨o, _, rfl⟩ := List.mem_map.1 hp
    exact byts_word o y h
/-- A text by its bytes. -/
def txt (l : List Int) : ByteArray := strOfNums l
theorem byt_txt {l : List Int} (h : Byts l) : byt (txt l) = l := byt_nums h
theorem txt_of {t : ByteArray} {l : List Int} (h : byt t = l) : t = txt l := byt_inj (h.trans (byt_nums (fun x hx => byt_in t x (by rw [h]; exact hx))).symm)
theorem txt_size {l : List Int} (h : Byts l) : (txt l).size = l.length := by rw [← byt_len, byt_txt h]
theorem txt_byt (t : ByteArray) : txt (byt t) = t := (txt_of rfl).symm
theorem txt_inj {a b : List Int} (ha : Byts a) (hb : Byts b) : txt a = txt b ↔ a = b :=
  ⟨fun e => by rw [← byt_txt ha, e, byt_txt hb], fun e => by rw [e]⟩
/-! ### What is a number -/
/-- The digits of one: all of them, not too many, what they stand for. -/
theorem num_has {s : List Int} {y : Int} (h : s = intF y) :
    (s ≠ [] ∧ ((s.getD 0 0 = 45 ∧ y < 0 ∧ s.drop 1 = decF (-y).toNat) ∨ (s.getD 0 0 ≠ 45 ∧ 0 ≤ y ∧ s = decF y.toNat))) := by
  subst h
  refine ⟨intF_ne y, ?_⟩
  unfold intF
  by_cases g : y < 0
  · rw [if_pos g]
    exact .inl ⟨rfl, g, rfl⟩
  · rw [if_neg g]
    refine .inr ⟨?_, by omega, rfl⟩
    match h : decF y.toNat with
    | [] => exact absurd h (decF_ne _)
    | x :: t =>
      have := decF_digit y.toNat x (by rw [h]; exact List.mem_cons_self)
      show x ≠ 45
      omega
theorem val_bound : ∀ (l : List Int) (a : Int), 0 ≤ a → (∀ x ∈ l, 48 ≤ x ∧ x ≤ 57) → a * 10 ^ l.length ≤ l.foldl (fun a x => 10 * a + (x - 48)) a ∧ l.foldl (fun a x => 10 * a + (x - 48)) a < (a + 1) * 10 ^ l.length
  | [], a, _, _ => by simp; omega
  | x :: l, a, ha, h => by
    have hx := h x List.mem_cons_self
    obtain ⟨h1, h2⟩ := val_bound l (10 * a + (x - 48)) (by omega) (fun y hy => h y (List.mem_cons_of_mem _ hy))
    show a * 10 ^ (l.length + 1) ≤ l.foldl (fun a x => 10 * a + (x - 48)) (10 * a + (x - 48)) ∧ l.foldl (fun a x => 10 * a + (x - 48)) (10 * a + (x - 48)) < (a + 1) * 10 ^ (l.length + 1)
    have hp : (0 : Int) ≤ 10 ^ l.length := Int.pow_nonneg (by decide)
    have e1 : a * 10 ^ (l.length + 1) = (10 * a) * 10 ^ l.length := by rw [Int.pow_succ]; grind
    have e2 : (a + 1) * 10 ^ (l.length + 1) = (10 * a + 10) * 10 ^ l.length := by rw [Int.pow_succ]; grind
    have m1 : (10 * a) * 10 ^ l.length ≤ (10 * a + (x - 48)) * 10 ^ l.length := Int.mul_le_mul_of_nonneg_right (by omega) hp
    have m2 : (10 * a + (x - 48) + 1) * 10 ^ l.length ≤ (10 * a + 10) * 10 ^ l.length := Int.mul_le_mul_of_nonneg_right (by omega) hp
    omega
theorem val_19 {l : List Int} (hl : l.length ≤ 19) (h : ∀ x ∈ l, 48 ≤ x ∧ x ≤ 57) : 0 ≤ valF l ∧ valF l < 10000000000000000000 := by
  obtain ⟨h1, h2⟩ := val_bound l 0 (Int.le_refl _) h
  rw [Int.zero_mul] at h1
  rw [show (0 : Int) + 1 = 1 from rfl, Int.one_mul] at h2
  have h4 : (10 : Nat) ^ l.length ≤ 10 ^ 19 := Nat.pow_le_pow_right (by decide) hl
  have h5 : ((10 : Int) ^ l.length) = (((10 : Nat) ^ l.length : Nat) : Int) := by push_cast; rfl
  have h6 : (10 : Nat) ^ 19 = 10000000000000000000 := by decide
  rw [h5] at h2
  unfold valF
  omega
/-! ### The first place -/
/-- Does t stand at i in s? -/
def AtP (t s : List Int) (i : Nat) : Prop := (s.drop i).take t.length = t
theorem at_app (a t b : List Int) : AtP t (a ++ (t ++ b)) a.length := by
  unfold AtP
  rw [List.drop_left, List.take_left]
theorem at_cut {t s : List Int} {i : Nat} (h : AtP t s i) : s = s.take i ++ (t ++ s.drop (i + t.length)) := by
  unfold AtP at h
  have e : t ++ s.drop (i + t.length) = s.drop i := by
    have d : s.drop (i + t.length) = (s.drop i).drop t.length := by rw [List.drop_drop]
    rw [d]
    conv => lhs; lhs; rw [← h]
    exact List.take_append_drop _ _
  rw [e, List.take_append_drop]
/-- One byte. -/
theorem at_one {c : Int} {s : List Int} {i : Nat} : AtP [c] s i ↔ s[i]? = some c := by
  unfold AtP
  cases h : s.drop i with
  | nil =>
    have := List.drop_eq_nil_iff.1 h
    rw [List.getElem?_eq_none this]
    simp
  | cons x u =>
    have e : s[i]? = some x := by rw [← List.head?_drop, h]; rfl
    rw [e]
    simp
theorem no_at {c : Int} {s : List Int} {n : Nat} (h : ∀ i, i < n → ¬ AtP [c] s i) : c ∉ s.take n := by
  intro hm
  obtain ⟨i, hi, e⟩ := List.getElem_of_mem hm
  rw [List.length_take] at hi
  refine h i (by omega) (at_one.2 ?_)
  rw [List.getElem_take] at e
  rw [List.getElem?_eq_getElem (by omega), e]
/-- The first place where × stands, behind what has no 195. -/
theorem mul_first {p q s : List Int} {i : Nat} (hp : (195 : Int) ∉ p) (hs : s = p ++ (mulB ++ q)) (h : AtP mulB s i) (hf : ∀ j, j < i → ¬ AtP mulB s j) : i = p.length := by
  rcases Nat.lt_trichotomy i p.length with g | g | g
  · exfalso
    have h1 : s[i]? = some 195 := by
      unfold AtP at h
      have := congrArg List.head? h
      rw [show mulB.head? = some 195 from rfl] at this
      rw [← List.head?_drop]
      cases hd : s.drop i with
      | nil => rw [hd] at this; simp at this
      | cons x u =>
        rw [hd] at this
        simpa [mulB] using this
    rw [hs, List.getElem?_append_left g, List.getElem?_eq_getElem g] at h1
    exact hp (Option.some.inj h1 ▸ List.getElem_mem g)
  · exact g
  · exact absurd (hs ▸ at_app p mulB q) (hf _ g)
end Go.Proofs.YtlknopmpbkepjaaDoor

/- Operations as texts: an operation that is clean does what it did; words out of their parts. Plain; no number of the program stands in it. -/
namespace Go.Proofs.YtlknopmpbkepjaaDoor
open Go.RowKit

/-! ### Words out of their parts -/
theorem word_of (o : Opr) : wordB o = sgnB o.kd ++ bodyB o ++ 124 :: bordB o.bd := by unfold wordB; rw [List.append_assoc]
/-- The sign that a text begins with. -/
theorem sgn_ne {k : Int} (h : 0 ≤ k ∧ k ≤ 3) : sgnB k ≠ [] := by
  rcases (show k = 0 ∨ k = 1 ∨ k = 2 ∨ k = 3 by omega) with rfl | rfl | rfl | rfl <;> decide
end Go.Proofs.YtlknopmpbkepjaaDoor

/- Operations as texts: what a word is made of; which it is, by its parts. Plain; no number of the program stands in it. -/
namespace Go.Proofs.YtlknopmpbkepjaaDoor
open Go.RowKit


theorem i64_few {f : Int} (h : 0 ≤ f ∧ f ≤ 2) : -9223372036854775808 ≤ f ∧ f ≤ 9223372036854775807 := by omega
def g0 (bo x : Int) : Opr := ⟨0, bo, x, 0, [], [], 0, 0, 0⟩
def g1 (bo x : Int) : Opr := ⟨1, bo, 0, x, [], [], 0, 0, 0⟩
def g2 (bo : Int) (xs ys : List Int) : Opr := ⟨2, bo, 0, 0, xs, ys, 0, 0, 0⟩
def g3 (bo fl wd ht : Int) : Opr := ⟨3, bo, 0, 0, [], [], fl, wd, ht⟩
theorem z64 : -9223372036854775808 ≤ (0 : Int) ∧ (0 : Int) ≤ 9223372036854775807 := ⟨by decide, by decide⟩
theorem is_g0 {bo x : Int} {s a c : List Int} (hb : 0 ≤ bo ∧ bo ≤ 2) (hx : I64P x) (hs : s = a ++ 124 :: bordB bo) (ha : a = sgnB 0 ++ c) (hc : c = intF x) : IsWord s (g0 bo x) := by
  refine ⟨mayW_iff.2 ⟨show (0 : Int) ≤ 0 by decide, show (0 : Int) ≤ 3 by decide, hb.1, hb.2, fun e => absurd e (show ¬ (0 : Int) = 3 by decide)⟩, rfl, ⟨fun y hy => ?_, fun y hy => (by cases hy), fun y hy => (by cases hy)⟩, ?_⟩
  · simp only [List.mem_cons, List.not_mem_nil, or_false] at hy
    rcases hy with rfl | rfl | rfl | rfl | rfl
    · exact hx
    all_goals exact z64
  · rw [hs, ha, hc, word_of]; rfl
theorem is_g1 {bo x : Int} {s a c : List Int} (hb : 0 ≤ bo ∧ bo ≤ 2) (hx : I64P x) (hs : s = a ++ 124 :: bordB bo) (ha : a = sgnB 1 ++ c) (hc : c = intF x) : IsWord s (g1 bo x) := by
  refine ⟨mayW_iff.2 ⟨show (0 : Int) ≤ 1 by decide, show (1 : Int) ≤ 3 by decide, hb.1, hb.2, fun e => absurd e (show ¬ (1 : Int) = 3 by decide)⟩, rfl, ⟨fun y hy => ?_, fun y hy => (by cases hy), fun y hy => (by cases hy)⟩, ?_⟩
  · simp only [List.mem_cons, List.not_mem_nil, or_false] at hy
    rcases hy with rfl | rfl | rfl | rfl | rfl
    · exact z64
    · exact hx
    all_goals exact z64
  · rw [hs, ha, hc, word_of]; rfl
theorem is_g2 {bo : Int} {xs ys s a c : List Int} (hb : 0 ≤ bo ∧ bo ≤ 2) (hx : ∀ x ∈ xs, I64P x) (hy : ∀ x ∈ ys, I64P x) (hs : s = a ++ 124 :: bordB bo) (ha : a = sgnB 2 ++ c) (hc : c = rowB xs ++ (mulB ++ rowB ys)) : IsWord s (g2 bo xs ys) := by
  refine ⟨mayW_iff.2 ⟨show (0 : Int) ≤ 2 by decide, show (2 : Int) ≤ 3 by decide, hb.1, hb.2, fun e => absurd e (show ¬ (2 : Int) = 3 by decide)⟩, rfl, ⟨fun y hy => ?_, hx, hy⟩, ?_⟩
  · simp only [List.mem_cons, List.not_mem_nil, or_false] at hy
    rcases hy with rfl | rfl | rfl | rfl | rfl
    all_goals exact z64
  · rw [hs, ha, hc, word_of]; rfl
theorem is_g3 {bo fl wd ht : Int} {s a c : List Int} (hb : 0 ≤ bo ∧ bo ≤ 2) (hf : 0 ≤ fl ∧ fl ≤ 2) (hx : I64P wd) (hy : I64P ht) (hs : s = a ++ 124 :: bordB bo) (ha : a = sgnB 3 ++ c) (hc : c = intF wd ++ (mulB ++ (intF ht ++ 44 :: filtB fl))) : IsWord s (g3 bo fl wd ht) := by
  refine ⟨mayW_iff.2 ⟨show (0 : Int) ≤ 3 by decide, show (3 : Int) ≤ 3 by decide, hb.1, hb.2, fun _ => hf⟩, rfl, ⟨fun y hy2 => ?_, fun y hy => (by cases hy), fun y hy => (by cases hy)⟩, ?_⟩
  · simp only [List.mem_cons, List.not_mem_nil, or_false] at hy2
    rcases hy2 with rfl | rfl | rfl | rfl | rfl
    · exact z64
    · exact z64
    · exact i64_few hf
    · exact hx
    · exact hy
  · rw [hs, ha, hc, word_of]; rfl
/-- What a word's parts are, whatever they are called. -/
theorem is_parts {s a b : List Int} {o : Opr} (hs : s = a ++ 124 :: b) (ha : (124 : Int) ∉ a) (h : IsWord s o) : a = sgnB o.kd ++ bodyB o ∧ b = bordB o.bd ∧ (0 ≤ o.kd ∧ o.kd ≤ 3) ∧ (0 ≤ o.bd ∧ o.bd ≤ 2) ∧ (o.kd = 3 → 0 ≤ o.fl ∧ o.fl ≤ 2) ∧ FitW o := by
  obtain ⟨h1, _, h3, h4⟩ := h
  obtain ⟨k0, k1, b0, b1, f⟩ := mayW_iff.1 h1
  rw [word_of] at h4
  obtain ⟨e1, e2⟩ := first_inj ha (body_124 o) (hs.symm.trans h4)
  exact ⟨e1, e2, ⟨k0, k1⟩, ⟨b0, b1⟩, f, h3⟩
theorem no_bar {s : List Int} (h : (124 : Int) ∉ s) : ∀ o, ¬ IsWord s o := fun o ho => h (by
  rw [ho.2.2.2, word_of]
  exact List.mem_append.2 (.inr List.mem_cons_self))
theorem no_bord {s a b : List Int} (hs : s = a ++ 124 :: b) (ha : (124 : Int) ∉ a) (hb : ∀ bo, 0 ≤ bo ∧ bo ≤ 2 → b ≠ bordB bo) : ∀ o, ¬ IsWord s o := fun o ho => by
  obtain ⟨_, h2, _, h4, _⟩ := is_parts hs ha ho
  exact hb _ h4 h2
theorem no_sgn {s a b : List Int} (hs : s = a ++ 124 :: b) (ha : (124 : Int) ∉ a) (hk : ∀ k, 0 ≤ k ∧ k ≤ 3 → ∀ c, a ≠ sgnB k ++ c) : ∀ o, ¬ IsWord s o := fun o ho => by
  obtain ⟨h1, _, h3, _⟩ := is_parts hs ha ho
  exact hk _ h3 _ h1
theorem is_body {s a b c : List Int} {o : Opr} {k : Int} (hs : s = a ++ 124 :: b) (ha : (124 : Int) ∉ a) (hk : 0 ≤ k ∧ k ≤ 3) (hc : a = sgnB k ++ c) (h : IsWord s o) : o.kd = k ∧ c = bodyB o ∧ (k = 3 → 0 ≤ o.fl ∧ o.fl ≤ 2) ∧ FitW o := by
  obtain ⟨h1, _, h3, _, h5, h6⟩ := is_parts hs ha h
  obtain ⟨e1, e2⟩ := sgn_inj hk.1 hk.2 h3.1 h3.2 (hc.symm.trans h1)
  exact ⟨e1.symm, e2, fun e => h5 (e1 ▸ e), h6⟩
theorem no_g0 {s a b c : List Int} (hs : s = a ++ 124 :: b) (ha : (124 : Int) ∉ a) (hc : a = sgnB 0 ++ c) (h : ∀ x, I64P x → c ≠ intF x) : ∀ o, ¬ IsWord s o := fun o ho => by
  obtain ⟨h1, h2, _, h4⟩ := is_body hs ha ⟨by decide, by decide⟩ hc ho
  exact h o.sg (h4.1 _ (by simp)) (h2.trans (if_pos h1))
theorem no_g1 {s a b c : List Int} (hs : s = a ++ 124 :: b) (ha : (124 : Int) ∉ a) (hc : a = sgnB 1 ++ c) (h : ∀ x, I64P x → c ≠ intF x) : ∀ o, ¬ IsWord s o := fun o ho => by
  obtain ⟨h1, h2, _, h4⟩ := is_body hs ha ⟨by decide, by decide⟩ hc ho
  exact h o.rd (h4.1 _ (by simp)) (h2.trans ((if_neg (by omega)).trans (if_pos h1)))
theorem no_g2 {s a b c : List Int} (hs : s = a ++ 124 :: b) (ha : (124 : Int) ∉ a) (hc : a = sgnB 2 ++ c) (h : ∀ xs ys, (∀ x ∈ xs, I64P x) → (∀ y ∈ ys, I64P y) → c ≠ rowB xs ++ (mulB ++ rowB ys)) : ∀ o, ¬ IsWord s o := fun o ho => by
  obtain ⟨h1, h2, _, h4⟩ := is_body hs ha ⟨by decide, by decide⟩ hc ho
  exact h o.xs o.ys h4.2.1 h4.2.2 (h2.trans ((if_neg (by omega)).trans ((if_neg (by omega)).trans (if_pos h1))))
theorem no_g3 {s a b c : List Int} (hs : s = a ++ 124 :: b) (ha : (124 : Int) ∉ a) (hc : a = sgnB 3 ++ c) (h : ∀ wd ht fl, I64P wd → I64P ht → 0 ≤ fl ∧ fl ≤ 2 → c ≠ intF wd ++ (mulB ++ (intF ht ++ 44 :: filtB fl))) : ∀ o, ¬ IsWord s o := fun o ho => by
  obtain ⟨h1, h2, h3, h4⟩ := is_body hs ha ⟨by decide, by decide⟩ hc ho
  exact h o.wd o.ht o.fl (h4.1 _ (by simp)) (h4.1 _ (by simp)) (h3 rfl) (h2.trans ((if_neg (by omega)).trans ((if_neg (by omega)).trans (if_neg (by omega)))))
/-- Which border a name is; which sign a text begins with; which filter. -/
theorem bord_or (b : List Int) : (∃ bo, (0 ≤ bo ∧ bo ≤ 2) ∧ b = bordB bo) ∨ ∀ bo, 0 ≤ bo ∧ bo ≤ 2 → b ≠ bordB bo := by
  by_cases h : ∃ bo, (0 ≤ bo ∧ bo ≤ 2) ∧ b = bordB bo
  · exact .inl h
  · exact .inr fun bo h1 h2 => h ⟨bo, h1, h2⟩
theorem filt_or (b : List Int) : (∃ fl, (0 ≤ fl ∧ fl ≤ 2) ∧ b = filtB fl) ∨ ∀ fl, 0 ≤ fl ∧ fl ≤ 2 → b ≠ filtB fl := by
  by_cases h : ∃ fl, (0 ≤ fl ∧ fl ≤ 2) ∧ b = filtB fl
  · exact .inl h
  · exact .inr fun bo h1 h2 => h ⟨bo, h1, h2⟩
theorem sgn_or (a : List Int) : (∃ k, (0 ≤ k ∧ k ≤ 3) ∧ ∃ c, a = sgnB k ++ c) ∨ ∀ k, 0 ≤ k ∧ k ≤ 3 → ∀ c, a ≠ sgnB k ++ c := by
  by_cases h : ∃ k, (0 ≤ k ∧ k ≤ 3) ∧ ∃ c, a = sgnB k ++ c
  · exact .inl h
  · exact .inr fun k h1 c h2 => h ⟨k, h1, c, h2⟩
theorem mul_once {p q p' q' : List Int} (h : (195 : Int) ∉ p) (h' : (195 : Int) ∉ p') (e : p ++ (mulB ++ q) = p' ++ (mulB ++ q')) : p = p' ∧ q = q' := by
  obtain ⟨e1, e2⟩ := first_inj (c := 195) (p := 151 :: q) (q := 151 :: q') h h' e
  exact ⟨e1, (List.cons.inj e2).2⟩
end Go.Proofs.YtlknopmpbkepjaaDoor

/- Operations as texts: the signs as runes. Plain; no number of the program stands in it. -/
namespace Go.Proofs.YtlknopmpbkepjaaDoor
open Go.RowKit


def runeB (k : Int) : Int := if k = 0 then 963 else if k = 1 then 9633 else if k = 2 then 8855 else if k = 3 then 8596 else 0
theorem get_byt {s : ByteArray} {i : Nat} (h : i < s.size) : ((s.get! i).toNat : Int) = (byt s).getD i 0 := by
  rw [Utf8W.get!_of_lt s i h]
  exact byt_at h
theorem dec_at {s : ByteArray} (h : 0 < s.size) : Go.Lib.decodeGo s = Go.Lib.decodeN s.size (s.get! 0).toNat (s.get! 1).toNat (s.get! 2).toNat (s.get! 3).toNat := by
  unfold Go.Lib.decodeGo
  rw [if_neg (by omega), Go.Lib.decode_at]
  rfl
theorem dec_two {s : ByteArray} {a b : Nat} {c : List Int} (h : byt s = (a : Int) :: (b : Int) :: c) (ha : a / 32 = 6) (hb : b / 64 = 2) (hv : 128 ≤ a % 32 * 64 + b % 64) : Go.Lib.decodeGo s = (a % 32 * 64 + b % 64, 2) := by
  have hl := byt_len s
  rw [h, List.length_cons, List.length_cons] at hl
  have e0 := get_byt (s := s) (i := 0) (by omega)
  have e1 := get_byt (s := s) (i := 1) (by omega)
  rw [h] at e0 e1
  have f0 : (s.get! 0).toNat = a := Int.ofNat.inj (show ((_ : Nat) : Int) = ((_ : Nat) : Int) from e0)
  have f1 : (s.get! 1).toNat = b := Int.ofNat.inj (show ((_ : Nat) : Int) = ((_ : Nat) : Int) from e1)
  rw [dec_at (by omega), f0, f1]
  unfold Go.Lib.decodeN
  rw [if_neg (by omega), if_pos ⟨ha, by omega, hb⟩, if_pos (by omega)]
theorem dec_three {s : ByteArray} {a b d : Nat} {c : List Int} (h : byt s = (a : Int) :: (b : Int) :: (d : Int) :: c) (ha : a / 16 = 14) (hb : b / 64 = 2) (hd : d / 64 = 2) (hv : 2048 ≤ a % 16 * 4096 + b % 64 * 64 + d % 64) (hw : a % 16 * 4096 + b % 64 * 64 + d % 64 < 55296) : Go.Lib.decodeGo s = (a % 16 * 4096 + b % 64 * 64 + d % 64, 3) := by
  have hl := byt_len s
  rw [h, List.length_cons, List.length_cons, List.length_cons] at hl
  have e0 := get_byt (s := s) (i := 0) (by omega)
  have e1 := get_byt (s := s) (i := 1) (by omega)
  have e2 := get_byt (s := s) (i := 2) (by omega)
  rw [h] at e0 e1 e2
  have f0 : (s.get! 0).toNat = a := Int.ofNat.inj (show ((_ : Nat) : Int) = ((_ : Nat) : Int) from e0)
  have f1 : (s.get! 1).toNat = b := Int.ofNat.inj (show ((_ : Nat) : Int) = ((_ : Nat) : Int) from e1)
  have f2 : (s.get! 2).toNat = d := Int.ofNat.inj (show ((_ : Nat) : Int) = ((_ : Nat) : Int) from e2)
  rw [dec_at (by omega), f0, f1, f2]
  unfold Go.Lib.decodeN
  rw [if_neg (by omega), if_neg (by omega), if_pos ⟨ha, ⟨by omega, hb⟩, by omega, hd⟩, if_pos ⟨hv, .inl hw⟩]
/-- A text that begins with a kind's sign begins with its rune. -/
theorem dec_of {s : ByteArray} {c : List Int} {k : Int} (hk : 0 ≤ k ∧ k ≤ 3) (h : byt s = sgnB k ++ c) : ((Go.Lib.decodeGo s).1 : Int) = runeB k ∧ (Go.Lib.decodeGo s).2 = (sgnB k).length := by
  rcases (show k = 0 ∨ k = 1 ∨ k = 2 ∨ k = 3 by omega) with rfl | rfl | rfl | rfl
  · rw [dec_two (a := 207) (b := 131) (c := c) h (by decide) (by decide) (by decide)]
    exact ⟨rfl, rfl⟩
  · rw [dec_three (a := 226) (b := 150) (d := 161) (c := c) h (by decide) (by decide) (by decide) (by decide) (by decide)]
    exact ⟨rfl, rfl⟩
  · rw [dec_three (a := 226) (b := 138) (d := 151) (c := c) h (by decide) (by decide) (by decide) (by decide) (by decide)]
    exact ⟨rfl, rfl⟩
  · rw [dec_three (a := 226) (b := 134) (d := 148) (c := c) h (by decide) (by decide) (by decide) (by decide) (by decide)]
    exact ⟨rfl, rfl⟩
theorem decN_two {n b0 b1 b2 b3 r : Nat} (hr : 128 ≤ r ∧ r < 2048) (h : (Go.Lib.decodeN n b0 b1 b2 b3).1 = r) : 1 < n ∧ b0 / 32 = 6 ∧ b1 / 64 = 2 ∧ b0 % 32 * 64 + b1 % 64 = r := by
  unfold Go.Lib.decodeN at h
  repeat' split at h
  all_goals (simp only at h; first | omega | skip)
theorem decN_three {n b0 b1 b2 b3 r : Nat} (hr : 2048 ≤ r ∧ r < 55296) (h : (Go.Lib.decodeN n b0 b1 b2 b3).1 = r) : 2 < n ∧ b0 / 16 = 14 ∧ b1 / 64 = 2 ∧ b2 / 64 = 2 ∧ b0 % 16 * 4096 + b1 % 64 * 64 + b2 % 64 = r := by
  unfold Go.Lib.decodeN at h
  repeat' split at h
  all_goals (simp only at h; first | omega | skip)
theorem byt_two {s : ByteArray} (h : 1 < s.size) : ∃ c, byt s = ((s.get! 0).toNat : Int) :: ((s.get! 1).toNat : Int) :: c := by
  have hl := byt_len s
  have e0 := get_byt (s := s) (i := 0) (by omega)
  have e1 := get_byt (s := s) (i := 1) (by omega)
  match hb : byt s, hl with
  | [], hl => simp at hl; omega
  | [_], hl => simp at hl; omega
  | a :: b :: c, _ =>
    rw [hb] at e0 e1
    exact ⟨c, by rw [e0, e1]; rfl⟩
theorem byt_three {s : ByteArray} (h : 2 < s.size) : ∃ c, byt s = ((s.get! 0).toNat : Int) :: ((s.get! 1).toNat : Int) :: ((s.get! 2).toNat : Int) :: c := by
  have hl := byt_len s
  have e0 := get_byt (s := s) (i := 0) (by omega)
  have e1 := get_byt (s := s) (i := 1) (by omega)
  have e2 := get_byt (s := s) (i := 2) (by omega)
  match hb : byt s, hl with
  | [], hl => simp at hl; omega
  | [_], hl => simp at hl; omega
  | [_, _], hl => simp at hl; omega
  | a :: b :: d :: c, _ =>
    rw [hb] at e0 e1 e2
    exact ⟨c, by rw [e0, e1, e2]; rfl⟩
/-- A text that begins with a kind's rune begins with its sign. -/
theorem of_dec {s : ByteArray} {k : Int} (hk : 0 ≤ k ∧ k ≤ 3) (h : ((Go.Lib.decodeGo s).1 : Int) = runeB k) : ∃ c, byt s = sgnB k ++ c := by
  by_cases h0 : s.size = 0
  · exfalso
    unfold Go.Lib.decodeGo at h
    rw [if_pos h0] at h
    rcases (show k = 0 ∨ k = 1 ∨ k = 2 ∨ k = 3 by omega) with rfl | rfl | rfl | rfl <;> revert h <;> decide
  · rw [dec_at (by omega)] at h
    rcases (show k = 0 ∨ k = 1 ∨ k = 2 ∨ k = 3 by omega) with rfl | rfl | rfl | rfl
    · obtain ⟨h1, h2, h3, h4⟩ := decN_two (r := 963) (by decide) (Int.ofNat.inj h)
      obtain ⟨c, hc⟩ := byt_two h1
      refine ⟨c, hc.trans ?_⟩
      rw [show (s.get! 0).toNat = 207 by omega, show (s.get! 1).toNat = 131 by omega]
      rfl
    · obtain ⟨h1, h2, h3, h5, h4⟩ := decN_three (r := 9633) (by decide) (Int.ofNat.inj h)
      obtain ⟨c, hc⟩ := byt_three h1
      refine ⟨c, hc.trans ?_⟩
      rw [show (s.get! 0).toNat = 226 by omega, show (s.get! 1).toNat = 150 by omega, show (s.get! 2).toNat = 161 by omega]
      rfl
    · obtain ⟨h1, h2, h3, h5, h4⟩ := decN_three (r := 8855) (by decide) (Int.ofNat.inj h)
      obtain ⟨c, hc⟩ := byt_three h1
      refine ⟨c, hc.trans ?_⟩
      rw [show (s.get! 0).toNat = 226 by omega, show (s.get! 1).toNat = 138 by omega, show (s.get! 2).toNat = 151 by omega]
      rfl
    · obtain ⟨h1, h2, h3, h5, h4⟩ := decN_three (r := 8596) (by decide) (Int.ofNat.inj h)
      obtain ⟨c, hc⟩ := byt_three h1
      refine ⟨c, hc.trans ?_⟩
      rw [show (s.get! 0).toNat = 226 by omega, show (s.get! 1).toNat = 134 by omega, show (s.get! 2).toNat = 148 by omega]
      rfl
theorem dec_le (s : ByteArray) : (Go.Lib.decodeGo s).1 ≤ 1114111 := by
  unfold Go.Lib.decodeGo
  split
  · decide
  · rw [Go.Lib.decode_at]
    unfold Go.Lib.decodeN
    have := (s.get! 0).toNat_lt
    repeat' split
    all_goals (simp only; omega)
theorem rune_at {k : Int} : runeB k = 0 ↔ k < 0 ∨ 3 < k := by
  unfold runeB
  constructor
  · intro h
    repeat' split at h
    all_goals omega
  · intro h
    rw [if_neg (by omega), if_neg (by omega), if_neg (by omega), if_neg (by omega)]
theorem rune_inj {a b : Int} (ha : 0 ≤ a ∧ a ≤ 3) (h : runeB a = runeB b) : a = b := by
  rcases (show a = 0 ∨ a = 1 ∨ a = 2 ∨ a = 3 by omega) with rfl | rfl | rfl | rfl
  all_goals
    unfold runeB at h
    simp at h
    repeat' split at h
    all_goals omega
end Go.Proofs.YtlknopmpbkepjaaDoor
