/- Heads as lists of bytes: the text is parsed to its head; a text that is cut off; remarks and blanks. Plain arithmetic; no number of the program stands in it. -/
import Derived.Test.YtoppojilndnghaaDoorS10A
namespace Go.Proofs.YtoppojilndnghaaDoor
open Go.RowKit


/-- An int's digits. -/
def intF (n : Int) : List Int := if n < 0 then 45 :: decF (-n).toNat else decF n.toNat
theorem intF_pos {n : Int} (h : 0 ≤ n) : intF n = decF n.toNat := by unfold intF; rw [if_neg (by omega)]
/-- A head's text. -/
def textF (h : Hd) : List Int := 80 :: (if h.hc = 3 then 54 else 53) :: 10 :: (intF h.hw ++ 32 :: (intF h.hh ++ 10 :: (intF h.ht ++ [10])))
theorem over_dec (s : Bool) (n : Nat) (r : List Int) : overF false s (decF n ++ r) = (decF n ++ r, s) := by
  match h : decF n with
  | [] => exact absurd h (decF_ne n)
  | x :: t => exact over_digit (decF_digit n x (by rw [h]; exact List.mem_cons_self)) s (t ++ r)
/-- What begins with no digit. -/
theorem nd {x : Int} (h : digitF x = false) (r : List Int) : x :: r = [] ∨ digitF ((x :: r).getD 0 0) = false := .inr h
theorem sign_or (c : Int) : (if c = 3 then (54 : Int) else 53) = 53 ∨ (if c = 3 then (54 : Int) else 53) = 54 := by
  by_cases h : c = 3
  · exact .inr (if_pos h)
  · exact .inl (if_neg h)
theorem numF_sep {x : Int} (hx : blankF x = true) {n : Nat} (hn : n ≤ 999999999) {r : List Int} (hr : r = [] ∨ digitF (r.getD 0 0) = false) : numF (x :: (decF n ++ r)) = (0, (n : Int), r) :=
  numF_dec hn (by rw [over_blank hx, over_dec]) hr
theorem bodyF_one {len c : Int} {l r1 r2 r3 : List Int} {a b t : Int} (h1 : numF l = (0, a, r1)) (h2 : numF r1 = (0, b, r2)) (h3 : numF r2 = (0, t, r3)) : bodyF len c l = tailF len c a b t r3 := by
  unfold bodyF
  rw [h1]
  simp only [ne_eq, not_true_eq_false, if_false]
  rw [h2]
  simp only [not_true_eq_false, if_false]
  rw [h3]
  simp only [not_true_eq_false, if_false]
theorem tailF_ok {len c a b t : Int} {x : Int} {r : List Int} (hx : blankF x = true) (h : codeF a b c t = 0) : tailF len c a b t (x :: r) = (⟨c, a, b, t, len - (r.length : Int)⟩, 0) := by
  obtain ⟨t0, t1, a0, a1, b0, b1, hc, hm⟩ := codeF_zero h
  unfold tailF
  rw [if_neg (by simp), if_neg (by show ¬ blankF x = false; rw [hx]; decide), if_neg (by omega), if_neg (by rw [fitsF_iff.2 ⟨a0, a1, b0, b1, hc, hm⟩]; decide)]
  rw [List.length_cons]
  congr 2
  omega
theorem chan_of {c : Int} (h : c = 1 ∨ c = 3) : (if (if c = 3 then (54 : Int) else 53) = 54 then (3 : Int) else 1) = c := by rcases h with rfl | rfl <;> rfl
/-- There and back. -/
theorem parse_text {h : Hd} (hk : codeF h.hw h.hh h.hc h.ht = 0) (more : List Int) : parseF (textF h ++ more) = (⟨h.hc, h.hw, h.hh, h.ht, ((textF h).length : Int)⟩, 0) := by
  obtain ⟨t0, t1, a0, a1, b0, b1, hc, hm⟩ := codeF_zero hk
  have e : textF h ++ more = 80 :: (if h.hc = 3 then 54 else 53) :: 10 :: (decF h.hw.toNat ++ 32 :: (decF h.hh.toNat ++ 10 :: (decF h.ht.toNat ++ 10 :: more))) := by
    unfold textF
    rw [intF_pos (by omega), intF_pos (by omega), intF_pos (by omega)]
    simp
  have el : ((textF h ++ more).length : Int) = ((textF h).length : Int) + more.length := by rw [List.length_append]; omega
  rw [e] at el
  rw [e]
  unfold parseF
  rw [if_pos ⟨by simp, rfl, sign_or h.hc⟩]
  rw [show (80 :: (if h.hc = 3 then (54 : Int) else 53) :: 10 :: (decF h.hw.toNat ++ 32 :: (decF h.hh.toNat ++ 10 :: (decF h.ht.toNat ++ 10 :: more)))).getD 1 0 = if h.hc = 3 then (54 : Int) else 53 from rfl, chan_of hc]
  rw [show (80 :: (if h.hc = 3 then (54 : Int) else 53) :: 10 :: (decF h.hw.toNat ++ 32 :: (decF h.hh.toNat ++ 10 :: (decF h.ht.toNat ++ 10 :: more)))).drop 2 = 10 :: (decF h.hw.toNat ++ 32 :: (decF h.hh.toNat ++ 10 :: (decF h.ht.toNat ++ 10 :: more))) from rfl]
  rw [bodyF_one (numF_sep (by decide) (by omega) (nd (by decide) _)) (numF_sep (by decide) (by omega) (nd (by decide) _)) (numF_sep (by decide) (by omega) (nd (by decide) _))]
  rw [tailF_ok (by decide) (by rw [show ((h.hw.toNat : Nat) : Int) = h.hw by omega, show ((h.hh.toNat : Nat) : Int) = h.hh by omega, show ((h.ht.toNat : Nat) : Int) = h.ht by omega]; exact hk)]
  rw [el]
  congr 2
  all_goals omega
theorem take_cons {x : Int} {l : List Int} {j : Nat} (h : 1 ≤ j) : (x :: l).take j = x :: l.take (j - 1) := by
  obtain ⟨k, rfl⟩ : ∃ k, j = k + 1 := ⟨j - 1, by omega⟩
  rw [List.take_succ_cons, Nat.add_sub_cancel]
theorem take_dec (n : Nat) (r : List Int) {j : Nat} (h : j ≤ (decF n).length) : ∀ y ∈ (decF n ++ r).take j, 48 ≤ y ∧ y ≤ 57 := by
  intro y hy
  rw [List.take_append_of_le_length h] at hy
  exact decF_digit n y (List.mem_of_mem_take hy)
theorem take_over (n : Nat) {x : Int} {r : List Int} {j : Nat} (h : (decF n).length < j) : (decF n ++ x :: r).take j = decF n ++ x :: r.take (j - (decF n).length - 1) := by
  rw [List.take_append, List.take_of_length_le (by omega), take_cons (by omega)]
theorem bodyF_cut1 {len c : Int} {l : List Int} (h : (numF l).1 = 3) : bodyF len c l = (hd0, 3) := by
  unfold bodyF
  rw [if_pos (by omega), h]
theorem bodyF_cut2 {len c : Int} {l : List Int} (h : (numF l).1 = 0) (h' : (numF (numF l).2.2).1 = 3) : bodyF len c l = (hd0, 3) := by
  unfold bodyF
  rw [if_neg (by omega), if_pos (by omega), h']
theorem bodyF_cut3 {len c : Int} {l : List Int} (h : (numF l).1 = 0) (h' : (numF (numF l).2.2).1 = 0) (h'' : (numF (numF (numF l).2.2).2.2).1 = 3) : bodyF len c l = (hd0, 3) := by
  unfold bodyF
  rw [if_neg (by omega), if_neg (by omega), if_pos (by omega), h'']
theorem bodyF_cut4 {len c : Int} {l : List Int} (h : (numF l).1 = 0) (h' : (numF (numF l).2.2).1 = 0) (h'' : (numF (numF (numF l).2.2).2.2).1 = 0) (h3 : (numF (numF (numF l).2.2).2.2).2.2 = []) : bodyF len c l = (hd0, 3) := by
  unfold bodyF
  rw [if_neg (by omega), if_neg (by omega), if_neg (by omega), h3]
  unfold tailF
  rw [if_pos rfl]
/-- A text that is cut off. -/
theorem body_cut {len c : Int} {x1 x2 x3 x4 : Int} (y1 : blankF x1 = true) (y2 : blankF x2 = true) (y3 : blankF x3 = true) (z2 : digitF x2 = false) (z3 : digitF x3 = false) {a b t : Nat} (a9 : a ≤ 999999999) (b9 : b ≤ 999999999) (j : Nat)
    (hj : j < (x1 :: (decF a ++ x2 :: (decF b ++ x3 :: (decF t ++ [x4])))).length) : bodyF len c ((x1 :: (decF a ++ x2 :: (decF b ++ x3 :: (decF t ++ [x4])))).take j) = (hd0, 3) := by
  simp only [List.length_cons, List.length_append, List.length_nil] at hj
  by_cases h0 : j = 0
  · subst h0
    rw [List.take_zero]
    exact bodyF_cut1 (by rw [numF_nil])
  rw [take_cons (by omega)]
  by_cases h1 : j - 1 ≤ (decF a).length
  · rcases numF_cut y1 _ (take_dec a (x2 :: (decF b ++ x3 :: (decF t ++ [x4]))) h1) with e | ⟨e, e'⟩
    · exact bodyF_cut1 e
    · exact bodyF_cut2 e (by rw [e', numF_nil])
  rw [take_over a (by omega)]
  have E1 := numF_sep y1 a9 (r := x2 :: (decF b ++ x3 :: (decF t ++ [x4])).take (j - 1 - (decF a).length - 1)) (.inr z2)
  obtain ⟨j2, hj2⟩ : ∃ j2, j - 1 - (decF a).length - 1 = j2 := ⟨_, rfl⟩
  rw [hj2] at E1 ⊢
  by_cases h2 : j2 ≤ (decF b).length
  · rcases numF_cut y2 _ (take_dec b (x3 :: (decF t ++ [x4])) h2) with e | ⟨e, e'⟩
    · exact bodyF_cut2 (by rw [E1]) (by rw [E1]; exact e)
    · exact bodyF_cut3 (by rw [E1]) (by rw [E1]; exact e) (by rw [E1]; show (numF (numF _).2.2).1 = 3; rw [e', numF_nil])
  rw [take_over b (by omega)] at E1 ⊢
  have E2 := numF_sep y2 b9 (r := x3 :: (decF t ++ [x4]).take (j2 - (decF b).length - 1)) (.inr z3)
  obtain ⟨j3, hj3⟩ : ∃ j3, j2 - (decF b).length - 1 = j3 := ⟨_, rfl⟩
  rw [hj3] at E1 E2 ⊢
  rcases numF_cut y3 _ (take_dec t [x4] (show j3 ≤ (decF t).length by omega)) with e | ⟨e, e'⟩
  · exact bodyF_cut3 (by rw [E1]) (by rw [E1]; show (numF _).1 = 0; rw [E2]) (by rw [E1]; show (numF (numF _).2.2).1 = 3; rw [E2]; exact e)
  · exact bodyF_cut4 (by rw [E1]) (by rw [E1]; show (numF _).1 = 0; rw [E2]) (by rw [E1]; show (numF (numF _).2.2).1 = 0; rw [E2]; exact e) (by rw [E1]; show (numF (numF _).2.2).2.2 = []; rw [E2]; exact e')
theorem parse_cut {h : Hd} (hk : codeF h.hw h.hh h.hc h.ht = 0) {k : Nat} (hl : k < (textF h).length) : parseF ((textF h).take k) = (hd0, if k < 2 then 1 else 3) := by
  obtain ⟨t0, t1, a0, a1, b0, b1, hc, hm⟩ := codeF_zero hk
  have e : textF h = 80 :: (if h.hc = 3 then 54 else 53) :: (10 :: (decF h.hw.toNat ++ 32 :: (decF h.hh.toNat ++ 10 :: (decF h.ht.toNat ++ [10])))) := by
    unfold textF
    rw [intF_pos (by omega), intF_pos (by omega), intF_pos (by omega)]
  by_cases h2 : k < 2
  · rw [if_pos h2]
    unfold parseF
    rw [if_neg (by rw [List.length_take]; omega)]
  · rw [if_neg h2]
    rw [e] at hl ⊢
    rw [take_cons (by omega), take_cons (by omega)]
    unfold parseF
    rw [if_pos ⟨by simp, rfl, sign_or h.hc⟩]
    exact body_cut (by decide) (by decide) (by decide) (by decide) (by decide) (by omega) (by omega) _ (by simp only [List.length_cons] at hl ⊢; omega)
end Go.Proofs.YtoppojilndnghaaDoor
