/- Images as bytes: samples in one byte or in two; what bytes tell; there and back; bytes that are cut off. Plain arithmetic; no number of the program stands in it. -/
import Derived.Test.YtoppojilndnghaaDoorS10M
namespace Go.Proofs.YtoppojilndnghaaDoor
open Go.RowKit


/-- How many bytes a sample has. -/
def widthF (t : Int) : Int := if t ≤ 255 then 1 else 2
def widthN (t : Int) : Nat := if t ≤ 255 then 1 else 2
theorem widthF_one {t : Int} (h : t ≤ 255) : widthF t = 1 := if_pos h
theorem widthF_two {t : Int} (h : ¬ t ≤ 255) : widthF t = 2 := if_neg h
theorem widthN_one {t : Int} (h : t ≤ 255) : widthN t = 1 := if_pos h
theorem widthN_two {t : Int} (h : ¬ t ≤ 255) : widthN t = 2 := if_neg h
theorem width_nat (t : Int) : ((widthN t : Nat) : Int) = widthF t := by unfold widthN widthF; split <;> rfl
theorem widthN_in (t : Int) : 1 ≤ widthN t ∧ widthN t ≤ 2 := by unfold widthN; split <;> omega
/-- How many bytes all samples have. -/
def pnmF (a b c t : Int) : Int := if codeF a b c t = 0 then a * b * c * widthF t else 0
/-- A sample's bytes. -/
def oneF (t v : Int) : List Int := if t ≤ 255 then [v % 256] else [v / 256, v % 256]
/-- All samples' bytes. -/
def packF (t : Int) : List Int → List Int
  | [] => []
  | v :: r => oneF t v ++ packF t r
theorem packF_app (t : Int) : ∀ l r, packF t (l ++ r) = packF t l ++ packF t r
  | [], r => rfl
  | v :: l, r => by
    show oneF t v ++ packF t (l ++ r) = (oneF t v ++ packF t l) ++ packF t r
    rw [packF_app t l r, List.append_assoc]
theorem packF_more (t : Int) (l : List Int) (v : Int) : packF t (l ++ [v]) = packF t l ++ oneF t v := by
  rw [packF_app]
  show _ ++ (oneF t v ++ []) = _
  rw [List.append_nil]
theorem oneF_len (t v : Int) : (oneF t v).length = widthN t := by unfold oneF widthN; split <;> rfl
theorem packF_len (t : Int) : ∀ l, (packF t l).length = l.length * widthN t
  | [] => by show 0 = 0 * _; rw [Nat.zero_mul]
  | v :: l => by
    show (oneF t v ++ packF t l).length = (l.length + 1) * widthN t
    rw [List.length_append, oneF_len, packF_len t l, Nat.add_mul, Nat.one_mul, Nat.add_comm]
theorem oneF_in {t v : Int} (h0 : 0 ≤ v) (h1 : v ≤ 65535) : ∀ x ∈ oneF t v, 0 ≤ x ∧ x ≤ 255 := by
  intro x hx
  unfold oneF at hx
  split at hx
  · rw [List.mem_singleton] at hx
    omega
  · simp only [List.mem_cons, List.not_mem_nil, or_false] at hx
    rcases hx with hx | hx <;> omega
theorem packF_in (t : Int) : ∀ l : List Int, (∀ v ∈ l, 0 ≤ v ∧ v ≤ 65535) → ∀ x ∈ packF t l, 0 ≤ x ∧ x ≤ 255
  | [], _ => fun x hx => by cases hx
  | v :: l, h => by
    intro x hx
    rcases List.mem_append.1 hx with hx | hx
    · have := h v List.mem_cons_self
      exact oneF_in this.1 this.2 x hx
    · exact packF_in t l (fun u hu => h u (List.mem_cons_of_mem _ hu)) x hx
/-- Numbers out of two bytes each. -/
def pairsF : List Int → List Int
  | a :: b :: r => (256 * a + b) :: pairsF r
  | [_] => []
  | [] => []
/-- Samples out of bytes. -/
def unpackF (t : Int) (l : List Int) : List Int := if t ≤ 255 then l else pairsF l
theorem pairsF_len : ∀ (n : Nat) (l : List Int), l.length = n * 2 → (pairsF l).length = n
  | 0, l, h => by
    obtain rfl := List.eq_nil_of_length_eq_zero (by omega : l.length = 0)
    rfl
  | n + 1, [], h => by exfalso; simp only [List.length_nil] at h; omega
  | n + 1, [_], h => by exfalso; simp only [List.length_cons, List.length_nil] at h; omega
  | n + 1, a :: b :: r, h => by
    show (pairsF r).length + 1 = n + 1
    rw [pairsF_len n r (by simp only [List.length_cons] at h; omega)]
theorem pairsF_at : ∀ (j : Nat) (l : List Int), j * 2 + 1 < l.length → (pairsF l).getD j 0 = 256 * l.getD (j * 2) 0 + l.getD (j * 2 + 1) 0
  | _, [], h => by simp at h
  | _, [_], h => by simp only [List.length_cons, List.length_nil] at h; omega
  | 0, a :: b :: r, h => rfl
  | j + 1, a :: b :: r, h => by
    have := pairsF_at j r (by simp only [List.length_cons] at h; omega)
    rw [show (j + 1) * 2 = j * 2 + 1 + 1 by omega]
    show (pairsF r).getD j 0 = 256 * r.getD (j * 2) 0 + r.getD (j * 2 + 1) 0
    exact this
theorem pairsF_in : ∀ (n : Nat) (l : List Int), l.length ≤ n → (∀ x ∈ l, 0 ≤ x ∧ x ≤ 255) → ∀ x ∈ pairsF l, 0 ≤ x ∧ x ≤ 65535
  | _, [], _, _ => fun x hx => by cases hx
  | _, [_], _, _ => fun x hx => by cases hx
  | 0, a :: b :: r, hn, _ => by simp at hn
  | n + 1, a :: b :: r, hn, h => by
    intro x hx
    have ha := h a List.mem_cons_self
    have hb := h b (List.mem_cons_of_mem _ List.mem_cons_self)
    rcases List.mem_cons.1 hx with rfl | hx
    · omega
    · exact pairsF_in n r (by simp only [List.length_cons] at hn; omega) (fun y hy => h y (List.mem_cons_of_mem _ (List.mem_cons_of_mem _ hy))) x hx
theorem unpackF_len {t : Int} {n : Nat} {l : List Int} (h : l.length = n * widthN t) : (unpackF t l).length = n := by
  unfold unpackF
  by_cases ht : t ≤ 255
  · rw [if_pos ht, h, widthN_one ht, Nat.mul_one]
  · rw [if_neg ht]
    exact pairsF_len n l (by rw [h, widthN_two ht])
theorem unpackF_in {t : Int} {l : List Int} (h : ∀ x ∈ l, 0 ≤ x ∧ x ≤ 255) : ∀ x ∈ unpackF t l, 0 ≤ x ∧ x ≤ 65535 := by
  unfold unpackF
  by_cases ht : t ≤ 255
  · rw [if_pos ht]
    intro x hx
    have := h x hx
    omega
  · rw [if_neg ht]
    exact pairsF_in _ l (Nat.le_refl _) h
theorem unpack_one {t : Int} (ht : t ≤ 255) (l : List Int) : unpackF t l = l := if_pos ht
theorem unpack_two {t : Int} (ht : ¬ t ≤ 255) {l : List Int} {j : Nat} (h : j * 2 + 1 < l.length) : (unpackF t l).getD j 0 = 256 * l.getD (j * 2) 0 + l.getD (j * 2 + 1) 0 := by
  unfold unpackF
  rw [if_neg ht]
  exact pairsF_at j l h
theorem pairs_pack {t : Int} (ht : ¬ t ≤ 255) : ∀ l : List Int, (∀ v ∈ l, 0 ≤ v ∧ v ≤ 65535) → pairsF (packF t l) = l
  | [], _ => rfl
  | v :: l, h => by
    have hv := h v List.mem_cons_self
    show pairsF (oneF t v ++ packF t l) = _
    unfold oneF
    rw [if_neg ht]
    show (256 * (v / 256) + v % 256) :: pairsF (packF t l) = _
    rw [pairs_pack ht l (fun u hu => h u (List.mem_cons_of_mem _ hu)), show 256 * (v / 256) + v % 256 = v by omega]
theorem pack_small {t : Int} (ht : t ≤ 255) : ∀ l : List Int, (∀ v ∈ l, 0 ≤ v ∧ v ≤ 255) → packF t l = l
  | [], _ => rfl
  | v :: l, h => by
    have hv := h v List.mem_cons_self
    show oneF t v ++ packF t l = _
    unfold oneF
    rw [if_pos ht, pack_small ht l (fun u hu => h u (List.mem_cons_of_mem _ hu)), show v % 256 = v by omega]
    rfl
/-- There and back, of samples. -/
theorem unpack_pack {t : Int} (t1 : t ≤ 65535) {l : List Int} (h : ∀ v ∈ l, 0 ≤ v ∧ v ≤ t) : unpackF t (packF t l) = l := by
  unfold unpackF
  by_cases ht : t ≤ 255
  · rw [if_pos ht]
    exact pack_small ht l (fun v hv => by have := h v hv; omega)
  · rw [if_neg ht]
    exact pairs_pack ht l (fun v hv => by have := h v hv; omega)
/-! ### What bytes tell -/
def im0 : Im := ⟨0, 0, 0, 0, []⟩
/-- Of a head, and of what stands behind it. -/
def bodyI (h : Hd) (r : List Int) : Im × Int :=
  if (r.length : Int) < h.hw * h.hh * h.hc * widthF h.ht then (im0, 3)
  else if ∀ x ∈ unpackF h.ht (r.take (h.hw * h.hh * h.hc * widthF h.ht).toNat), x ≤ h.ht then (⟨h.hw, h.hh, h.hc, h.ht, unpackF h.ht (r.take (h.hw * h.hh * h.hc * widthF h.ht).toNat)⟩, 0) else (im0, 4)
/-- The image that bytes begin with, or what is wrong first. -/
def decodeF (xs : List Int) : Im × Int := if (parseF xs).2 = 0 then bodyI (parseF xs).1 (xs.drop (parseF xs).1.hs.toNat) else (im0, (parseF xs).2)
theorem decode_no {xs : List Int} (h : (parseF xs).2 ≠ 0) : decodeF xs = (im0, (parseF xs).2) := if_neg h
theorem decode_yes {xs : List Int} (h : (parseF xs).2 = 0) : decodeF xs = bodyI (parseF xs).1 (xs.drop (parseF xs).1.hs.toNat) := if_pos h
theorem digits_le : ∀ (l : List Int) (n : Int), (digitsF n l).2.length ≤ l.length
  | [], n => Nat.le_refl _
  | x :: t, n => by
    show (if digitF x = true then digitsF (min (10 * n + (x - 48)) 1000000000) t else (n, x :: t)).2.length ≤ _
    have := digits_le t (min (10 * n + (x - 48)) 1000000000)
    rw [List.length_cons]
    split
    · omega
    · exact Nat.le_refl _
theorem numF_le (l : List Int) : (numF l).2.2.length ≤ l.length := by
  unfold numF
  split
  · exact Nat.zero_le _
  · split
    · exact Nat.le_trans (digits_le _ _) (over_le _ _ _)
    · exact Nat.zero_le _
theorem tailF_zero {len c a b t : Int} {rest : List Int} (hc : c = 1 ∨ c = 3) (h0 : 0 ≤ t) (h : (tailF len c a b t rest).2 = 0) : codeF (tailF len c a b t rest).1.hw (tailF len c a b t rest).1.hh (tailF len c a b t rest).1.hc (tailF len c a b t rest).1.ht = 0 ∧ (tailF len c a b t rest).1.hs = len - (rest.length : Int) + 1 ∧ 1 ≤ rest.length := by
  unfold tailF at h ⊢
  by_cases h1 : rest = []
  · rw [if_pos h1] at h; cases h
  rw [if_neg h1] at h ⊢
  by_cases h2 : blankF (rest.getD 0 0) = false
  · rw [if_pos h2] at h; cases h
  rw [if_neg h2] at h ⊢
  by_cases h3 : a = 0 ∨ b = 0 ∨ t = 0 ∨ 65535 < t
  · rw [if_pos h3] at h; cases h
  rw [if_neg h3] at h ⊢
  by_cases h4 : fitsF a b c = false
  · rw [if_pos h4] at h; cases h
  rw [if_neg h4] at h ⊢
  refine ⟨?_, rfl, ?_⟩
  · show codeF a b c t = 0
    unfold codeF
    rw [if_neg (by omega), if_pos (by simpa using h4)]
  · rcases rest with _ | ⟨x, r⟩
    · exact absurd rfl h1
    · simp
theorem digits_pos : ∀ (l : List Int) (n : Int), 0 ≤ n → 0 ≤ (digitsF n l).1
  | [], n, h => h
  | x :: t, n, h => by
    show 0 ≤ (if digitF x = true then digitsF (min (10 * n + (x - 48)) 1000000000) t else (n, x :: t)).1
    by_cases hd : digitF x = true
    · rw [if_pos hd]
      have := digitF_iff.1 hd
      exact digits_pos t _ (by omega)
    · rw [if_neg hd]; exact h
theorem numF_pos (l : List Int) : 0 ≤ (numF l).2.1 := by
  unfold numF
  split
  · exact Int.le_refl _
  · split
    · exact digits_pos _ _ (Int.le_refl _)
    · exact Int.le_refl _
theorem body_zero {len c : Int} {l : List Int} (hc : c = 1 ∨ c = 3) (h : (bodyF len c l).2 = 0) : codeF (bodyF len c l).1.hw (bodyF len c l).1.hh (bodyF len c l).1.hc (bodyF len c l).1.ht = 0 ∧ len - (l.length : Int) + 1 ≤ (bodyF len c l).1.hs ∧ (bodyF len c l).1.hs ≤ len := by
  unfold bodyF at h ⊢
  by_cases h1 : (numF l).1 ≠ 0
  · rw [if_pos h1] at h; exact absurd h h1
  rw [if_neg h1] at h ⊢
  by_cases h2 : (numF (numF l).2.2).1 ≠ 0
  · rw [if_pos h2] at h; exact absurd h h2
  rw [if_neg h2] at h ⊢
  by_cases h3 : (numF (numF (numF l).2.2).2.2).1 ≠ 0
  · rw [if_pos h3] at h; exact absurd h h3
  rw [if_neg h3] at h ⊢
  obtain ⟨a, b, d⟩ := tailF_zero hc (numF_pos _) h
  refine ⟨a, ?_, ?_⟩
  all_goals
    rw [b]
    have e1 := numF_le l
    have e2 := numF_le (numF l).2.2
    have e3 := numF_le (numF (numF l).2.2).2.2
    omega
/-- What a head that there is tells. -/
theorem parse_zero {xs : List Int} (h : (parseF xs).2 = 0) : codeF (parseF xs).1.hw (parseF xs).1.hh (parseF xs).1.hc (parseF xs).1.ht = 0 ∧ 0 ≤ (parseF xs).1.hs ∧ (parseF xs).1.hs ≤ (xs.length : Int) := by
  unfold parseF at h ⊢
  by_cases h1 : 2 ≤ xs.length ∧ xs.getD 0 0 = 80 ∧ (xs.getD 1 0 = 53 ∨ xs.getD 1 0 = 54)
  · rw [if_pos h1] at h ⊢
    have hl : (xs.drop 2).length = xs.length - 2 := List.length_drop
    have hc : (if xs.getD 1 0 = 54 then (3 : Int) else 1) = 1 ∨ (if xs.getD 1 0 = 54 then (3 : Int) else 1) = 3 := by
      split
      · exact .inr rfl
      · exact .inl rfl
    obtain ⟨a, b, d⟩ := body_zero hc h
    exact ⟨a, by omega, d⟩
  · rw [if_neg h1] at h; cases h
theorem size_in {a b c t : Int} (h : codeF a b c t = 0) : ∃ n : Nat, (n : Int) = a * b * c ∧ 1 ≤ n ∧ n ≤ 268435456 ∧ a * b * c * widthF t = ((n * widthN t : Nat) : Int) ∧ (a * b * c * widthF t).toNat = n * widthN t := by
  obtain ⟨t0, t1, a0, a1, b0, b1, hc, hm⟩ := codeF_zero h
  have := side_mul3 a0 a1 b0 b1 hc
  refine ⟨(a * b * c).toNat, by omega, by omega, by omega, ?_, ?_⟩
  · rw [Int.natCast_mul, width_nat, Int.toNat_of_nonneg (by omega)]
  · rw [← width_nat, show a * b * c = (((a * b * c).toNat : Nat) : Int) by omega, ← Int.natCast_mul, Int.toNat_natCast, Int.toNat_natCast]
/-- An image's bytes. -/
def encF (I : Im) : List Int := textF ⟨I.ic, I.iw, I.ih, I.it, 0⟩ ++ packF I.it I.il
theorem imOk_code {I : Im} (h : ImOk I) : codeF I.iw I.ih I.ic I.it = 0 := by
  obtain ⟨a0, a1, b0, b1, hc, t0, t1, hm, _⟩ := h
  exact codeF_of t0 t1 a0 a1 b0 b1 hc hm
/-- What stands behind a text that is a head's. -/
theorem decode_text {a b c t : Int} (hk : codeF a b c t = 0) (r : List Int) : decodeF (textF ⟨c, a, b, t, 0⟩ ++ r) = bodyI ⟨c, a, b, t, ((textF ⟨c, a, b, t, 0⟩).length : Int)⟩ r := by
  have e := parse_text (h := ⟨c, a, b, t, 0⟩) hk r
  rw [decode_yes (by rw [e]), e]
  congr 1
  show (textF ⟨c, a, b, t, 0⟩ ++ r).drop (((textF ⟨c, a, b, t, 0⟩).length : Nat) : Int).toNat = r
  rw [Int.toNat_natCast, List.drop_left]
theorem body_short {h : Hd} {r : List Int} (hl : (r.length : Int) < h.hw * h.hh * h.hc * widthF h.ht) : bodyI h r = (im0, 3) := if_pos hl
theorem body_full {h : Hd} {r more : List Int} (hl : (r.length : Int) = h.hw * h.hh * h.hc * widthF h.ht) : bodyI h (r ++ more) = if ∀ x ∈ unpackF h.ht r, x ≤ h.ht then (⟨h.hw, h.hh, h.hc, h.ht, unpackF h.ht r⟩, 0) else (im0, 4) := by
  unfold bodyI
  rw [if_neg (by rw [List.length_append, ← hl]; omega), ← hl, Int.toNat_natCast, List.take_left]
/-- There and back. -/
theorem decode_enc {I : Im} (h : ImOk I) (more : List Int) : decodeF (encF I ++ more) = (I, 0) := by
  have hk := imOk_code h
  obtain ⟨n, hn, n0, n1, hs, _⟩ := size_in hk
  unfold encF
  rw [List.append_assoc, decode_text hk]
  obtain ⟨_, _, _, _, _, _, t1, _, hl, hx⟩ := h
  rw [body_full (by rw [packF_len]; show _ = I.iw * I.ih * I.ic * widthF I.it; rw [hs]; congr 2; omega)]
  show (if ∀ x ∈ unpackF I.it (packF I.it I.il), x ≤ I.it then _ else _) = _
  rw [show (unpackF (Hd.mk I.ic I.iw I.ih I.it ((textF ⟨I.ic, I.iw, I.ih, I.it, 0⟩).length : Int)).ht (packF I.it I.il)) = I.il from unpack_pack t1 hx, if_pos (fun x hx' => (hx x hx').2)]
/-- Bytes that are cut off. -/
theorem decode_cut {I : Im} (h : ImOk I) {k : Nat} (hk : k < (encF I).length) : decodeF ((encF I).take k) = (im0, if k < 2 then 1 else 3) := by
  have hc := imOk_code h
  obtain ⟨n, hn, n0, n1, hs, _⟩ := size_in hc
  obtain ⟨_, _, _, _, _, _, t1, _, hl, hx⟩ := h
  have hp := packF_len I.it I.il
  unfold encF at hk ⊢
  rw [List.length_append, hp] at hk
  by_cases h1 : k < (textF ⟨I.ic, I.iw, I.ih, I.it, 0⟩).length
  · rw [List.take_append_of_le_length (by omega)]
    have e := parse_cut (h := ⟨I.ic, I.iw, I.ih, I.it, 0⟩) hc h1
    rw [decode_no (by rw [e]; split <;> decide), e]
  · have h2 : 2 ≤ (textF ⟨I.ic, I.iw, I.ih, I.it, 0⟩).length := by unfold textF; simp
    rw [if_neg (by omega), List.take_append, List.take_of_length_le (by omega), decode_text hc]
    refine body_short ?_
    show ((List.take _ (packF I.it I.il)).length : Int) < I.iw * I.ih * I.ic * widthF I.it
    rw [hs, List.length_take, hp]
    have : I.il.length = n := by omega
    rw [this] at hk ⊢
    omega
/-- Of one byte each, one of them written over. -/
theorem decode_row {a b c t : Int} (hk : codeF a b c t = 0) (ht : t ≤ 255) {L : List Int} (hl : (L.length : Int) = a * b * c) : decodeF (textF ⟨c, a, b, t, 0⟩ ++ L) = if ∀ x ∈ L, x ≤ t then (⟨a, b, c, t, L⟩, 0) else (im0, 4) := by
  rw [decode_text hk]
  have := body_full (h := ⟨c, a, b, t, ((textF ⟨c, a, b, t, 0⟩).length : Int)⟩) (r := L) (more := []) (by show (L.length : Int) = a * b * c * widthF t; rw [widthF_one ht, Int.mul_one, hl])
  rw [List.append_nil] at this
  rw [this]
  show (if ∀ x ∈ unpackF t L, x ≤ t then ((⟨a, b, c, t, unpackF t L⟩ : Im), (0 : Int)) else (im0, 4)) = _
  rw [unpack_one ht]
end Go.Proofs.YtoppojilndnghaaDoor
