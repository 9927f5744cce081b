/- Parts, joined. -/
import Derived.Test.YtlknopmpbkepjaaDoorJ02
import Derived.Laws.BytesArg
import Derived.Laws.IdiomStrings
/- Operations as texts: words, texts, what is parsed; there and back. Plain; no number of the program stands in it. -/
namespace Go.Proofs.YtlknopmpbkepjaaDoor
open Go.RowKit


/-! ### Cutting lists -/
/-- A list, split wherever c stands. -/
def splitC (c : Int) : List Int → List (List Int)
  | [] => [[]]
  | x :: u => if x = c then [] :: splitC c u else (x :: (splitC c u).headD []) :: (splitC c u).tail
/-- Lists, with c between. -/
def joinC (c : Int) : List (List Int) → List Int
  | [] => []
  | [p] => p
  | p :: q :: ps => p ++ c :: joinC c (q :: ps)
theorem splitC_ne (c : Int) (s : List Int) : splitC c s ≠ [] := by
  cases s with
  | nil => simp [splitC]
  | cons x u =>
    show (if x = c then _ else _) ≠ []
    by_cases h : x = c
    · rw [if_pos h]; simp
    · rw [if_neg h]; simp
theorem splitC_no {c : Int} : ∀ {s : List Int}, c ∉ s → splitC c s = [s]
  | [], _ => rfl
  | x :: u, h => by
    have hx : x ≠ c := fun e => h (by rw [e]; exact List.mem_cons_self)
    have hu : c ∉ u := fun e => h (List.mem_cons_of_mem _ e)
    show (if x = c then _ else _) = _
    rw [if_neg hx, splitC_no hu]
    rfl
theorem splitC_app {c : Int} : ∀ {p : List Int}, c ∉ p → ∀ r, splitC c (p ++ c :: r) = p :: splitC c r
  | [], _, r => if_pos rfl
  | x :: u, h, r => by
    have hx : x ≠ c := fun e => h (by rw [e]; exact List.mem_cons_self)
    have hu : c ∉ u := fun e => h (List.mem_cons_of_mem _ e)
    show (if x = c then _ else (x :: (splitC c (u ++ c :: r)).headD []) :: (splitC c (u ++ c :: r)).tail) = _
    rw [if_neg hx, splitC_app hu]
    rfl
theorem join_cons {c : Int} {p : List Int} {ps : List (List Int)} (h : ps ≠ []) : joinC c (p :: ps) = p ++ c :: joinC c ps := by
  match ps, h with
  | q :: ps, _ => rfl
/-- Every list is some pieces without c, with c between. -/
theorem split_join (c : Int) : ∀ s : List Int, joinC c (splitC c s) = s ∧ ∀ p ∈ splitC c s, c ∉ p
  | [] => ⟨rfl, fun p hp => by rw [show p = [] by simpa [splitC] using hp]; simp⟩
  | x :: u => by
    obtain ⟨ih1, ih2⟩ := split_join c u
    have hn := splitC_ne c u
    show joinC c (if x = c then [] :: splitC c u else (x :: (splitC c u).headD []) :: (splitC c u).tail) = x :: u ∧ ∀ p ∈ (if x = c then [] :: splitC c u else (x :: (splitC c u).headD []) :: (splitC c u).tail), c ∉ p
    by_cases h : x = c
    · rw [if_pos h, join_cons hn, ih1, h]
      refine ⟨rfl, fun p hp => ?_⟩
      rcases List.mem_cons.1 hp with rfl | hp
      · simp
      · exact ih2 p hp
    · rw [if_neg h]
      match hs : splitC c u, hn with
      | q :: qs, _ =>
        rw [hs] at ih1 ih2
        show joinC c ((x :: q) :: qs) = x :: u ∧ ∀ p ∈ (x :: q) :: qs, c ∉ p
        refine ⟨?_, fun p hp => ?_⟩
        · cases qs with
          | nil => exact congrArg (x :: ·) ih1
          | cons r rs => exact congrArg (x :: ·) ih1
        · rcases List.mem_cons.1 hp with rfl | hp
          · intro hc
            rcases List.mem_cons.1 hc with e | e
            · exact h e.symm
            · exact ih2 q List.mem_cons_self e
          · exact ih2 p (List.mem_cons_of_mem _ hp)
theorem join_split {c : Int} : ∀ {ps : List (List Int)}, ps ≠ [] → (∀ p ∈ ps, c ∉ p) → splitC c (joinC c ps) = ps
  | [], h, _ => absurd rfl h
  | [p], _, h => splitC_no (h p List.mem_cons_self)
  | p :: q :: ps, _, h => by
    show splitC c (p ++ c :: joinC c (q :: ps)) = _
    rw [splitC_app (h p List.mem_cons_self), join_split (List.cons_ne_nil _ _) (fun r hr => h r (List.mem_cons_of_mem _ hr))]
theorem join_mem {c y : Int} : ∀ {ps : List (List Int)}, y ∈ joinC c ps → y = c ∨ ∃ p ∈ ps, y ∈ p
  | [], h => by cases h
  | [p], h => .inr ⟨p, List.mem_cons_self, h⟩
  | p :: q :: ps, h => by
    rcases List.mem_append.1 h with h | h
    · exact .inr ⟨p, List.mem_cons_self, h⟩
    · rcases List.mem_cons.1 h with h | h
      · exact .inl h
      · rcases join_mem h with h | ⟨r, hr, h⟩
        · exact .inl h
        · exact .inr ⟨r, List.mem_cons_of_mem _ hr, h⟩
/-! ### Numbers as texts -/
theorem intF_mem {n x : Int} (h : x ∈ intF n) : x = 45 ∨ (48 ≤ x ∧ x ≤ 57) := by
  unfold intF at h
  by_cases g : n < 0
  · rw [if_pos g] at h
    rcases List.mem_cons.1 h with h | h
    · exact .inl h
    · exact .inr (decF_digit _ x h)
  · rw [if_neg g] at h
    exact .inr (decF_digit _ x h)
theorem intF_ne (n : Int) : intF n ≠ [] := by
  unfold intF
  by_cases g : n < 0
  · rw [if_pos g]; simp
  · rw [if_neg g]; exact decF_ne _
/-- What digits stand for. -/
def valF (l : List Int) : Int := l.foldl (fun a x => 10 * a + (x - 48)) 0
theorem valF_snoc (l : List Int) (x : Int) : valF (l ++ [x]) = 10 * valF l + (x - 48) := by unfold valF; rw [List.foldl_append]; rfl
theorem valF_dec (n : Nat) : valF (decF n) = (n : Int) := by
  induction n using Nat.strongRecOn with
  | ind n ih =>
    by_cases h : n < 10
    · rw [decF_small h]
      show 10 * 0 + (48 + (n : Int) - 48) = n
      omega
    · rw [decF_more (by omega), valF_snoc, ih (n / 10) (by omega)]
      omega
theorem decF_inj {a b : Nat} (h : decF a = decF b) : a = b := by
  have := congrArg valF h
  rw [valF_dec, valF_dec] at this
  omega
theorem intF_inj {a b : Int} (h : intF a = intF b) : a = b := by
  unfold intF at h
  have D : ∀ {n m : Nat}, 45 :: decF n = decF m → False := fun {n m} e => by
    have := decF_digit m 45 (by rw [← e]; exact List.mem_cons_self)
    omega
  by_cases ga : a < 0 <;> by_cases gb : b < 0
  · rw [if_pos ga, if_pos gb] at h
    have := decF_inj (List.cons.inj h).2
    omega
  · rw [if_pos ga, if_neg gb] at h
    exact (D h).elim
  · rw [if_neg ga, if_pos gb] at h
    exact (D h.symm).elim
  · rw [if_neg ga, if_neg gb] at h
    have := decF_inj h
    omega
/-- Numbers with commas between. -/
def rowB (xs : List Int) : List Int := joinC 44 (xs.map intF)
theorem rowB_mem {xs : List Int} {y : Int} (h : y ∈ rowB xs) : y = 44 ∨ y = 45 ∨ (48 ≤ y ∧ y ≤ 57) := by
  rcases join_mem h with h | ⟨p, hp, h⟩
  · exact .inl h
  · obtain ⟨x, _, rfl⟩ := List.mem_map.1 hp
    exact .inr (intF_mem h)
theorem no44 (n : Int) : (44 : Int) ∉ intF n := fun h => by have := intF_mem h; omega
theorem map_inj {l m : List Int} (h : l.map intF = m.map intF) : l = m := List.map_inj_right (fun _ _ e => intF_inj e) |>.1 h
theorem rowB_split {xs : List Int} (h : xs ≠ []) : splitC 44 (rowB xs) = xs.map intF :=
  join_split (by simpa using h) (fun p hp => by obtain ⟨x, _, rfl⟩ := List.mem_map.1 hp; exact no44 x)
theorem rowB_nil {xs : List Int} : rowB xs = [] ↔ xs = [] := by
  constructor
  · intro h
    match xs, h with
    | [], _ => rfl
    | [x], h => exact absurd h (intF_ne x)
    | x :: y :: l, h =>
      have : intF x ++ 44 :: joinC 44 ((y :: l).map intF) = [] := h
      simp at this
  · rintro rfl; rfl
theorem rowB_inj {l m : List Int} (h : rowB l = rowB m) : l = m := by
  by_cases hl : l = []
  · subst hl
    exact (rowB_nil.1 (h.symm.trans rfl)).symm
  · have hm : m ≠ [] := fun e => hl (rowB_nil.1 (h.trans (by rw [e]; rfl)))
    have := congrArg (splitC 44) h
    rw [rowB_split hl, rowB_split hm] at this
    exact map_inj this
/-! ### Words -/
def sgnB (k : Int) : List Int := if k = 0 then [207, 131] else if k = 1 then [226, 150, 161] else if k = 2 then [226, 138, 151] else if k = 3 then [226, 134, 148] else []
def mulB : List Int := [195, 151]
def bordB (b : Int) : List Int := if b = 0 then [99, 108, 97, 109, 112] else if b = 1 then [109, 105, 114, 114, 111, 114] else if b = 2 then [119, 114, 97, 112] else []
def filtB (f : Int) : List Int := if f = 0 then [98, 111, 120] else if f = 1 then [99, 117, 98, 105, 99] else if f = 2 then [108, 97, 110, 99, 122, 111, 115] else []
def bodyB (o : Opr) : List Int := if o.kd = 0 then intF o.sg else if o.kd = 1 then intF o.rd else if o.kd = 2 then rowB o.xs ++ (mulB ++ rowB o.ys) else intF o.wd ++ (mulB ++ (intF o.ht ++ 44 :: filtB o.fl))
def wordB (o : Opr) : List Int := sgnB o.kd ++ (bodyB o ++ 124 :: bordB o.bd)
/-- Has it a word? -/
def mayW (o : Opr) : Bool := decide (0 ≤ o.kd ∧ o.kd ≤ 3 ∧ 0 ≤ o.bd ∧ o.bd ≤ 2 ∧ (o.kd = 3 → 0 ≤ o.fl ∧ o.fl ≤ 2))
theorem mayW_iff {o : Opr} : mayW o = true ↔ 0 ≤ o.kd ∧ o.kd ≤ 3 ∧ 0 ≤ o.bd ∧ o.bd ≤ 2 ∧ (o.kd = 3 → 0 ≤ o.fl ∧ o.fl ≤ 2) := by unfold mayW; exact decide_eq_true_iff
/-- With what its kind asks for alone. -/
def clnO (o : Opr) : Opr := ⟨o.kd, o.bd, if o.kd = 0 then o.sg else 0, if o.kd = 1 then o.rd else 0, if o.kd = 2 then o.xs else [], if o.kd = 2 then o.ys else [], if o.kd = 3 then o.fl else 0, if o.kd = 3 then o.wd else 0, if o.kd = 3 then o.ht else 0⟩
theorem cln_cln (o : Opr) : clnO (clnO o) = clnO o := by
  unfold clnO
  simp only
  congr 1 <;> split <;> rfl
theorem body_cln {o : Opr} (h : 0 ≤ o.kd ∧ o.kd ≤ 3) : bodyB (clnO o) = bodyB o := by
  unfold bodyB clnO
  simp only
  by_cases h0 : o.kd = 0
  · simp [h0]
  by_cases h1 : o.kd = 1
  · simp [h1]
  by_cases h2 : o.kd = 2
  · simp [h2]
  have h3 : o.kd = 3 := by omega
  simp [h3]
theorem word_cln {o : Opr} (h : mayW o = true) : wordB (clnO o) = wordB o := by
  obtain ⟨k0, k1, _⟩ := mayW_iff.1 h
  unfold wordB
  rw [body_cln ⟨k0, k1⟩]
  rfl
theorem may_cln {o : Opr} : mayW (clnO o) = mayW o := by
  unfold mayW clnO
  simp only
  by_cases h3 : o.kd = 3
  · simp [h3]
  · simp [h3]
theorem filt_mem {f y : Int} (h : y ∈ filtB f) : 97 ≤ y ∧ y ≤ 122 := by
  unfold filtB at h
  repeat' split at h
  all_goals simp at h
  all_goals omega
theorem bord_mem {b y : Int} (h : y ∈ bordB b) : 97 ≤ y ∧ y ≤ 122 := by
  unfold bordB at h
  repeat' split at h
  all_goals simp at h
  all_goals omega
theorem mul_mem {y : Int} (h : y ∈ mulB) : y = 195 ∨ y = 151 := by simpa [mulB] using h
theorem sgn_mem {k y : Int} (h : y ∈ sgnB k) : 128 ≤ y := by
  unfold sgnB at h
  repeat' split at h
  all_goals simp at h
  all_goals omega
theorem body_mem {o : Opr} {y : Int} (h : y ∈ bodyB o) : (44 ≤ y ∧ y ≤ 57) ∨ (97 ≤ y ∧ y ≤ 122) ∨ 128 ≤ y := by
  unfold bodyB at h
  by_cases h0 : o.kd = 0
  · rw [if_pos h0] at h; have := intF_mem h; omega
  rw [if_neg h0] at h
  by_cases h1 : o.kd = 1
  · rw [if_pos h1] at h; have := intF_mem h; omega
  rw [if_neg h1] at h
  by_cases h2 : o.kd = 2
  · rw [if_pos h2] at h
    rcases List.mem_append.1 h with h | h
    · have := rowB_mem h; omega
    rcases List.mem_append.1 h with h | h
    · have := mul_mem h; omega
    · have := rowB_mem h; omega
  rw [if_neg h2] at h
  rcases List.mem_append.1 h with h | h
  · have := intF_mem h; omega
  rcases List.mem_append.1 h with h | h
  · have := mul_mem h; omega
  rcases List.mem_append.1 h with h | h
  · have := intF_mem h; omega
  rcases List.mem_cons.1 h with h | h
  · omega
  · have := filt_mem h; omega
theorem word_59 (o : Opr) : (59 : Int) ∉ wordB o := by
  intro h
  unfold wordB at h
  rcases List.mem_append.1 h with h | h
  · have := sgn_mem h; omega
  rcases List.mem_append.1 h with h | h
  · have := body_mem h; omega
  rcases List.mem_cons.1 h with h | h
  · omega
  · have := bord_mem h; omega
theorem body_124 (o : Opr) : (124 : Int) ∉ sgnB o.kd ++ bodyB o := by
  intro h
  rcases List.mem_append.1 h with h | h
  · have := sgn_mem h; omega
  · have := body_mem h; omega
theorem word_ne (o : Opr) : wordB o ≠ [] := by unfold wordB; simp
/-- What stands ahead of the first c decides. -/
theorem first_inj {c : Int} {a b p q : List Int} (ha : c ∉ a) (hb : c ∉ b) (h : a ++ c :: p = b ++ c :: q) : a = b ∧ p = q := by
  have e := congrArg (splitC c) h
  rw [splitC_app ha, splitC_app hb] at e
  obtain ⟨e1, e2⟩ := List.cons.inj e
  refine ⟨e1, ?_⟩
  have := congrArg (joinC c) e2
  rwa [(split_join c p).1, (split_join c q).1] at this
theorem bord_inj {a b : Int} (a0 : 0 ≤ a) (a1 : a ≤ 2) (b0 : 0 ≤ b) (b1 : b ≤ 2) (h : bordB a = bordB b) : a = b := by
  rcases (show a = 0 ∨ a = 1 ∨ a = 2 by omega) with rfl | rfl | rfl <;> rcases (show b = 0 ∨ b = 1 ∨ b = 2 by omega) with rfl | rfl | rfl <;> first | rfl | (exfalso; revert h; decide)
theorem filt_inj {a b : Int} (a0 : 0 ≤ a) (a1 : a ≤ 2) (b0 : 0 ≤ b) (b1 : b ≤ 2) (h : filtB a = filtB b) : a = b := by
  rcases (show a = 0 ∨ a = 1 ∨ a = 2 by omega) with rfl | rfl | rfl <;> rcases (show b = 0 ∨ b = 1 ∨ b = 2 by omega) with rfl | rfl | rfl <;> first | rfl | (exfalso; revert h; decide)
/-- Of words the kind decides, by its sign. -/
theorem sgn_inj {a b : Int} (a0 : 0 ≤ a) (a1 : a ≤ 3) (b0 : 0 ≤ b) (b1 : b ≤ 3) {p q : List Int} (h : sgnB a ++ p = sgnB b ++ q) : a = b ∧ p = q := by
  rcases (show a = 0 ∨ a = 1 ∨ a = 2 ∨ a = 3 by omega) with rfl | rfl | rfl | rfl <;> rcases (show b = 0 ∨ b = 1 ∨ b = 2 ∨ b = 3 by omega) with rfl | rfl | rfl | rfl <;> simp [sgnB] at h <;> first | exact ⟨rfl, h⟩ | exact ⟨trivial, h⟩ | exact h.elim
theorem no195 (xs : List Int) : (195 : Int) ∉ rowB xs := fun h => by have := rowB_mem h; omega
theorem no195i (n : Int) : (195 : Int) ∉ intF n := fun h => by have := intF_mem h; omega
theorem mul_app (p q : List Int) : p ++ (mulB ++ q) = p ++ 195 :: (151 :: q) := rfl
/-- Clean operations of one word are one. -/
theorem word_inj {o p : Opr} (ho : mayW o = true) (hp : mayW p = true) (co : clnO o = o) (cp : clnO p = p) (h : wordB o = wordB p) : o = p := by
  obtain ⟨k0, k1, b0, b1, f⟩ := mayW_iff.1 ho
  obtain ⟨k0', k1', b0', b1', f'⟩ := mayW_iff.1 hp
  obtain ⟨hk, h2⟩ := sgn_inj k0 k1 k0' k1' h
  have n1 : (124 : Int) ∉ bodyB o := fun q => body_124 o (List.mem_append.2 (.inr q))
  have n2 : (124 : Int) ∉ bodyB p := fun q => body_124 p (List.mem_append.2 (.inr q))
  obtain ⟨hb, hn⟩ := first_inj n1 n2 h2
  have hbd := bord_inj b0 b1 b0' b1' hn
  rw [← co, ← cp]
  obtain ⟨kd, bd, sg, rd, xs, ys, fl, wd, ht⟩ := o
  obtain ⟨kd', bd', sg', rd', xs', ys', fl', wd', ht'⟩ := p
  simp only at hk hbd hb f f' k0 k1
  subst hk hbd
  unfold clnO
  unfold bodyB at hb
  simp only at hb ⊢
  by_cases h0 : kd = 0
  · subst h0
    simp only [if_true] at hb
    rw [intF_inj hb]
    simp
  by_cases h1 : kd = 1
  · subst h1
    simp only [if_neg h0, if_true] at hb
    rw [intF_inj hb]
    simp
  by_cases h2 : kd = 2
  · subst h2
    simp only [if_neg h0, if_neg h1, if_true] at hb
    rw [mul_app, mul_app] at hb
    obtain ⟨e1, e2⟩ := first_inj (no195 _) (no195 _) hb
    rw [rowB_inj e1, rowB_inj (List.cons.inj e2).2]
    simp
  have h3 : kd = 3 := by omega
  subst h3
  simp only [if_neg h0, if_neg h1, if_neg h2] at hb
  rw [mul_app, mul_app] at hb
  obtain ⟨e1, e2⟩ := first_inj (no195i _) (no195i _) hb
  obtain ⟨e3, e4⟩ := first_inj (no44 _) (no44 _) (List.cons.inj e2).2
  rw [intF_inj e1, intF_inj e3, filt_inj (f rfl).1 (f rfl).2 (f' rfl).1 (f' rfl).2 e4]
  simp
/-! ### Texts -/
def printB (L : List Opr) : List Int := joinC 59 (L.map wordB)
/-- Numbers that a word may have. -/
def FitW (o : Opr) : Prop := (∀ x ∈ [o.sg, o.rd, o.fl, o.wd, o.ht], -9223372036854775808 ≤ x ∧ x ≤ 9223372036854775807) ∧ (∀ x ∈ o.xs, -9223372036854775808 ≤ x ∧ x ≤ 9223372036854775807) ∧ ∀ x ∈ o.ys, -9223372036854775808 ≤ x ∧ x ≤ 9223372036854775807
/-- Is a text this operation's word? -/
def IsWord (s : List Int) (o : Opr) : Prop := mayW o = true ∧ clnO o = o ∧ FitW o ∧ s = wordB o
/-- A function that tells whose word a text is. -/
def OneOf (f : List Int → Option Opr) : Prop := ∀ s o, f s = some o ↔ IsWord s o
theorem one_of : ∃ f, OneOf f := by
  refine ⟨fun s => @dite _ (∃ o, IsWord s o) (Classical.propDecidable _) (fun h => some (Classical.choose h)) (fun _ => none), fun s o => ?_⟩
  by_cases h : ∃ o, IsWord s o
  · simp only [dif_pos h]
    have hc := Classical.choose_spec h
    constructor
    · intro e
      rw [← Option.some.inj e]
      exact hc
    · intro e
      rw [word_inj hc.1 e.1 hc.2.1 e.2.1 (hc.2.2.2.symm.trans e.2.2.2)]
  · simp only [dif_neg h]
    exact ⟨(fun e => by cases e), fun e => absurd ⟨o, e⟩ h⟩
theorem OneOf.no {f : List Int → Option Opr} (hf : OneOf f) {s : List Int} : f s = none ↔ ∀ o, ¬ IsWord s o := by
  constructor
  · intro h o ho
    rw [(hf s o).2 ho] at h
    cases h
  · intro h
    match e : f s with
    | none => rfl
    | some o => exact absurd ((hf s o).1 e) (h o)
/-- Words, one behind the other: the operations, and whether all are some. -/
def goW (f : List Int → Option Opr) : List (List Int) → List Opr × Bool
  | [] => ([], true)
  | p :: ps => match f p with
    | none => ([], false)
    | some o => (o :: (goW f ps).1, (goW f ps).2)
def parseW (f : List Int → Option Opr) (s : List Int) : List Opr × Bool := if s = [] then ([], true) else goW f (splitC 59 s)
theorem goW_none {f : List Int → Option Opr} {p : List Int} (e : f p = none) (ps : List (List Int)) : goW f (p :: ps) = ([], false) := by
  show (match f p with | none => ([], false) | some o => (o :: (goW f ps).1, (goW f ps).2)) = _
  rw [e]
theorem goW_some {f : List Int → Option Opr} {p : List Int} {o : Opr} (e : f p = some o) (ps : List (List Int)) : goW f (p :: ps) = (o :: (goW f ps).1, (goW f ps).2) := by
  show (match f p with | none => ([], false) | some o => (o :: (goW f ps).1, (goW f ps).2)) = _
  rw [e]
theorem goW_words {f : List Int → Option Opr} (hf : OneOf f) : ∀ {L : List Opr}, (∀ o ∈ L, mayW o = true ∧ FitW (clnO o)) → goW f (L.map wordB) = (L.map clnO, true)
  | [], _ => rfl
  | o :: L, h => by
    obtain ⟨h1, h2⟩ := h o List.mem_cons_self
    have e : f (wordB o) = some (clnO o) := (hf _ _).2 ⟨by rw [may_cln]; exact h1, cln_cln o, h2, (word_cln h1).symm⟩
    rw [List.map_cons, goW_some e, goW_words hf (fun p hp => h p (List.mem_cons_of_mem _ hp))]
    rfl
theorem printB_ne {L : List Opr} (hl : L ≠ []) : printB L ≠ [] := by
  unfold printB
  match L, hl with
  | [o], _ => exact word_ne o
  | o :: p :: L, _ =>
    show wordB o ++ 59 :: joinC 59 ((p :: L).map wordB) ≠ []
    simp
/-- There and back. -/
theorem parse_print {f : List Int → Option Opr} (hf : OneOf f) {L : List Opr} (h : ∀ o ∈ L, mayW o = true ∧ FitW (clnO o)) : parseW f (printB L) = (L.map clnO, true) := by
  unfold parseW
  by_cases hl : L = []
  · subst hl
    rfl
  · have hm : L.map wordB ≠ [] := by simpa using hl
    have hs : splitC 59 (printB L) = L.map wordB := join_split (c := 59) hm (fun p hp => by obtain ⟨o, _, rfl⟩ := List.mem_map.1 hp; exact word_59 o)
    rw [if_neg (printB_ne hl), hs, goW_words hf h]
theorem goW_back {f : List Int → Option Opr} (hf : OneOf f) : ∀ {ps : List (List Int)}, (goW f ps).2 = true → (goW f ps).1.map wordB = ps
  | [], _ => rfl
  | p :: ps, h => by
    match e : f p with
    | none => rw [goW_none e] at h; cases h
    | some o =>
      rw [goW_some e] at h ⊢
      show wordB o :: (goW f ps).1.map wordB = p :: ps
      rw [goW_back hf h, ((hf _ _).1 e).2.2.2]
/-- A text that is parsed is what is printed. -/
theorem print_parse {f : List Int → Option Opr} (hf : OneOf f) {s : List Int} (h : (parseW f s).2 = true) : printB (parseW f s).1 = s := by
  unfold parseW at h ⊢
  unfold printB
  by_cases hs : s = []
  · rw [if_pos hs, hs]
    rfl
  · rw [if_neg hs] at h ⊢
    rw [goW_back hf h, (split_join 59 s).1]
theorem goW_is {f : List Int → Option Opr} (hf : OneOf f) : ∀ {ps : List (List Int)} {o : Opr}, o ∈ (goW f ps).1 → mayW o = true ∧ clnO o = o ∧ FitW o
  | [], _, h => by cases h
  | p :: ps, o, h => by
    match e : f p with
    | none => rw [goW_none e] at h; cases h
    | some q =>
      rw [goW_some e] at h
      rcases List.mem_cons.1 h with rfl | h
      · have := (hf _ _).1 e
        exact ⟨this.1, this.2.1, this.2.2.1⟩
      · exact goW_is hf h
theorem parse_is {f : List Int → Option Opr} (hf : OneOf f) {s : List Int} {o : Opr} (h : o ∈ (parseW f s).1) : mayW o = true ∧ clnO o = o ∧ FitW o := by
  unfold parseW at h
  by_cases hs : s = []
  · rw [if_pos hs] at h; cases h
  · rw [if_neg hs] at h; exact goW_is hf h
theorem fit_cln {o : Opr} (h : FitW o) : FitW (clnO o) := by
  obtain ⟨h1, h2, h3⟩ := h
  unfold FitW clnO
  simp only
  refine ⟨fun x hx => ?_, fun x hx => ?_, fun x hx => ?_⟩
  · simp only [List.mem_cons, List.not_mem_nil, or_false] at hx
    rcases hx with rfl | rfl | rfl | rfl | rfl <;> split <;> first | omega | exact h1 _ (by simp)
  · by_cases g : o.kd = 2
    · rw [if_pos g] at hx; exact h2 x hx
    · rw [if_neg g] at hx; cases hx
  · by_cases g : o.kd = 2
    · rw [if_pos g] at hx; exact h3 x hx
    · rw [if_neg g] at hx; cases hx
end Go.Proofs.YtlknopmpbkepjaaDoor

/- Texts as lists of bytes. No number of the program stands in it. -/
namespace Go.Proofs.YtlknopmpbkepjaaDoor
open Go.RowKit


/-- A text's bytes, as numbers. -/
def byt (s : ByteArray) : List Int := s.data.toList.map fun b => (b.toNat : Int)
theorem byt_len (s : ByteArray) : (byt s).length = s.size := by unfold byt; rw [List.length_map, Array.length_toList]; rfl
theorem byt_in (s : ByteArray) : ∀ x ∈ byt s, 0 ≤ x ∧ x ≤ 255 := by
  intro x hx
  obtain ⟨b, _, rfl⟩ := List.mem_map.1 hx
  have := b.toNat_lt
  omega
theorem byt_at {s : ByteArray} {k : Nat} (h : k < s.size) : ((s[k]'h).toNat : Int) = (byt s).getD k 0 := by
  unfold byt
  have h' : k < s.data.toList.length := by rw [Array.length_toList]; exact h
  rw [List.getD_eq_getElem?_getD, List.getElem?_map, List.getElem?_eq_getElem h']
  rfl
theorem byt_cut (s : ByteArray) (k : Nat) : byt (s.extract k s.size) = (byt s).drop k := by
  unfold byt
  rw [← List.map_drop]
  congr 1
  rw [ByteArray.data_extract, Array.toList_extract, List.extract_eq_take_drop]
  exact List.take_of_length_le (by rw [List.length_drop, Array.length_toList]; exact Nat.le_refl _)
theorem byt_add (a b : ByteArray) : byt (a ++ b) = byt a ++ byt b := by unfold byt; simp [ByteArray.data_append]
theorem byt_inj {a b : ByteArray} (h : byt a = byt b) : a = b := by
  unfold byt at h
  apply ByteArray.ext
  apply Array.toList_inj.1
  exact List.map_inj_right (by intro x y e; exact UInt8.toNat_inj.1 (by omega)) |>.1 h
theorem byt_nums {xs : List Int} (h : ∀ x ∈ xs, 0 ≤ x ∧ x ≤ 255) : byt (strOfNums xs) = xs := by
  unfold byt
  rw [strOfNums_data, List.map_map]
  refine (List.map_congr_left fun x hx => ?_).trans (List.map_id _)
  have := h x hx
  simp [UInt8.toNat_ofNat']
  omega
theorem byt_empty {s : ByteArray} : s.toList.isEmpty = (byt s).isEmpty := by
  unfold byt
  rw [ByteArray.toList_eq]
  simp
/-- The first byte, and what is behind it. -/
theorem byt_cons {s : ByteArray} {x : Int} {u : List Int} (h : byt s = x :: u) : ∃ h0 : 0 < s.size, ((s[0]'h0).toNat : Int) = x ∧ ∃ v, s.extract 1 s.size = v ∧ byt v = u ∧ v.size < s.size := by
  have hl := byt_len s
  rw [h, List.length_cons] at hl
  have h0 : 0 < s.size := by omega
  refine ⟨h0, ?_, s.extract 1 s.size, rfl, ?_, ?_⟩
  · rw [byt_at h0, h]; rfl
  · rw [byt_cut, h]; rfl
  · have g := byt_len (s.extract 1 s.size)
    rw [byt_cut, h, List.drop_succ_cons, List.drop_zero] at g
    omega
def lenOfV : Value → Nat | .string s => s.size | _ => 0
end Go.Proofs.YtlknopmpbkepjaaDoor
