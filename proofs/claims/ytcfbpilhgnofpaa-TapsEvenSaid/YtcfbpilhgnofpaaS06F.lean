/- Weights that come to one: what the calls answer, whatever comes in. -/
import Derived.Test.YtcfbpilhgnofpaaS06E
import Derived.Test.YtcfbpilhgnofpaaLB
namespace Go.Proofs.Ytcfbpilhgnofpaa
open Go.RowKit


/-- A slice that reads so. -/
def Ret (k : IntKind) (xs : List Int) (w : World) (v : Value) : Prop := ∃ ad cap, v = .slice ad xs.length cap ∧ RowAt k w ad xs
theorem OwnI.ret {k : IntKind} {T : TypeId} {w : World} {base : Nat} {v : Value} {xs : List Int} (h : OwnI k T w base v xs) : Ret k xs w v := by
  obtain ⟨ad, cap, h1, h2, _⟩ := h.form
  exact ⟨ad, cap, h1, h2⟩
theorem ret_nil (k : IntKind) (w : World) (ad : Option Addr) (cap : Nat) : Ret k [] w (.slice ad 0 cap) := ⟨ad, cap, rfl, Or.inl rfl⟩
theorem Ret.below {k : IntKind} {xs : List Int} {w w' : World} {v : Value} (h : Ret k xs w v) (hb : Below w.heap.size w w') : Ret k xs w' v := by
  obtain ⟨ad, cap, h1, h2⟩ := h
  exact ⟨ad, cap, h1, h2.below hb⟩
theorem Ret.formn {k : IntKind} {w : World} {n : Nat} {v : Value} {xs : List Int} (h : Ret k xs w v) (hn : xs.length = n) : ∃ ad cap, v = .slice ad n cap ∧ RowAt k w ad xs := by subst hn; exact h
def badB (l : List Int) : Bool := decide (l.length < 1) || decide (1048576 < l.length) || l.any (fun x => decide (x < -1099511627776) || decide (1099511627776 < x))
def appCode (l : List Int) : Int := if badB l = true then 7 else if sumH l < 268435456 then 8 else 0
def appOut (l : List Int) : List Int := if appCode l = 0 then appR l else []
theorem badB_iff (l : List Int) : badB l = true ↔ l.length < 1 ∨ 1048576 < l.length ∨ ¬ ∀ x ∈ l, smallW x := by
  unfold badB smallW
  rw [Bool.or_eq_true, Bool.or_eq_true, decide_eq_true_eq, decide_eq_true_eq, List.any_eq_true]
  constructor
  · rintro ((h | h) | ⟨x, hx, h⟩)
    · exact Or.inl h
    · exact Or.inr (Or.inl h)
    · refine Or.inr (Or.inr fun g => ?_)
      have := g x hx
      simp at h
      omega
  · rintro (h | h | h)
    · exact Or.inl (Or.inl h)
    · exact Or.inl (Or.inr h)
    · refine Or.inr ?_
      simp only [Classical.not_forall] at h
      obtain ⟨x, hx, g⟩ := h
      refine ⟨x, hx, ?_⟩
      simp
      omega
theorem appCode_fits {l : List Int} : appCode l = 0 ↔ Fits l := by
  unfold appCode
  have B := badB_iff l
  constructor
  · intro h
    by_cases g : badB l = true
    · rw [if_pos g] at h; omega
    · rw [if_neg g] at h
      by_cases g2 : sumH l < 268435456
      · rw [if_pos g2] at h; omega
      · have nb : ¬ (l.length < 1 ∨ 1048576 < l.length ∨ ¬ ∀ x ∈ l, smallW x) := fun q => g (B.2 q)
        refine ⟨?_, ?_, ?_, by omega⟩
        · by_cases q : l.length < 1
          · exact absurd (Or.inl q) nb
          · omega
        · by_cases q : 1048576 < l.length
          · exact absurd (Or.inr (Or.inl q)) nb
          · omega
        · exact Classical.byContradiction fun q => nb (Or.inr (Or.inr q))
  · rintro ⟨h0, h1, h2, h3⟩
    have g : ¬ badB l = true := fun q => by
      rcases B.1 q with h | h | h
      · omega
      · omega
      · exact h h2
    rw [if_neg g, if_neg (by omega)]
theorem refapp_any (xs : List Int) (ad : Option Addr) (cap : Nat) (w : World) (hr : RowAt .i64 w ad xs) (hx : All64 xs) (hl : xs.length ≤ 9223372036854775807) :
    Calls Try.prog 12 #[.slice ad xs.length cap] w fun e w' => ∃ v, e = .returned (.tuple #[v, .int .i64 (appCode xs)]) ∧ Ret .i64 (appOut xs) w' v ∧ Below w.heap.size w w' := by
  by_cases hf : Fits xs
  · have e := appCode_fits.2 hf
    have e2 : appOut xs = appR xs := by unfold appOut; rw [if_pos e]
    rw [e, e2]
    refine (refapp_fits xs ad cap w hr hx hf).mono ?_
    rintro e w1 ⟨v, rfl, o, b⟩
    exact ⟨v, rfl, o.ret, b⟩
  · have e : appCode xs ≠ 0 := fun g => hf (appCode_fits.1 g)
    have e2 : appOut xs = [] := by unfold appOut; rw [if_neg e]
    rw [e2]
    by_cases hb : badB xs = true
    · have e3 : appCode xs = 7 := by unfold appCode; rw [if_pos hb]
      rw [e3]
      by_cases g : xs.length < 1 ∨ 1048576 < xs.length
      · refine (refapp_len xs ad cap w hl g).mono ?_
        rintro e w1 ⟨rfl, b⟩
        exact ⟨_, rfl, ret_nil _ _ _ _, b⟩
      · have g2 : ¬ ∀ x ∈ xs, smallW x := by
          rcases (badB_iff xs).1 hb with h | h | h
          · exact absurd (Or.inl h) g
          · exact absurd (Or.inr h) g
          · exact h
        refine (refapp_big xs ad cap w hr hx (by omega) (by omega) g2).mono ?_
        rintro e w1 ⟨rfl, b⟩
        exact ⟨_, rfl, ret_nil _ _ _ _, b⟩
    · have nb : ¬ (xs.length < 1 ∨ 1048576 < xs.length ∨ ¬ ∀ x ∈ xs, smallW x) := fun q => hb ((badB_iff xs).2 q)
      have h0 : 1 ≤ xs.length := by
        by_cases q : xs.length < 1
        · exact absurd (Or.inl q) nb
        · omega
      have h1 : xs.length ≤ 1048576 := by
        by_cases q : 1048576 < xs.length
        · exact absurd (Or.inr (Or.inl q)) nb
        · omega
      have h2 : ∀ x ∈ xs, smallW x := Classical.byContradiction fun q => nb (Or.inr (Or.inr q))
      have h3 : sumH xs < 268435456 := by
        by_cases q : sumH xs < 268435456
        · exact q
        · exact absurd ⟨h0, h1, h2, by omega⟩ hf
      have e3 : appCode xs = 8 := by unfold appCode; rw [if_neg hb, if_pos h3]
      rw [e3]
      refine (refapp_low xs ad cap w hr hx h0 h1 h2 h3).mono ?_
      rintro e w1 ⟨rfl, b⟩
      exact ⟨_, rfl, ret_nil _ _ _ _, b⟩
def userB (l : List Int) : Bool := decide (l.length % 2 = 1) && decide (l.length ≤ 1024) && decide (1 ≤ sizeH l) && decide (sizeH l ≤ 1048576)
theorem userB_iff (l : List Int) : userB l = true ↔ UserP l := by unfold userB UserP; simp; omega
def userCode (l : List Int) : Int := if userB l = true then 0 else 7
def userOut (l : List Int) : List Int := if userB l = true then userR l else []
theorem refuser_any (xs : List Int) (ad : Option Addr) (cap : Nat) (w : World) (hr : RowAt .i64 w ad xs) (hx : All64 xs) (hl : xs.length ≤ 9223372036854775807) :
    Calls Try.prog 18 #[.slice ad xs.length cap] w fun e w' => ∃ v, e = .returned (.tuple #[v, .int .i64 (userCode xs)]) ∧ Ret .i64 (userOut xs) w' v ∧ Below w.heap.size w w' := by
  unfold userCode userOut
  by_cases hu : userB xs = true
  · rw [if_pos hu, if_pos hu]
    refine (refuser_ok xs ad cap w hr hx ((userB_iff xs).1 hu)).mono ?_
    rintro e w1 ⟨v, rfl, o, b⟩
    exact ⟨v, rfl, o.ret, b⟩
  · rw [if_neg hu, if_neg hu]
    refine (refuser_bad xs ad cap w hr hx hl (fun q => hu ((userB_iff xs).2 q))).mono ?_
    rintro e w1 ⟨rfl, b⟩
    exact ⟨_, rfl, ret_nil _ _ _ _, b⟩
def gauCode (s : Int) : Int := if 1 ≤ s ∧ s ≤ 4194304 then 0 else 7
def gauOut (s : Int) : List Int := if 1 ≤ s ∧ s ≤ 4194304 then gaussR s else []
theorem refgaussian_any (s : Int) (w : World) :
    Calls Try.prog 20 #[.int .i64 s] w fun e w' => ∃ v, e = .returned (.tuple #[v, .int .i64 (gauCode s)]) ∧ Ret .i64 (gauOut s) w' v ∧ Below w.heap.size w w' := by
  unfold gauCode gauOut
  by_cases h : 1 ≤ s ∧ s ≤ 4194304
  · rw [if_pos h, if_pos h]
    refine (refgaussian_ok s h.1 h.2 w).mono ?_
    rintro e w1 ⟨v, rfl, o, b⟩
    exact ⟨v, rfl, o.ret, b⟩
  · rw [if_neg h, if_neg h]
    refine (refgaussian_bad s (by omega) w).mono ?_
    rintro e w1 ⟨rfl, b⟩
    exact ⟨_, rfl, ret_nil _ _ _ _, b⟩
def blurCode (r : Int) : Int := if 0 ≤ r ∧ r ≤ 511 then 0 else 7
def blurOut (r : Int) : List Int := if 0 ≤ r ∧ r ≤ 511 then userR (List.replicate (2 * r.toNat + 1) 1) else []
theorem refblur_any (r : Int) (w : World) :
    Calls Try.prog 22 #[.int .i64 r] w fun e w' => ∃ v, e = .returned (.tuple #[v, .int .i64 (blurCode r)]) ∧ Ret .i64 (blurOut r) w' v ∧ Below w.heap.size w w' := by
  unfold blurCode blurOut
  by_cases h : 0 ≤ r ∧ r ≤ 511
  · rw [if_pos h, if_pos h]
    obtain ⟨n, rfl⟩ : ∃ n : Nat, r = (n : Int) := ⟨r.toNat, by omega⟩
    refine (refblur_ok n (by omega) w).mono ?_
    rintro e w1 ⟨v, rfl, o, b⟩
    exact ⟨v, rfl, o.ret, b⟩
  · rw [if_neg h, if_neg h]
    refine (refblur_bad r (by omega) w).mono ?_
    rintro e w1 ⟨rfl, b⟩
    exact ⟨_, rfl, ret_nil _ _ _ _, b⟩
/-- What the program's own calls are to answer, where memory holds what they read beside. -/
def AppC (K : World → Prop) : Prop := ∀ (xs : List Int) (ad : Option Addr) (cap : Nat) (w : World), K w → RowAt .i64 w ad xs → All64 xs → xs.length ≤ 9223372036854775807 →
  Calls Try.prog 10 #[.slice ad xs.length cap] w fun e w' => ∃ v, e = .returned (.tuple #[v, .int .i64 (appCode xs)]) ∧ Ret .i64 (appOut xs) w' v ∧ Below w.heap.size w w'
def UserC (K : World → Prop) : Prop := ∀ (xs : List Int) (ad : Option Addr) (cap : Nat) (w : World), K w → RowAt .i64 w ad xs → All64 xs → xs.length ≤ 9223372036854775807 →
  Calls Try.prog 17 #[.slice ad xs.length cap] w fun e w' => ∃ v, e = .returned (.tuple #[v, .int .i64 (userCode xs)]) ∧ Ret .i64 (userOut xs) w' v ∧ Below w.heap.size w w'
def GauC (K : World → Prop) : Prop := ∀ (s : Int) (w : World), K w → -9223372036854775808 ≤ s → s ≤ 9223372036854775807 →
  Calls Try.prog 19 #[.int .i64 s] w fun e w' => ∃ v, e = .returned (.tuple #[v, .int .i64 (gauCode s)]) ∧ Ret .i64 (gauOut s) w' v ∧ Below w.heap.size w w'
def BlurC (K : World → Prop) : Prop := ∀ (r : Int) (w : World), K w → -9223372036854775808 ≤ r → r ≤ 9223372036854775807 →
  Calls Try.prog 21 #[.int .i64 r] w fun e w' => ∃ v, e = .returned (.tuple #[v, .int .i64 (blurCode r)]) ∧ Ret .i64 (blurOut r) w' v ∧ Below w.heap.size w w'
def SumC (K : World → Prop) : Prop := ∀ (xs : List Int) (ad : Option Addr) (cap : Nat) (w : World), K w → RowAt .i64 w ad xs → All64 xs → xs.length ≤ 9223372036854775807 →
  Calls Try.prog 13 #[.slice ad xs.length cap] w fun e w' => e = .returned (.int .i64 (sumH xs)) ∧ Below w.heap.size w w'
def SizeC (K : World → Prop) : Prop := ∀ (xs : List Int) (ad : Option Addr) (cap : Nat) (w : World), K w → RowAt .i64 w ad xs → All64 xs → xs.length ≤ 9223372036854775807 →
  Calls Try.prog 15 #[.slice ad xs.length cap] w fun e w' => e = .returned (.int .i64 (sizeH xs)) ∧ Below w.heap.size w w'
end Go.Proofs.Ytcfbpilhgnofpaa
