/- Images as bytes: the program's sizes; samples out of bytes. -/
import Derived.Test.YtoppojilndnghaaDoorS11A
import Derived.Test.YtoppojilndnghaaDoorS09H
import Derived.Test.YtoppojilndnghaaDoorS10E
import Derived.Deep.LoopGhost
namespace Go.Proofs.YtoppojilndnghaaDoor
open Go.RowKit


theorem pwidth_any (t : Int) (w : World) : Calls Tryd.prog 20 #[.int .i64 t] w fun e w' => e = .returned (.int .i64 (widthF t)) ∧ w = w' := by
  by_cases h : t ≤ 255
  · rw [widthF_one h]
    go_enter Tryd.func20, Tryd.ntmps20
    go_wp2
    go_ret
    exact ⟨rfl, rfl⟩
  · rw [widthF_two h]
    go_enter Tryd.func20, Tryd.ntmps20
    go_wp2
    go_ret
    exact ⟨rfl, rfl⟩
/-- A callee that leaves the world alone, in a region that draws and only reads. -/
theorem calm1 {P : Program} {f : FuncId} {args : Array Value} {u : Value} (h : ∀ w : World, Calls P f args w fun e w' => e = .returned u ∧ w = w') (w : World) (n : Nat) :
    Calls P f args (w.drewN n) fun e w'' => e = .returned u ∧ ∃ m, w'' = w.drewN m :=
  (h _).mono fun _ _ q => ⟨q.1, n, q.2.symm⟩
theorem pnmF_t {a b c t : Int} (h : t < 1 ∨ 65535 < t) : pnmF a b c t = 0 := by unfold pnmF; rw [codeF_t h, if_neg (by decide)]
theorem pnmF_f {a b c t : Int} (h : fitsF a b c = false) : pnmF a b c t = 0 := by
  unfold pnmF
  rw [if_neg]
  intro e
  obtain ⟨_, _, a0, a1, b0, b1, hc, hm⟩ := codeF_zero e
  rw [fitsF_iff.2 ⟨a0, a1, b0, b1, hc, hm⟩] at h
  cases h
set_option maxHeartbeats 1000000 in
theorem psize_any (h : Hd) (w : World) : Calls Tryd.prog 21 #[hdV h] w fun e w' => e = .returned (.int .i64 (pnmF h.hw h.hh h.hc h.ht)) ∧ Below w.heap.size w w' := by
  unfold hdV
  generalize h.hc = c at *
  generalize h.hw = a at *
  generalize h.hh = b at *
  generalize h.ht = t at *
  generalize h.hs = z at *
  by_cases ht : t < 1 ∨ 65535 < t
  · rw [pnmF_t ht]
    rcases ht with ht | ht
    all_goals
      go_enter Tryd.func21, Tryd.ntmps21
      go_wp2
      go_ret
      exact ⟨rfl, below1 _ _⟩
  · have t0 : 1 ≤ t := by omega
    have t1 : t ≤ 65535 := by omega
    clear ht
    have CF := fun w => rfits_any a b c w
    cases hf : fitsF a b c with
    | false =>
      rw [hf] at CF
      rw [pnmF_f hf]
      clear hf
      go_enter Tryd.func21, Tryd.ntmps21
      go_wp2_with (go_at_call 37; (with_reducible refine (CF _).mono ?_); rintro e w1 ⟨rfl, rfl⟩)
      go_ret
      exact ⟨rfl, below1 _ _⟩
    | true =>
      rw [hf] at CF
      obtain ⟨a0, a1, b0, b1, hc, hm⟩ := fitsF_iff.1 hf
      have hcd : codeF a b c t = 0 := codeF_of t0 t1 a0 a1 b0 b1 hc hm
      have m1 := side_mul a0 a1 b0 b1
      have m2 := side_mul3 a0 a1 b0 b1 hc
      have CW := fun w => pwidth_any t w
      unfold pnmF
      rw [if_pos hcd]
      have q : widthF t = 1 ∨ widthF t = 2 := by unfold widthF; split <;> simp
      have q3 : 0 ≤ a * b * c * widthF t ∧ a * b * c * widthF t ≤ 536870912 := by rcases q with e | e <;> rw [e] <;> omega
      generalize widthF t = q at *
      obtain ⟨m10, m11⟩ := m1
      obtain ⟨m20, m21⟩ := m2
      obtain ⟨q30, q31⟩ := q3
      clear hf hc hcd a0 a1 b0 b1
      go_enter Tryd.func21, Tryd.ntmps21
      go_wp2_with (first | (go_at_call 37; (with_reducible refine (CF _).mono ?_); rintro e w1 ⟨rfl, rfl⟩) | fail)
      go_quiet ((go_at_call 20; with_reducible exact calm1 CW _ _))
      go_wp2
      go_ret
      exact ⟨rfl, bdN (below1 _ _) _⟩
/-! ### Samples out of bytes -/
theorem or16_nat (a b : Nat) (ha : a < 65536) (hb : b < 65536) : bits .or .u16 (a : Int) (b : Int) = ((a ||| b : Nat) : Int) := by
  have hx : a ||| b < 2 ^ 16 := Nat.or_lt_two_pow (by omega) (by omega)
  have h1 : (BitVec.ofInt 16 (a : Int)).toNat = a := by
    rw [BitVec.ofInt_natCast, BitVec.toNat_ofNat]; exact Nat.mod_eq_of_lt (by omega)
  have h2 : (BitVec.ofInt 16 (b : Int)).toNat = b := by
    rw [BitVec.ofInt_natCast, BitVec.toNat_ofNat]; exact Nat.mod_eq_of_lt (by omega)
  show IntKind.u16.wrap ((BitVec.ofInt 16 (a : Int) ||| BitVec.ofInt 16 (b : Int)).toNat : Int) = _
  rw [BitVec.toNat_or, h1, h2, IntKind.wrap_u16]
  omega
theorem or16_apart {a b : Int} (a0 : 0 ≤ a) (a1 : a ≤ 255) (b0 : 0 ≤ b) (b1 : b ≤ 255) : bits .or .u16 (a * 256) b = 256 * a + b := by
  obtain ⟨a, rfl⟩ := Int.eq_ofNat_of_zero_le a0
  obtain ⟨b, rfl⟩ := Int.eq_ofNat_of_zero_le b0
  rw [show (a : Int) * 256 = ((a * 256 : Nat) : Int) by omega, or16_nat _ _ (by omega) (by omega)]
  have h := Nat.two_pow_add_eq_or_of_lt (show b < 2 ^ 8 by omega) a
  rw [show (2 : Nat) ^ 8 = 256 from rfl] at h
  rw [Nat.mul_comm a]
  omega
end Go.Proofs.YtoppojilndnghaaDoor
