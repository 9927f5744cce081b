/- container/heap's up and down, over a heap of numbers. -/
import Derived.Test.YtkkoemcciemloaaS16D
namespace Go.Proofs.Ytkkoemcciemloaa
open Go.RowKit


theorem tdiv_up (k : Nat) : ((k : Int) - 1).tdiv 2 = (((k - 1) / 2 : Nat) : Int) := by
  by_cases h0 : k = 0
  · subst h0; rfl
  · rw [Int.tdiv_eq_ediv_of_nonneg (by omega)]
    omega
set_option maxHeartbeats 4000000 in
theorem up_any {r base b n cap : Nat} {h : List Int} {j : Nat} (hr : r ≠ b) (hj : j < n) (hn : n ≤ 1048576) (hu : UpOk h n j) (w : World) (H : NumAt w r base b n cap h) :
    Calls Try.prog 32 #[.iface 63 (.pointer (some ⟨r, 3, none⟩)), .int .i64 j] w fun e w' => e = .returned (.tuple #[]) ∧ ∃ h', NumAt w' r base b n cap h' ∧ w.grownBy w' (some b) ∧ h'.Perm h ∧ HeapN h' n := by
  have eL := ent_less
  have eS := ent_swap
  have HH := hide H
  have HU := hide hu
  clear H hu
  go_enter Try.func32, Try.ntmps32
  go_wp2
  go_loopw [1] (fun vj wr => ∃ (k : Nat) (d : List Int), vj = .int .i64 k ∧ k < n ∧ NumAt wr r base b n cap d ∧ w.grownBy wr (some b) ∧ d.Perm h ∧ UpOk d n k) (fun vj _ => (intOf vj).toNat)
  case atStart => exact ⟨j, h, rfl, hj, HH.out, grown_refl _ _, List.Perm.refl _, HU.out⟩
  case round =>
    obtain ⟨k, d, rfl, hk, hN, hg, hp, hu⟩ := hrel
    have td := tdiv_up k
    obtain ⟨p, hpe⟩ : ∃ p, p = (k - 1) / 2 := ⟨_, rfl⟩
    rw [← hpe] at td
    have HP := hide hpe
    have HN := hide hN
    have HG := hide hg
    have HE := hide hp
    have HV := hide hu
    have hpk : p ≤ k := by omega
    by_cases h0 : k = 0
    · have q : ((p : Int) == (k : Int)) = true := by rw [beq_iff_eq]; omega
      have END := hide (⟨d, hN, hg, hp, up_end hu (Or.inl h0)⟩ : ∃ h', NumAt wr r base b n cap h' ∧ w.grownBy wr (some b) ∧ h'.Perm h ∧ HeapN h' n)
      clear hN hg hp hu hpe
      go_wp2
      go_end0
      exact ⟨rfl, END.out⟩
    · have q : ((p : Int) == (k : Int)) = false := by rw [beq_eq_false_iff_ne]; omega
      have mL := meth_less hN.1
      have mS := fun q => meth_swap (w := wr.drewN q) hN.1
      have ck := OwnI.cellAt hN.2.1 hN.2.2 hk
      have cp := OwnI.cellAt hN.2.1 hN.2.2 (show p < n by omega)
      have fk := OwnI.frozenAt hN.2.1 hN.2.2 k
      have fp := OwnI.frozenAt hN.2.1 hN.2.2 p
      have CL := h_less b n cap (d.getD k 0) (d.getD p 0) k p hk (by omega) (by omega) wr ck cp
      have CS := fun q => h_swap b n cap (d.getD p 0) (d.getD k 0) p k (by omega) hk (by omega) (wr.drewN q) cp ck fp fk
      have SW := fun q q2 => NumAt.swap (i := p) (j := k) (hN.drewN q) hr q2
      have hl := hN.2.2
      generalize hx : d.getD k 0 = x at *
      generalize hy : d.getD p 0 = y at *
      by_cases hlt : x < y
      · have ql : decide (x < y) = true := decide_eq_true hlt
        rw [ql] at CL
        have NX := hide (up_step (j := k) (by omega) hk (by omega) hu (by rw [hx, ← hpe, hy]; exact hlt))
        have PM := hide ((swp_perm d (i := p) (j := k) (by omega) (by omega)).trans hp)
        rw [← hpe] at NX
        have HSW := hide SW
        clear hN hg hp hu hpe SW
        go_wp2_with (first
          | (go_at_fn 51; refine CL.mono ?_; rintro e w' ⟨rfl, q, rfl⟩)
          | (go_at_fn 52; refine (CS _).mono ?_; rintro e w' ⟨rfl, q2, rfl⟩))
        go_roundw
        case rel =>
          obtain ⟨s1, s2⟩ := HSW.out q q2
          exact ⟨p, swp d p k, rfl, by omega, s1, ⟨s2.os.trans HG.out.os, s2.tape.trans HG.out.tape, s2.output.trans HG.out.output, Nat.le_trans HG.out.size s2.size, fun i hi hne => (s2.block i (Nat.lt_of_lt_of_le hi HG.out.size) hne).trans (HG.out.block i hi hne)⟩, PM.out, NX.out⟩
        case measure =>
          have := HP.out
          simp [intOf]; omega
      · have ql : decide (x < y) = false := decide_eq_false hlt
        rw [ql] at CL
        have END := hide (fun q => (⟨d, hN.drewN q, ⟨hg.os, hg.tape, hg.output, hg.size, hg.block⟩, hp, up_end hu (Or.inr (by rw [← hpe, hx, hy]; omega))⟩ : ∃ h', NumAt (wr.drewN q) r base b n cap h' ∧ w.grownBy (wr.drewN q) (some b) ∧ h'.Perm h ∧ HeapN h' n))
        clear hN hg hp hu hpe SW
        go_wp2_with (go_at_fn 51; refine CL.mono ?_; rintro e w' ⟨rfl, q, rfl⟩)
        go_end0
        exact ⟨rfl, END.out q⟩
end Go.Proofs.Ytkkoemcciemloaa
