/- container/heap's down over a heap of numbers. -/
import Derived.Test.YtkkoemcciemloaaS16E
namespace Go.Proofs.Ytkkoemcciemloaa
open Go.RowKit


theorem grown_trans {a b c : World} {row : Option Nat} (h : a.grownBy b row) (k : b.grownBy c row) : a.grownBy c row := ⟨k.os.trans h.os, k.tape.trans h.tape, k.output.trans h.output, Nat.le_trans h.size k.size, fun i hi hne => (k.block i (Nat.lt_of_lt_of_le hi h.size) hne).trans (h.block i hi hne)⟩
/-- What down leaves. -/
def DnEnd (w : World) (r base b n cap m : Nat) (h : List Int) (w' : World) : Prop := ∃ h', NumAt w' r base b n cap h' ∧ w.grownBy w' (some b) ∧ h'.Perm h ∧ HeapN h' m ∧ h'.drop m = h.drop m
theorem DnEnd.drewN {w : World} {r base b n cap m : Nat} {h : List Int} {w' : World} (H : DnEnd w r base b n cap m h w') (q : Nat) : DnEnd w r base b n cap m h (w'.drewN q) := by
  obtain ⟨h', a, b, c⟩ := H
  exact ⟨h', a.drewN q, ⟨b.os, b.tape, b.output, b.size, b.block⟩, c⟩
set_option maxHeartbeats 8000000 in
theorem down_any {r base b n cap m : Nat} {h : List Int} (hr : r ≠ b) (hmn : m ≤ n) (hn : n ≤ 1048576) (hd : DnOk h m 0) (w : World) (H : NumAt w r base b n cap h) :
    Calls Try.prog 33 #[.iface 63 (.pointer (some ⟨r, 3, none⟩)), .int .i64 0, .int .i64 m] w fun e w' => ∃ bb, e = .returned (.bool bb) ∧ DnEnd w r base b n cap m h w' := by
  have eL := ent_less
  have eS := ent_swap
  have HH := hide H
  have HU := hide hd
  clear H hd
  go_enter Try.func33, Try.ntmps33
  go_wp2
  go_loopw [7] (fun vi wr => ∃ (k : Nat) (d : List Int), vi = .int .i64 k ∧ k ≤ m ∧ NumAt wr r base b n cap d ∧ w.grownBy wr (some b) ∧ d.Perm h ∧ DnOk d m k ∧ d.drop m = h.drop m) (fun vi _ => m - (intOf vi).toNat)
  case atStart => exact ⟨0, h, rfl, Nat.zero_le _, HH.out, grown_refl _ _, List.Perm.refl _, HU.out, rfl⟩
  case round =>
    obtain ⟨k, d, rfl, hk, hN, hg, hp, hu, hdr⟩ := hrel
    obtain ⟨j1, hj1⟩ : ∃ j1, j1 = 2 * k + 1 := ⟨_, rfl⟩
    obtain ⟨j2, hj2⟩ : ∃ j2, j2 = j1 + 1 := ⟨_, rfl⟩
    have e1 : 2 * (k : Int) + 1 = (j1 : Int) := by omega
    have e2 : (j1 : Int) + 1 = (j2 : Int) := by omega
    have qn : decide ((j1 : Int) < 0) = false := decide_eq_false (by omega)
    have END : (∀ i, 0 < i → i < m → (i - 1) / 2 = k → d.getD k 0 ≤ d.getD i 0) → Hid (DnEnd w r base b n cap m h wr) := fun he => ⟨d, hN, hg, hp, dn_end hu he, hdr⟩
    have hl := hN.2.2
    have NEXT : ∀ j, j < m → 0 < j → (j - 1) / 2 = k → d.getD j 0 < d.getD k 0 → (∀ i, 0 < i → i < m → (i - 1) / 2 = k → d.getD j 0 ≤ d.getD i 0) → Hid (DnOk (swp d k j) m j ∧ (swp d k j).Perm h ∧ (swp d k j).drop m = h.drop m) := fun j a b c e f =>
      ⟨dn_step (by omega) a b c hu (by omega) f, (swp_perm d (by omega) (by omega)).trans hp, by rw [drop_swp (by omega) a]; exact hdr⟩
    have HG := hide hg
    have SW := fun j q q2 => hide (NumAt.swap (i := k) (j := j) (hN.drewN q) hr q2)
    have := fun j q q' q2 => hide (NumAt.swap (i := k) (j := j) ((hN.drewN q).drewN q') hr q2)
    have mL := meth_less hN.1
    have mL1 := fun q => meth_less (w := wr.drewN q) hN.1
    have mS := fun q => meth_swap (w := wr.drewN q) hN.1
    have := fun q q' => meth_swap (w := (wr.drewN q).drewN q') hN.1
    have cA : ∀ i, i < m → wr.cell? ⟨b, i, none⟩ = some (.int .i64 (d.getD i 0)) := fun i hi => OwnI.cellAt hN.2.1 hl (by omega)
    have fA : ∀ i, wr.frozen? ⟨b, i, none⟩ = false := fun i => OwnI.frozenAt hN.2.1 hl i
    have LESS : ∀ (i j q : Nat), i < m → j < m → Calls Try.prog 51 #[.slice (some ⟨b, 0, none⟩) n cap, .int .i64 i, .int .i64 j] (wr.drewN q) fun e w' => e = .returned (.bool (decide (d.getD i 0 < d.getD j 0))) ∧ Drew (wr.drewN q) w' := fun i j q hi hj =>
      h_less b n cap _ _ i j (by omega) (by omega) (by omega) (wr.drewN q) (cA i hi) (cA j hj)
    have LESS0 : ∀ (i j : Nat), i < m → j < m → Calls Try.prog 51 #[.slice (some ⟨b, 0, none⟩) n cap, .int .i64 i, .int .i64 j] wr fun e w' => e = .returned (.bool (decide (d.getD i 0 < d.getD j 0))) ∧ Drew wr w' := fun i j hi hj =>
      h_less b n cap _ _ i j (by omega) (by omega) (by omega) wr (cA i hi) (cA j hj)
    have SWAP : ∀ (i j q : Nat), i < m → j < m → Calls Try.prog 52 #[.slice (some ⟨b, 0, none⟩) n cap, .int .i64 i, .int .i64 j] (wr.drewN q) fun e w' => e = .returned (.tuple #[]) ∧ ∃ q', w' = (((wr.drewN q).setCell ⟨b, i, none⟩ (.int .i64 (d.getD j 0))).setCell ⟨b, j, none⟩ (.int .i64 (d.getD i 0))).drewN q' := fun i j q hi hj =>
      h_swap b n cap _ _ i j (by omega) (by omega) (by omega) (wr.drewN q) (cA i hi) (cA j hj) (fA i) (fA j)
    clear hN hg hp hu hdr cA fA
    by_cases hA : m ≤ j1
    · have E := END (fun i _ hi he => by omega)
      clear END NEXT SW LESS LESS0 SWAP mL mL1 mS
      have q1 : ((m : Int) ≤ (j1 : Int)) := by omega
      clear hj1 hj2
      go_wp2
      go_ret
      exact ⟨_, rfl, E.out⟩
    · have q1 : ¬ ((m : Int) ≤ (j1 : Int)) := by omega
      by_cases hB : j2 < m
      · have C1 := LESS0 j2 j1 hB (by omega)
        by_cases hC : d.getD j2 0 < d.getD j1 0
        · have qC : decide (d.getD j2 0 < d.getD j1 0) = true := decide_eq_true hC
          simp only [qC] at C1
          have MIN := hide (fun i (a : 0 < i) (b : i < m) (c : (i - 1) / 2 = k) => show d.getD j2 0 ≤ d.getD i 0 by
            by_cases e : i = j2
            · subst e; omega
            · obtain rfl : i = j1 := by omega
              omega)
          have hjk : (j2 - 1) / 2 = k := by omega
          have C2 := fun q => LESS j2 k q (by omega) (by omega)
          have CS := fun q => SWAP k j2 q (by omega) (by omega)
          by_cases hS : d.getD j2 0 < d.getD k 0
          · have NX := NEXT j2 (by omega) (by omega) hjk hS MIN.out
            have HSW := SW
            have qS : decide (d.getD j2 0 < d.getD k 0) = true := decide_eq_true hS
            simp only [qS] at C2
            clear END NEXT LESS LESS0 SWAP
            have HJ := hide (And.intro hj1 (And.intro hj2 hjk))
            clear hj1 hj2 hjk
            go_wp2_with (first
                | (go_at_fn 51; (with_reducible refine C1.mono ?_); rintro e w' ⟨rfl, q, rfl⟩)
                | (go_at_fn 51; (with_reducible refine (C2 _).mono ?_); rintro e w' ⟨rfl, p, rfl⟩)
                | (go_at_fn 52; (with_reducible refine (CS _).mono ?_); rintro e w' ⟨rfl, q2, rfl⟩))
            obtain ⟨hj1, hj2, hjk⟩ := HJ.out
            go_roundw
            case rel =>
              obtain ⟨s1, s2⟩ := (HSW j2 (q + p) q2).out
              obtain ⟨n1, n2, n3⟩ := NX.out
              exact ⟨j2, swp d k j2, rfl, by omega, s1, grown_trans (grown_trans HG.out (grown_drewN _ _ _)) s2, n2, n1, n3⟩
            case measure => simp [intOf]; omega
          · have E := END (fun i a b c => by have := MIN.out i a b c; omega)
            have qS : decide (d.getD j2 0 < d.getD k 0) = false := decide_eq_false hS
            simp only [qS] at C2
            clear END NEXT LESS LESS0 SWAP SW hj1 hj2 hjk
            go_wp2_with (first
                | (go_at_fn 51; (with_reducible refine C1.mono ?_); rintro e w' ⟨rfl, q, rfl⟩)
                | (go_at_fn 51; (with_reducible refine (C2 _).mono ?_); rintro e w' ⟨rfl, p, rfl⟩))
            go_ret
            exact ⟨_, rfl, E.out.drewN (q + p)⟩
        · have qC : decide (d.getD j2 0 < d.getD j1 0) = false := decide_eq_false hC
          simp only [qC] at C1
          have MIN := hide (fun i (a : 0 < i) (b : i < m) (c : (i - 1) / 2 = k) => show d.getD j1 0 ≤ d.getD i 0 by
            by_cases e : i = j2
            · subst e; omega
            · obtain rfl : i = j1 := by omega
              omega)
          have hjk : (j1 - 1) / 2 = k := by omega
          have C2 := fun q => LESS j1 k q (by omega) (by omega)
          have CS := fun q => SWAP k j1 q (by omega) (by omega)
          by_cases hS : d.getD j1 0 < d.getD k 0
          · have NX := NEXT j1 (by omega) (by omega) hjk hS MIN.out
            have HSW := SW
            have qS : decide (d.getD j1 0 < d.getD k 0) = true := decide_eq_true hS
            simp only [qS] at C2
            clear END NEXT LESS LESS0 SWAP
            have HJ := hide (And.intro hj1 (And.intro hj2 hjk))
            clear hj1 hj2 hjk
            go_wp2_with (first
                | (go_at_fn 51; (with_reducible refine C1.mono ?_); rintro e w' ⟨rfl, q, rfl⟩)
                | (go_at_fn 51; (with_reducible refine (C2 _).mono ?_); rintro e w' ⟨rfl, p, rfl⟩)
                | (go_at_fn 52; (with_reducible refine (CS _).mono ?_); rintro e w' ⟨rfl, q2, rfl⟩))
            obtain ⟨hj1, hj2, hjk⟩ := HJ.out
            go_roundw
            case rel =>
              obtain ⟨s1, s2⟩ := (HSW j1 (q + p) q2).out
              obtain ⟨n1, n2, n3⟩ := NX.out
              exact ⟨j1, swp d k j1, rfl, by omega, s1, grown_trans (grown_trans HG.out (grown_drewN _ _ _)) s2, n2, n1, n3⟩
            case measure => simp [intOf]; omega
          · have E := END (fun i a b c => by have := MIN.out i a b c; omega)
            have qS : decide (d.getD j1 0 < d.getD k 0) = false := decide_eq_false hS
            simp only [qS] at C2
            clear END NEXT LESS LESS0 SWAP SW hj1 hj2 hjk
            go_wp2_with (first
                | (go_at_fn 51; (with_reducible refine C1.mono ?_); rintro e w' ⟨rfl, q, rfl⟩)
                | (go_at_fn 51; (with_reducible refine (C2 _).mono ?_); rintro e w' ⟨rfl, p, rfl⟩))
            go_ret
            exact ⟨_, rfl, E.out.drewN (q + p)⟩
      · have MIN := hide (fun i (a : 0 < i) (b : i < m) (c : (i - 1) / 2 = k) => show d.getD j1 0 ≤ d.getD i 0 by
          obtain rfl : i = j1 := by omega
          omega)
        have hjk : (j1 - 1) / 2 = k := by omega
        have C2 := LESS0 j1 k (by omega) (by omega)
        have CS := fun q => SWAP k j1 q (by omega) (by omega)
        by_cases hS : d.getD j1 0 < d.getD k 0
        · have NX := NEXT j1 (by omega) (by omega) hjk hS MIN.out
          have HSW := SW
          have qS : decide (d.getD j1 0 < d.getD k 0) = true := decide_eq_true hS
          simp only [qS] at C2
          clear END NEXT LESS LESS0 SWAP
          have HJ := hide (And.intro hj1 (And.intro hj2 hjk))
          clear hj1 hj2 hjk
          go_wp2_with (first
              | (go_at_fn 51; (with_reducible refine C2.mono ?_); rintro e w' ⟨rfl, q, rfl⟩)
              | (go_at_fn 52; (with_reducible refine (CS _).mono ?_); rintro e w' ⟨rfl, q2, rfl⟩))
          obtain ⟨hj1, hj2, hjk⟩ := HJ.out
          go_roundw
          case rel =>
            obtain ⟨s1, s2⟩ := (HSW j1 q q2).out
            obtain ⟨n1, n2, n3⟩ := NX.out
            exact ⟨j1, swp d k j1, rfl, by omega, s1, grown_trans (grown_trans HG.out (grown_drewN _ _ _)) s2, n2, n1, n3⟩
          case measure => simp [intOf]; omega
        · have E := END (fun i a b c => by have := MIN.out i a b c; omega)
          have qS : decide (d.getD j1 0 < d.getD k 0) = false := decide_eq_false hS
          simp only [qS] at C2
          clear END NEXT LESS LESS0 SWAP SW hj1 hj2 hjk
          go_wp2_with (go_at_fn 51; (with_reducible refine C2.mono ?_); rintro e w' ⟨rfl, q, rfl⟩)
          go_ret
          exact ⟨_, rfl, E.out.drewN q⟩
end Go.Proofs.Ytkkoemcciemloaa
