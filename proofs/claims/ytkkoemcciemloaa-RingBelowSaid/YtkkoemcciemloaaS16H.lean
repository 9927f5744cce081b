/- container/heap's Push and Pop. -/
import Derived.Test.YtkkoemcciemloaaS16F
import Derived.Test.YtkkoemcciemloaaS16G
namespace Go.Proofs.Ytkkoemcciemloaa
open Go.RowKit


set_option maxHeartbeats 4000000 in
theorem m_pop {r base b n cap : Nat} {h : List Int} (_hr : r ≠ b) (hn : n ≤ 1048576) (w : World) (H : NumAt w r base b (n + 1) cap h) (hf : w.frozen? ⟨r, 3, none⟩ = false) :
    Calls Try.prog 53 #[.pointer (some ⟨r, 3, none⟩)] w fun e w' => e = .returned (.iface 2 (.int .i64 (h.getD n 0))) ∧ w' = w.setCell ⟨r, 3, none⟩ (.slice (some ⟨b, 0, none⟩) n cap) := by
  obtain ⟨hc, ho, hl⟩ := H
  have cn := OwnI.cellAt ho hl (show n < n + 1 by omega)
  have hcap : n + 1 ≤ cap := by
    obtain ⟨ad, cp, e, _, _, _, h6⟩ := ho.form
    simp only [Value.slice.injEq] at e
    omega
  generalize h.getD n 0 = x at *
  have e0 : ((n : Int) + 1) - 1 = (n : Int) := by omega
  clear ho hl
  go_enter Try.func53, Try.ntmps53
  go_wp2
  go_ret
  exact ⟨rfl, rfl⟩
theorem NumAt.cut {w : World} {r base b n cap : Nat} {h : List Int} (H : NumAt w r base b (n + 1) cap h) (hr : r ≠ b) : NumAt (w.setCell ⟨r, 3, none⟩ (.slice (some ⟨b, 0, none⟩) n cap)) r base b n cap (h.take n) := by
  obtain ⟨hc, ho, hl⟩ := H
  refine ⟨World.cell?_setCell_same' _ _ _ (by rw [hc]; rfl), ?_, by rw [List.length_take]; omega⟩
  exact (ho.cut hl).other r 3 hr
set_option maxHeartbeats 4000000 in
theorem hpush_any {r base : Nat} {v : Value} {h : List Int} {x : Int} (w : World) (hc : w.cell? ⟨r, 3, none⟩ = some v) (hf : w.frozen? ⟨r, 3, none⟩ = false) (ho : OwnI .i64 2 w base v h) (hne : ∀ g, v.ownBlock = some g → g ≠ r) (hb : base ≤ w.heap.size) (hl : h.length ≤ 1048575) (hh : HeapN h h.length) :
    Calls Try.prog 30 #[.iface 63 (.pointer (some ⟨r, 3, none⟩)), .iface 2 (.int .i64 x)] w fun e w' => e = .returned (.tuple #[]) ∧ ∃ b cap h', NumAt w' r base b (h.length + 1) cap h' ∧ r ≠ b ∧ (v.ownBlock = some b ∨ w.heap.size ≤ b) ∧ b < w'.heap.size ∧ RecK w w' r ∧ Off (fun k => k = r ∨ v.ownBlock = some k) w w' ∧ h'.Perm (h ++ [x]) ∧ HeapN h' (h.length + 1) := by
  have hr := cell_ltL hc
  have CP := m_push (x := x) w hc hf ho hne hb hl
  have UO := hide (heap_push rfl hh x)
  have HL := hide hl
  have HR := hide hr
  have mP := meth_push r w
  have eP := ent_push
  have eN := ent_len
  generalize hm : h.length = m at *
  have e0 : ((m : Int) + 1) - 1 = (m : Int) := by omega
  clear hc hf ho hne hb hh hr hm
  go_enter Try.func30, Try.ntmps30
  go_wp2_with (first
    | (go_at_fn 54; (with_reducible refine CP.mono ?_); rintro e w1 ⟨rfl, b, cap, N1, n1, q1, l1, r1, o1⟩; have mN := meth_len N1.1; have HN1 := hide N1; have HR1 := hide r1; have HO1 := hide o1; have HQ1 := hide (And.intro n1 (And.intro q1 l1)); clear N1 n1 q1 l1 r1 o1)
    | (go_at_fn 50; (with_reducible refine (h_len _ _ _ _).mono ?_); rintro e w2 ⟨rfl, rfl⟩)
    | (go_at_call 32; (with_reducible refine (up_any HQ1.out.1 (by omega) (by have := HL.out; omega) UO.out _ HN1.out).mono ?_); rintro e w3 ⟨rfl, h3, N3, g3, p3, k3⟩))
  go_end0
  obtain ⟨n1, q1, l1⟩ := HQ1.out
  exact ⟨rfl, b, cap, h3, N3, n1, q1, Nat.lt_of_lt_of_le l1 g3.size, HR1.out.trans (RecK.grown g3 n1 (Nat.lt_of_lt_of_le HR.out HO1.out.size)), HO1.out.trans (Off.of_grown g3) (fun k hk e => by subst e; rcases q1 with q | q; exact Or.inr q; omega), p3, k3⟩
set_option maxHeartbeats 4000000 in
theorem hpop_any {r base b n cap : Nat} {h : List Int} (hr : r ≠ b) (hn : n ≤ 1048575) (w : World) (H : NumAt w r base b (n + 1) cap h) (hf : w.frozen? ⟨r, 3, none⟩ = false) (hh : HeapN h (n + 1)) :
    Calls Try.prog 31 #[.iface 63 (.pointer (some ⟨r, 3, none⟩))] w fun e w' => e = .returned (.iface 2 (.int .i64 (h.getD 0 0))) ∧ ∃ h', NumAt w' r base b n cap h' ∧ (h' ++ [h.getD 0 0]).Perm h ∧ HeapN h' n ∧ RecK w w' r ∧ Off (fun k => k = r ∨ k = b) w w' := by
  have hl := H.2.2
  have hrl := cell_ltL H.1
  have mN := meth_len H.1
  have mS := meth_swap H.1
  have c0 := OwnI.cellAt H.2.1 H.2.2 (show 0 < n + 1 by omega)
  have cn := OwnI.cellAt H.2.1 H.2.2 (show n < n + 1 by omega)
  have f0 := OwnI.frozenAt H.2.1 H.2.2 0
  have fn := OwnI.frozenAt H.2.1 H.2.2 n
  have CS := h_swap b (n + 1) cap _ _ 0 n (by omega) (by omega) (by omega) w c0 cn f0 fn
  have SW := hide (fun q => NumAt.swap (i := 0) (j := n) H hr q)
  have DO := hide (heap_swap hl hh)
  have SR := hide (swap_rest hl)
  have HN := hide hn
  have HF := hide hf
  have HRL := hide hrl
  have HR := hide hr
  have mP := meth_pop r
  have eN := ent_len
  have eS := ent_swap
  have eP := ent_pop
  have e0 : ((n : Int) + 1) - 1 = (n : Int) := by omega
  rw [show ((0 : Nat) : Int) = 0 from rfl] at CS
  clear H hf hh hl hrl c0 cn f0 fn
  go_enter Try.func31, Try.ntmps31
  go_wp2_with (first
    | (go_at_fn 50; (with_reducible refine (h_len _ _ _ _).mono ?_); rintro e w1 ⟨rfl, rfl⟩)
    | (go_at_fn 52; ((with_reducible refine CS.mono ?_); rintro e w2 ⟨rfl, q, hw2⟩; obtain ⟨N2, g2⟩ := SW.out q; rw [← hw2] at N2 g2; have HN2 := hide N2; have HG2 := hide g2; clear N2 g2 hw2))
    | (go_at_call 33; (with_reducible refine (down_any HR.out (by omega) (by have := HN.out; omega) DO.out _ HN2.out).mono ?_); rintro e w3 ⟨bb, rfl, h3, N3, g3, p3, k3, d3⟩; have HN3 := hide N3; have R3 := hide (RecK.grown (grown_trans HG2.out g3) HR.out HRL.out); have HG3 := hide (grown_trans HG2.out g3); have HP3 := hide (And.intro p3 (And.intro k3 d3)); clear N3 g3 p3 k3 d3)
    | (go_at_fn 53; ((with_reducible refine (m_pop (n := n) HR.out (by omega) _ HN3.out (R3.out.fr HF.out)).mono ?_); rintro e w4 ⟨rfl, rfl⟩)))
  go_ret
  obtain ⟨s1, s2⟩ := SR.out
  obtain ⟨p3, k3, d3⟩ := HP3.out
  have hl3 := HN3.out.2.2
  have e3 : h3.getD n 0 = h.getD 0 0 := by
    have a : (h3.drop n).getD 0 0 = ((swp h 0 n).drop n).getD 0 0 := by rw [d3]
    rw [List.getD_eq_getElem?_getD, List.getD_eq_getElem?_getD, List.getElem?_drop, List.getElem?_drop, Nat.add_zero, ← List.getD_eq_getElem?_getD, ← List.getD_eq_getElem?_getD, s1] at a
    exact a
  refine ⟨by show Ending.returned (Value.iface 2 (.int .i64 (h3.getD n 0))) = _; rw [e3], h3.take n, HN3.out.cut HR.out, ?_, heap_take k3, R3.out.trans (RecK.set _ _ _), (((Off.refl (fun k => k = r ∨ k = b) w).trans (Off.of_grown HG3.out) (fun k _ e => Or.inr e)).set (fun _ => Or.inl rfl) _)⟩
  exact ((take_perm p3 d3).append_right _).trans s2
end Go.Proofs.Ytkkoemcciemloaa
