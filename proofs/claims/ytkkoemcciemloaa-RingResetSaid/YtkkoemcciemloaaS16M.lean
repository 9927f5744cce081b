/- The least row goes; a row is put. -/
import Derived.Test.YtkkoemcciemloaaS16L
namespace Go.Proofs.Ytkkoemcciemloaa
open Go.RowKit
open Go.Maps (Keyed)
open Go.MapKept Go.ChangeMaps


theorem hasJ_tail_at {y : Int × List Int} {L : List (Int × List Int)} (hr : RisingR (y :: L)) (j : Int) : hasJ L j = (hasJ (y :: L) j && !decide (j = y.1)) := by
  obtain ⟨h1, _⟩ := List.pairwise_cons.1 hr
  rw [Bool.eq_iff_iff, Bool.and_eq_true, hasJ_iff, hasJ_iff, Bool.not_eq_true', decide_eq_false_iff_not]
  constructor
  · rintro ⟨z, hz, rfl⟩
    exact ⟨⟨z, List.mem_cons_of_mem _ hz, rfl⟩, fun e => by have := h1 z hz; omega⟩
  · rintro ⟨⟨z, hz, rfl⟩, hne⟩
    rcases List.mem_cons.1 hz with rfl | hz
    · exact absurd rfl hne
    · exact ⟨z, hz, rfl⟩
/-- What the memory is behind the least row's going. -/
theorem drop_mem {w w1 w2 : World} {base r m : Nat} {S : Nat → Prop} {room width : Nat} {L : List (Int × List Int)} {y : Int × List Int} {h h' : List Int} {D : DataW Value} {V : Int → Value} {n b cap : Nat}
    (R : RingAt w base r S room width (y :: L)) (M : RMem w base r S (y :: L) m (.slice (some ⟨b, 0, none⟩) (L.length + 1) cap) h D V)
    (N1 : NumAt w1 r base b L.length cap h') (p1 : (h' ++ [y.1]).Perm h) (k1 : HeapN h' L.length) (r1 : RecK w w1 r) (o1 : Off (fun k => k = r ∨ k = b) w w1)
    (m2 : w2.ownsMap Try.prog 2 heldR m n (D.del (.int .i64 y.1))) (g2 : w1.grownBy w2 (some m)) :
    RingAt w2 base r (fun k => S k ∧ (V y.1).ownBlock ≠ some k) room width L ∧ Off S w w2 ∧ OwnI .i64 2 w2 base (V y.1) y.2 ∧ (∀ g, (V y.1).ownBlock = some g → S g) := by
  have hr := R.hi r R.sr
  have s1 := o1.size
  have s2 := g2.size
  have O2 := Off.of_grown g2
  have rm : r ≠ m := fun e => M.mr e.symm
  have hy : y ∈ y :: L := List.mem_cons_self ..
  obtain ⟨bS, br, bm⟩ := M.vb b rfl
  obtain ⟨hlt, hL⟩ := List.pairwise_cons.1 R.ok.rising
  have yb := M.blk y hy
  have cell : ∀ o z, o ≠ 3 → w.cell? ⟨r, o, none⟩ = some z → w2.cell? ⟨r, o, none⟩ = some z := fun o z hne hc => O2.cell rm (r1.cl hne hc)
  have HO : Off S w w2 := (o1.mono (fun k _ e => by
    rcases e with e | e
    · subst e; exact R.sr
    · subst e; exact bS)).trans O2 (fun k _ e => by subst e; exact M.sm)
  have own : ∀ x ∈ y :: L, OwnI .i64 2 w2 base (V x.1) x.2 := fun x hx => O2.own (o1.own (M.rows x hx) (fun g hg e => by
    rcases e with e | e
    · exact (M.blk x hx g hg).2.1 e
    · subst e; exact (M.blk x hx g hg).2.2.2 rfl)) (fun g hg => (M.blk x hx g hg).2.2.1)
  have hlen := R.ok.len
  rw [List.length_cons] at hlen
  refine ⟨⟨⟨hL, by omega, R.ok.r1, R.ok.r2, R.ok.wd, fun x hx => R.ok.rows x (List.mem_cons_of_mem _ hx)⟩, fun k hk => R.lo k hk.1, fun k hk => by have := R.hi k hk.1; omega, ⟨R.sr, fun e => (yb r e).2.1 rfl⟩, cell 0 _ (by decide) R.c0, cell 1 _ (by decide) R.c1, fun o => ?_, m, .slice (some ⟨b, 0, none⟩) L.length cap, h', D.del (.int .i64 y.1), V, ?_⟩, HO, own y hy, fun g hg => (yb g hg).1⟩
  · exact (O2.frozen rm (by omega)).trans (r1.fr (R.fr o))
  · have hmap : w2.ownsMap Try.prog 2 heldR m n (D.del (.int .i64 y.1)) := m2
    have hD : Maps.has D (.int .i64 y.1) = true := by rw [M.has]; exact (hasJ_iff _ _).2 ⟨y, hy, rfl⟩
    have sd := Maps.size_del (k := .int .i64 y.1) (M.map.tidy keyed64)
    rw [hD, M.size, List.length_cons, if_pos rfl] at sd
    refine ⟨cell 2 _ (by decide) M.c2, ⟨M.sm, fun e => (yb m e).2.2.1 rfl⟩, M.mr, O2.cell rm N1.1, O2.own N1.2.1 (fun g hg => ?_), fun g hg => ?_, ?_, by rw [N1.2.2]; exact k1, map_tight hmap, by omega, fun i => ?_, fun x hx z => ?_, fun x hx => own x (List.mem_cons_of_mem _ hx), fun x hx g hg => ?_, fun x hx z hz hne => M.apart x (List.mem_cons_of_mem _ hx) z (List.mem_cons_of_mem _ hz) hne⟩
    · obtain rfl : b = g := Option.some.inj hg
      exact bm
    · obtain rfl : b = g := Option.some.inj hg
      exact ⟨⟨bS, fun e => (yb _ e).2.2.2 rfl⟩, br, bm⟩
    · have q := p1.trans M.perm
      rw [List.map_cons] at q
      exact (List.perm_cons y.1).1 ((List.perm_append_comm (l₁ := [y.1]) (l₂ := h')).trans q)
    · rw [hasJ_tail_at R.ok.rising]
      by_cases e : i = y.1
      · subst e
        rw [Maps.has_del_same]
        simp
      · rw [Maps.has_del_other (lit_ne e), M.has, decide_eq_false e, Bool.not_false, Bool.and_true]
    · have hne : x.1 ≠ y.1 := by have := hlt x hx; omega
      rw [Maps.atKey_del_other (lit_ne hne), M.at_ x (List.mem_cons_of_mem _ hx)]
    · obtain ⟨a1, a2, a3, a4⟩ := M.blk x (List.mem_cons_of_mem _ hx) g hg
      have hne : x.1 ≠ y.1 := by have := hlt x hx; omega
      exact ⟨⟨a1, M.apart x (List.mem_cons_of_mem _ hx) y hy hne g hg⟩, a2, a3, a4⟩
set_option maxHeartbeats 4000000 in
theorem rdrop_any {w : World} {base r : Nat} {S : Nat → Prop} {room width : Nat} {L : List (Int × List Int)} {y : Int × List Int} (R : RingAt w base r S room width (y :: L)) :
    Calls Try.prog 29 #[.pointer (some ⟨r, 0, none⟩)] w fun e w' => ∃ u S', e = .returned u ∧ RingAt w' base r S' room width L ∧ OwnI .i64 2 w' base u y.2 ∧ (∀ g, u.ownBlock = some g → S g ∧ ¬ S' g) ∧ Off S w w' ∧ ∀ k, S' k → S k := by
  obtain ⟨m, v, h, D, V, M⟩ := R.mem
  have hl : h.length = L.length + 1 := by rw [M.perm.length_eq, List.length_map, List.length_cons]
  obtain ⟨b, cap, rfl, hbb, hbl, _, _, _⟩ := own_row M.nums hl (by omega)
  have hf := heap_first M.perm M.heap R.ok.rising (by simp)
  have hf2 : h.getD 0 0 = y.1 := hf
  have hlen := R.ok.len
  rw [List.length_cons] at hlen
  have hr2 := R.ok.r2
  have br := (M.vb b rfl).2.1
  have bm := (M.vb b rfl).2.2
  have HP := M.heap
  rw [hl] at HP
  have CP := hpop_any (r := r) (base := base) (n := L.length) (fun e => br e.symm) (by omega) w ⟨M.c3, M.nums, hl⟩ (R.fr 3) HP
  rw [hf2] at CP
  obtain ⟨k1, k2⟩ := (R.ok.rows y (List.mem_cons_self ..)).2
  have HK := hide (key64 k1 k2)
  have LOOK := hide (fun (w1 : World) (r1 : RecK w w1 r) (o1 : Off (fun k => k = r ∨ k = b) w w1) => (⟨r1.cl (by decide) M.c2, Off.map o1 M.map (fun e => by
    rcases e with e | e
    · exact M.mr e
    · exact bm e.symm), by
      obtain ⟨u, ps, hrun, hu⟩ := (Off.map o1 M.map (fun e => by
        rcases e with e | e
        · exact M.mr e
        · exact bm e.symm)).lookup keyed64 Try.underlying53 (zeroSl w1) (zd := .held (.slice none 0 0)) (zp := []) rfl (key64 k1 k2)
      rw [M.at_ y (List.mem_cons_self ..)] at hu
      rw [hrun, held_inv hu]⟩ : w1.cell? ⟨r, 2, none⟩ = some (.map (some m)) ∧ w1.ownsMap Try.prog 2 heldR m (Maps.size D) D ∧ (Instr.lookup 53 (.map (some m)) (.int .i64 y.1) false).run Try.prog w1 = .ok (V y.1) w1))
  have HEND := hide (fun (w1 w2 : World) (n : Nat) (h' : List Int) => drop_mem (w1 := w1) (w2 := w2) (n := n) (h' := h') R M)
  have hta := assert64 y.1
  clear M R hl hbb hbl hf hf2 HP hlen hr2 br bm k1 k2
  go_enter Try.func29, Try.ntmps29
  go_wp2_with (first
    | (go_at_call 31; (with_reducible refine CP.mono ?_); rintro e w1 ⟨rfl, h', N1, p1, k1, r1, o1⟩; obtain ⟨c2, mo, lk⟩ := LOOK.out w1 r1 o1; have HM := hide mo; have HE := hide (fun (w2 : World) (n : Nat) => HEND.out w1 w2 n h' N1 p1 k1 r1 o1); clear N1 p1 k1 r1 o1 mo)
    | (at_delete; refine wpList_delete_own _ rfl _ _ 53 2 rfl 26 keyed64 Try.underlying53 heldR m (Maps.size D) D rfl HM.out _ _ rfl HK.out ?_; intro w2 m2 t2; have HF := hide (HE.out w2 _ m2 t2.grown); clear m2 t2))
  go_ret
  obtain ⟨f1, f2, f3, f4⟩ := HF.out
  exact ⟨V y.1, _, rfl, f1, f3, fun g hg => ⟨f4 g hg, fun e => e.2 hg⟩, f2, fun k hk => hk.1⟩
end Go.Proofs.Ytkkoemcciemloaa
