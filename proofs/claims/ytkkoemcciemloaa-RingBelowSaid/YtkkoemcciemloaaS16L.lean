/- A row is held; the least one goes. -/
import Derived.Test.YtkkoemcciemloaaS16K
namespace Go.Proofs.Ytkkoemcciemloaa
open Go.RowKit
open Go.Maps (Keyed)
open Go.MapKept Go.ChangeMaps


theorem insR_perm (x : Int × List Int) (L : List (Int × List Int)) : (insR x L).Perm (x :: L) := by
  induction L with
  | nil => exact List.Perm.refl _
  | cons y r ih =>
    unfold insR
    split
    · exact List.Perm.refl _
    · exact (ih.cons y).trans (List.Perm.swap x y r)
theorem hasJ_insR (x : Int × List Int) (L : List (Int × List Int)) (j : Int) : hasJ (insR x L) j = (decide (x.1 = j) || hasJ L j) := by
  rw [Bool.eq_iff_iff, hasJ_iff, Bool.or_eq_true, hasJ_iff, decide_eq_true_eq]
  constructor
  · rintro ⟨y, hy, e⟩
    rcases (insR_mem x L y).1 hy with rfl | hy
    · exact Or.inl e
    · exact Or.inr ⟨y, hy, e⟩
  · rintro (e | ⟨y, hy, e⟩)
    · exact ⟨x, (insR_mem x L x).2 (Or.inl rfl), e⟩
    · exact ⟨y, (insR_mem x L y).2 (Or.inr hy), e⟩
theorem lit_ne {i j : Int} (h : i ≠ j) : Lit.int .i64 i ≠ Lit.int .i64 j := fun e => h (by injection e)
theorem ne_of_hasJ {L : List (Int × List Int)} {j : Int} (h : hasJ L j = false) {x : Int × List Int} (hx : x ∈ L) : x.1 ≠ j := fun e => by
  have := (hasJ_iff L j).2 ⟨x, hx, e⟩
  rw [h] at this; cases this
/-- What the memory is behind a row that was put. -/
theorem hold_mem {w w1 w2 : World} {base r m : Nat} {S : Nat → Prop} {room width : Nat} {L : List (Int × List Int)} {v u : Value} {h h' xs : List Int} {D : DataW Value} {V : Int → Value} {j : Int} {n b cap : Nat}
    (j1 : -9223372036854775808 ≤ j) (j2 : j ≤ 9223372036854775807) (R : RingAt w base r S room width L) (M : RMem w base r S L m v h D V) (hl : L.length < room) (hj : hasJ L j = false) (hx : xs.length = width) (ho : OwnI .i64 2 w base u xs) (hu : ∀ g, u.ownBlock = some g → ¬ S g)
    (m1 : w1.ownsMap Try.prog 2 heldR m n (D.put (.int .i64 j) (.held u))) (g1 : w.grownBy w1 (some m))
    (N2 : NumAt w2 r base b (h.length + 1) cap h') (hrb : r ≠ b) (hb : v.ownBlock = some b ∨ w1.heap.size ≤ b) (hbl : b < w2.heap.size) (r2 : RecK w1 w2 r) (o2 : Off (fun k => k = r ∨ v.ownBlock = some k) w1 w2) (p2 : h'.Perm (h ++ [j])) (k2 : HeapN h' (h.length + 1)) :
    RingAt w2 base r (fun k => S k ∨ u.ownBlock = some k ∨ k = b) room width (insR (j, xs) L) ∧ Off S w w2 := by
  have hr := R.hi r R.sr
  have hml := R.hi m M.sm
  have s1 := g1.size
  have s2 := o2.size
  have O1 := Off.of_grown g1
  have rm : r ≠ m := fun e => M.mr e.symm
  have ul : ∀ g, u.ownBlock = some g → g < w.heap.size := fun g hg => OwnI.lt ho g hg
  have nb : ∀ g, g < w.heap.size → v.ownBlock ≠ some g → g ≠ b := fun g hg hv e => by
    subst e
    rcases hb with hb | hb
    · exact hv hb
    · omega
  have ub : ∀ g, u.ownBlock = some g → g ≠ r ∧ g ≠ m ∧ v.ownBlock ≠ some g ∧ g ≠ b := fun g hg => by
    have hv : v.ownBlock ≠ some g := fun e => hu g hg (M.vb g e).1
    exact ⟨fun e => hu g hg (e ▸ R.sr), fun e => hu g hg (e ▸ M.sm), hv, nb g (ul g hg) hv⟩
  have cell : ∀ o z, o ≠ 3 → w.cell? ⟨r, o, none⟩ = some z → w2.cell? ⟨r, o, none⟩ = some z := fun o z hne hc => r2.cl hne (O1.cell rm hc)
  have HO : Off S w w2 := (O1.mono (fun k _ e => by subst e; exact M.sm)).trans o2 (fun k hk e => by
    rcases e with e | e
    · subst e; exact R.sr
    · exact (M.vb k e).1)
  refine ⟨⟨⟨insR_rising R.ok.rising hj, by rw [insR_length]; omega, R.ok.r1, R.ok.r2, R.ok.wd, fun x hx' => ?_⟩, fun k hk => ?_, fun k hk => ?_, Or.inl R.sr, cell 0 _ (by decide) R.c0, cell 1 _ (by decide) R.c1, fun o => r2.fr ((O1.frozen rm hr).trans (R.fr o)), m, .slice (some ⟨b, 0, none⟩) (h.length + 1) cap, h', D.put (.int .i64 j) (.held u), (fun i => if i = j then u else V i), ?_⟩, HO⟩
  · rcases (insR_mem _ _ _).1 hx' with rfl | hx'
    · exact ⟨hx, j1, j2⟩
    · exact R.ok.rows x hx'
  · rcases hk with hk | hk | hk
    · exact R.lo k hk
    · exact own_fresh ho k hk
    · subst hk
      rcases hb with hb | hb
      · exact own_fresh M.nums _ hb
      · have := R.lo r R.sr
        omega
  · rcases hk with hk | hk | hk
    · have := R.hi k hk; omega
    · have := ul k hk; omega
    · subst hk; exact hbl
  · have hs := M.size
    have hD : Maps.has D (.int .i64 j) = false := by rw [M.has]; exact hj
    have hmap := Off.map o2 m1 (fun e => by
      rcases e with e | e
      · exact M.mr e
      · exact (M.vb m e).2.2 rfl)
    refine ⟨cell 2 _ (by decide) M.c2, Or.inl M.sm, M.mr, N2.1, N2.2.1, fun g hg => ?_, ?_, ?_, map_tight hmap, ?_, fun i => ?_, fun x hx' z => ?_, fun x hx' => ?_, fun x hx' g hg => ?_, fun x hx' y hy' hne => ?_⟩
    · obtain rfl : b = g := Option.some.inj hg
      refine ⟨Or.inr (Or.inr rfl), fun e => hrb e.symm, fun e => ?_⟩
      rcases hb with hb | hb
      · exact (M.vb _ hb).2.2 e
      · omega
    · refine p2.trans ?_
      have q := (insR_perm (j, xs) L).map (·.1)
      refine List.Perm.trans ?_ q.symm
      rw [List.map_cons]
      exact List.perm_append_comm.trans (M.perm.cons j)
    · rw [N2.2.2]; exact k2
    · rw [Maps.size_put (M.map.tidy keyed64), hD, insR_length, hs]
      rfl
    · rw [hasJ_insR]
      by_cases e : i = j
      · subst e
        rw [Maps.has_put_same M.map.isMap (by trivial)]
        simp
      · rw [Maps.has_put_other (lit_ne e), M.has, decide_eq_false (show ¬ (j, xs).1 = i from fun q => e q.symm), Bool.false_or]
    · show _ = DataW.held (if x.1 = j then u else V x.1)
      rcases (insR_mem _ _ _).1 hx' with rfl | hx'
      · rw [if_pos rfl, Maps.atKey_put_same M.map.isMap (by trivial)]
      · have hne := ne_of_hasJ hj hx'
        rw [if_neg hne, Maps.atKey_put_other (lit_ne hne), M.at_ x hx']
    · show OwnI _ _ _ _ (if x.1 = j then u else V x.1) _
      rcases (insR_mem _ _ _).1 hx' with rfl | hx'
      · rw [if_pos rfl]
        exact o2.own (O1.own ho (fun g hg => (ub g hg).2.1)) (fun g hg e => by
          rcases e with e | e
          · exact (ub g hg).1 e
          · exact (ub g hg).2.2.1 e)
      · rw [if_neg (ne_of_hasJ hj hx')]
        exact o2.own (O1.own (M.rows x hx') (fun g hg => (M.blk x hx' g hg).2.2.1)) (fun g hg e => by
          rcases e with e | e
          · exact (M.blk x hx' g hg).2.1 e
          · exact (M.blk x hx' g hg).2.2.2 e)
    · have hg' : (if x.1 = j then u else V x.1).ownBlock = some g := hg
      rcases (insR_mem _ _ _).1 hx' with rfl | hx'
      · rw [if_pos rfl] at hg'
        obtain ⟨a1, a2, a3, a4⟩ := ub g hg'
        exact ⟨Or.inr (Or.inl hg'), a1, a2, fun e => a4 (Option.some.inj e).symm⟩
      · rw [if_neg (ne_of_hasJ hj hx')] at hg'
        obtain ⟨a1, a2, a3, a4⟩ := M.blk x hx' g hg'
        exact ⟨Or.inl a1, a2, a3, fun e => nb g (R.hi g a1) a4 (Option.some.inj e).symm⟩
    · show Apart (if x.1 = j then u else V x.1) (if y.1 = j then u else V y.1)
      rcases (insR_mem _ _ _).1 hx' with rfl | hx'
      · rcases (insR_mem _ _ _).1 hy' with rfl | hy'
        · exact absurd rfl hne
        · rw [if_pos rfl, if_neg (ne_of_hasJ hj hy')]
          exact fun g hg e => hu g hg (M.blk y hy' g e).1
      · rcases (insR_mem _ _ _).1 hy' with rfl | hy'
        · rw [if_pos rfl, if_neg (ne_of_hasJ hj hx')]
          exact fun g hg e => hu g e (M.blk x hx' g hg).1
        · rw [if_neg (ne_of_hasJ hj hx'), if_neg (ne_of_hasJ hj hy')]
          exact M.apart x hx' y hy' hne
set_option maxHeartbeats 4000000 in
theorem rhold_any {w : World} {base r : Nat} {S : Nat → Prop} {room width : Nat} {L : List (Int × List Int)} {j : Int} {u : Value} {xs : List Int} (j1 : -9223372036854775808 ≤ j) (j2 : j ≤ 9223372036854775807) (R : RingAt w base r S room width L) (hl : L.length < room) (hj : hasJ L j = false) (hx : xs.length = width)
    (ho : OwnI .i64 2 w base u xs) (hu : ∀ g, u.ownBlock = some g → ¬ S g) :
    Calls Try.prog 27 #[.pointer (some ⟨r, 0, none⟩), .int .i64 j, u] w fun e w' => e = .returned (.tuple #[]) ∧ ∃ S', RingAt w' base r S' room width (insR (j, xs) L) ∧ Off S w w' ∧ ∀ k, S' k → S k ∨ u.ownBlock = some k ∨ w.heap.size ≤ k := by
  obtain ⟨m, v, h, D, V, M⟩ := R.mem
  have c2 := M.c2
  have HM := hide M.map
  have HK := hide (key64 j1 j2)
  have hn : Maps.size D < maxLen := by
    have := M.size
    have := R.ok.r2
    unfold maxLen
    omega
  have HN := hide hn
  have hhl : h.length = L.length := by rw [M.perm.length_eq, List.length_map]
  have NEXT := hide (fun (w1 : World) (g1 : w.grownBy w1 (some m)) => hpush_any (r := r) (base := base) (v := v) (h := h) (x := j) w1 (cg g1 (fun e => M.mr (Option.some.inj e).symm) M.c3) (((Off.of_grown g1).frozen (o := 3) (fun e => M.mr e.symm) (R.hi r R.sr)).trans (R.fr 3))
    ((Off.of_grown g1).own M.nums (fun g hg => (M.vb g hg).2.2)) (fun g hg => (M.vb g hg).2.1) (by have := g1.size; have := R.lo r R.sr; have := R.hi r R.sr; omega) (by have := R.ok.r2; omega) M.heap)
  have HEND := hide (fun (w1 w2 : World) (n b cap : Nat) (h' : List Int) => hold_mem (w1 := w1) (w2 := w2) (n := n) (b := b) (cap := cap) (h' := h') j1 j2 R M hl hj hx ho hu)
  have HVB := hide M.vb
  clear M R j1 j2 hl hj hx ho hu hn hhl
  go_enter Try.func27, Try.ntmps27
  go_wp2_with (first
    | (at_mapUpdate; refine wpList_mapUpdate_in _ rfl _ _ _ 53 rfl 2 26 keyed64 Try.underlying53 heldR m (Maps.size D) D rfl HM.out HN.out _ _ _ rfl rfl HK.out (.held u) [] rfl ?_; intro w1 m1 t1; have G1 := hide t1.grown; have HM1 := hide m1; clear m1 t1)
    | (go_at_call 30; (with_reducible refine (NEXT.out _ G1.out).mono ?_); rintro e w2 ⟨rfl, b, cap, h', N2, q1, q2, q3, q4, q5, q6, q7⟩; have HF := hide (HEND.out _ _ _ _ _ _ HM1.out G1.out N2 q1 q2 q3 q4 q5 q6 q7); have HQ := hide q2; clear N2 q1 q2 q3 q4 q5 q6 q7))
  go_end0
  have s1 := G1.out.size
  refine ⟨rfl, _, HF.out.1, HF.out.2, fun k hk => ?_⟩
  rcases hk with hk | hk | hk
  · exact Or.inl hk
  · exact Or.inr (Or.inl hk)
  · subst hk
    rcases HQ.out with q | q
    · exact Or.inl (HVB.out _ q).1
    · exact Or.inr (Or.inr (Nat.le_trans s1 q))
end Go.Proofs.Ytkkoemcciemloaa
