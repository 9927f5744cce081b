/- The heap's own Push and Pop: a number behind the others, and the last one away. -/
import Derived.Test.YtkkoemcciemloaaS16D
import Derived.Deep.RegionLaw
namespace Go.Proofs.Ytkkoemcciemloaa
open Go.RowKit


/-- A record of which the cell 3 alone may be another. -/
def RecK (w w' : World) (r : Nat) : Prop := (∀ o u, o ≠ 3 → w.cell? ⟨r, o, none⟩ = some u → w'.cell? ⟨r, o, none⟩ = some u) ∧ (∀ o, w.frozen? ⟨r, o, none⟩ = false → w'.frozen? ⟨r, o, none⟩ = false)
theorem RecK.fr {w w' : World} {r o : Nat} (h : RecK w w' r) (hf : w.frozen? ⟨r, o, none⟩ = false) : w'.frozen? ⟨r, o, none⟩ = false := h.2 o hf
theorem RecK.cl {w w' : World} {r o : Nat} {u : Value} (h : RecK w w' r) (ho : o ≠ 3) (hc : w.cell? ⟨r, o, none⟩ = some u) : w'.cell? ⟨r, o, none⟩ = some u := h.1 o u ho hc
theorem RecK.refl (w : World) (r : Nat) : RecK w w r := ⟨fun _ _ _ h => h, fun _ h => h⟩
theorem RecK.trans {a b c : World} {r : Nat} (h : RecK a b r) (k : RecK b c r) : RecK a c r := ⟨fun o u ho hu => k.1 o u ho (h.1 o u ho hu), fun o ho => k.2 o (h.2 o ho)⟩
theorem RecK.of_off {S : Nat → Prop} {w w' : World} {r : Nat} (h : Off S w w') (hn : ¬ S r) (hl : r < w.heap.size) : RecK w w' r := ⟨fun _ _ _ hu => h.cell hn hu, fun o hf => (h.frozen (o := o) hn hl).trans hf⟩
theorem RecK.grown {w w' : World} {r b : Nat} (h : w.grownBy w' (some b)) (hn : r ≠ b) (hl : r < w.heap.size) : RecK w w' r := RecK.of_off (Off.of_grown h) hn hl
theorem RecK.set (w : World) (r : Nat) (u : Value) : RecK w (w.setCell ⟨r, 3, none⟩ u) r :=
  ⟨fun o _ ho hu => (World.cell?_setCell_other _ _ _ _ (by intro e; simp only [Addr.mk.injEq, and_true] at e; omega)).trans hu, fun o hf => (World.frozen?_setCell _ _ _ _).trans hf⟩
theorem OwnI.cut {k : IntKind} {T : TypeId} {w : World} {base g n cap : Nat} {xs : List Int} (h : OwnI k T w base (.slice (some ⟨g, 0, none⟩) (n + 1) cap) xs) (hn : xs.length = n + 1) : OwnI k T w base (.slice (some ⟨g, 0, none⟩) n cap) (xs.take n) := by
  have hl : (xs.take n).length = n := by rw [List.length_take]; omega
  unfold OwnI at h ⊢
  rw [hn] at h
  rw [hl]
  refine ⟨by rw [List.length_map, hl, Nat.mul_one], ?_⟩
  rcases h.2 with ⟨hv, _⟩ | ⟨g', cap', cur, hv, hB, hg, hnc, hcm, hcs, ht⟩
  · cases hv
  · simp only [Value.slice.injEq, Option.some.injEq, Addr.mk.injEq, and_true, true_and] at hv
    obtain ⟨rfl, rfl⟩ := hv
    refine .inr ⟨g, cap, cur, rfl, hB, hg, by omega, hcm, hcs, ?_⟩
    rw [Nat.mul_one] at ht ⊢
    rw [List.map_take, ← ht, List.take_take, Nat.min_eq_left (by omega)]
theorem assert64 (x : Int) (w : World) : (Instr.typeAssert (.iface 2 (.int .i64 x)) 20 2 false).run Try.prog w = .ok (.int .i64 x) w := by
  have hu := run_underlying (P := Try.prog) (w := w) Try.underlying2
  simp [Instr.typeAssert, hu, Result.andThen]
set_option maxHeartbeats 4000000 in
/-- The heap's Push: behind the others. -/
theorem m_push {r base : Nat} {v : Value} {h : List Int} {x : Int} (w : World) (hc : w.cell? ⟨r, 3, none⟩ = some v) (hf : w.frozen? ⟨r, 3, none⟩ = false) (ho : OwnI .i64 2 w base v h) (hne : ∀ g, v.ownBlock = some g → g ≠ r) (hb : base ≤ w.heap.size) (hl : h.length ≤ 1048575) :
    Calls Try.prog 54 #[.pointer (some ⟨r, 3, none⟩), .iface 2 (.int .i64 x)] w fun e w' => e = .returned (.tuple #[]) ∧ ∃ b cap, NumAt w' r base b (h.length + 1) cap (h ++ [x]) ∧ r ≠ b ∧ (v.ownBlock = some b ∨ w.heap.size ≤ b) ∧ b < w'.heap.size ∧ RecK w w' r ∧ Off (fun k => k = r ∨ v.ownBlock = some k) w w' := by
  obtain ⟨i0, hi0, hz0, hz1, hz2⟩ := info_parts infoI64Q
  have hr := cell_ltL hc
  have HO := hide ho
  have HB := hide hb
  have HL := hide hl
  have HNE := hide hne
  have HF := hide hf
  have HC := hide hc
  have HR := hide hr
  have HUL := hide (Try.underlying54)
  have hta := assert64 x
  obtain ⟨ad, cap0, rfl, _⟩ := ho.form
  have HK := hide (fun (o : Obj) (w9 : World) (hg : ((w.alloc o).drew).grownBy w9 (Value.slice ad h.length cap0).ownBlock) => (⟨cg hg (fun e => hne r e.symm rfl) (ca hr hc), fg hg (fun e => hne r e.symm rfl) (ca hr hc) (fa hr hf)⟩ : w9.cell? ⟨r, 3, none⟩ = some (.slice ad h.length cap0) ∧ w9.frozen? ⟨r, 3, none⟩ = false))
  have hca := fun (o : Obj) => ca (ob := o) hr hc
  clear ho hb hl hne hr
  go_enter Try.func54, Try.ntmps54
  go_wp2_with fail
  go_region_law (refine step_append_lies _ (by rfl) _ _ _ (by rfl) base 2 i0 (.int .i64 0) 1 8 HUL.out hi0 hz0 hz1 hz2 rfl (by decide) (.slice ad h.length cap0) h.length (h.map (Value.int .i64)) (by rfl) (HO.out.alloc _) _ _ _ [.int .i64 x] (by rfl) rfl (new_one _ _ _) (one_int _ _) (by decide) (by have := HL.out; unfold maxLen; omega) (by have := HL.out; omega) (by have := HB.out; simp; omega) _ (by rfl) ?_; intro g9 cap9 w9 hown9 hgrow9 hat9 hlt9; obtain ⟨c9, f9⟩ := HK.out _ _ hgrow9)
  all_goals
    go_wp2
    go_end0
    have hrg : r ≠ g9 := by
      rcases hat9 with e | e
      · exact fun q => HNE.out g9 e q.symm
      · have := HR.out
        have e2 : g9 = w.heap.size + 1 := e.trans (by simp)
        omega
    have hgb : (Value.slice ad h.length cap0).ownBlock = some g9 ∨ w.heap.size ≤ g9 := by
      rcases hat9 with e | e
      · exact Or.inl e
      · have e2 : g9 = w.heap.size + 1 := e.trans (by simp)
        exact Or.inr (by omega)
    have hOff : Off (fun k => k = r ∨ (Value.slice ad h.length cap0).ownBlock = some k) w w9 := by
      refine (((Off.refl _ w).drewN 1).alloc _).trans (Off.of_grownO hgrow9) (fun k hk e => Or.inr e.symm)
    have hRec : RecK w w9 r := by
      refine RecK.trans (b := (w.drewN 1).alloc _) (RecK.of_off (S := fun _ => False) (((Off.refl _ w).drewN 1).alloc _) (fun e => e) HR.out) (RecK.of_off (Off.of_grownO hgrow9) (fun e => HNE.out r e.symm rfl) ?_)
      have := HR.out
      simp
      omega
    refine ⟨rfl, g9, cap9, ⟨?_, ?_, by simp⟩, hrg, hgb, by simpa [World.setCell] using hlt9, hRec.trans (RecK.set _ _ _), hOff.set (fun _ => Or.inl rfl) _⟩
    · rw [World.cell?_setCell_same' _ _ _ (by rw [c9]; rfl)]
    · have := (OwnI.append hown9).other r 3 (u := .slice (some ⟨g9, 0, none⟩) (h.length + 1) cap9) hrg
      exact this
end Go.Proofs.Ytkkoemcciemloaa
