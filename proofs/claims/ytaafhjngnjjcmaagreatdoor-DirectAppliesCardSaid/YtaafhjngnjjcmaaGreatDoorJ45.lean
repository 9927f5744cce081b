/- Parts, joined. -/
import Derived.Test.YtaafhjngnjjcmaaGreatDoorJ38
import Derived.Test.YtaafhjngnjjcmaaGreatDoorJ41
import Derived.Test.YtaafhjngnjjcmaaGreatDoorJ42
import Derived.Test.YtaafhjngnjjcmaaGreatDoorJ29
import Derived.Test.YtaafhjngnjjcmaaGreatDoorJ33
import Derived.Test.YtaafhjngnjjcmaaGreatDoorJ22
import Derived.Test.YtaafhjngnjjcmaaGreatDoorJ43
import Derived.Test.YtaafhjngnjjcmaaGreatDoorJ36
import Derived.Test.YtaafhjngnjjcmaaGreatDoorJ15
import Derived.Test.YtaafhjngnjjcmaaGreatDoorRows
import Derived.Test.YtaafhjngnjjcmaaGreatDoorJ17
import Derived.Test.YtaafhjngnjjcmaaGreatDoorJ25
import Derived.Test.YtaafhjngnjjcmaaGreatDoorJ26
import Derived.Test.YtaafhjngnjjcmaaGreatDoorJ32
import Derived.LaidEqlPtr
import Derived.BigQuiet
import Derived.ProofKit
import Derived.LaidMore
import Derived.OpenShut
import Derived.Deep.LoopGhost
/- What comes out: of no stages what comes out is a copy, in memory of its own; pointers that differ. -/
namespace Go.Proofs.YtaafhjngnjjcmaaGreatDoor
open Go.RowKit

theorem cells_of {w : World} {a : Nat} {u : Value} (h : w.cell? ⟨a, 0, none⟩ = some u) : ∃ c e f, w.heap[a]? = some (.cells c e f) ∧ c.size ≠ 0 := by
  unfold World.cell? at h
  simp only at h
  split at h
  · rename_i c e f hc
    refine ⟨c, e, f, hc, ?_⟩
    intro e0
    obtain rfl := Array.size_eq_zero_iff.1 e0
    simp at h
  · cases h
theorem ptr_other {w : World} {a b : Nat} {u v : Value} (h : a ≠ b) (ha : w.cell? ⟨a, 0, none⟩ = some u) (hb : w.cell? ⟨b, 0, none⟩ = some v) (hf : ∀ j, w.frozen? ⟨a, j, none⟩ = false) :
    (sameAddr ⟨a, 0, none⟩ ⟨b, 0, none⟩).run Tryz.prog w = .ok false w := by
  obtain ⟨c, e, f, hc, hn⟩ := cells_of ha
  obtain ⟨c', e', f', hc', hn'⟩ := cells_of hb
  have f0 := hf 0
  have f1 := hf c.size
  simp [sameAddr, h, f0, f1, hc, hc', noView, viewAt, World.shape?, mayBeOne, stringish, hn']
theorem ptr_neq {w : World} {a b : Nat} {u v : Value} (h : a ≠ b) (ha : w.cell? ⟨a, 0, none⟩ = some u) (hb : w.cell? ⟨b, 0, none⟩ = some v) (hf : ∀ j, w.frozen? ⟨a, j, none⟩ = false) :
    (binOp .neq 28 (.pointer (some ⟨a, 0, none⟩)) (.pointer (some ⟨b, 0, none⟩))).run Tryz.prog w = .ok (.bool true) w := by
  have hp : Tryz.prog.underlying 28 = some (.pointer 84) := by kernel_rfl
  have e5 : (Tryz.prog.info? 84).map (fun i => i.size) = some 5 := by kernel_rfl
  obtain ⟨i, hi, hz5⟩ := Option.map_eq_some_iff.1 e5
  have hz : i.size ≠ 0 := by omega
  have h : ∀ d : Nat, (Op.equalIn (d + 1) 28 (.pointer (some ⟨a, 0, none⟩)) (.pointer (some ⟨b, 0, none⟩))).run Tryz.prog w = .ok false w := fun d => by
    simp [Op.equalIn, run_underlying hp, sizeOf, typeInfo, hi, hz, ptr_other h ha hb hf]
  simp only [binOp]
  simp [Op.equal, Op.maxDepth, h 9999]
set_option maxHeartbeats 2000000 in
set_option maxRecDepth 100000 in
theorem img_copy_own {w : World} {g h : Nat} {I : Im} (H : ImgAt w g h I) : Calls Tryz.prog 43 #[.pointer (some ⟨g, 0, none⟩)] w fun e w' => ∃ g' h', e = .returned (.pointer (some ⟨g', 0, none⟩)) ∧ w.heap.size ≤ g' ∧ w.heap.size ≤ h' ∧ ImgAt w' g' h' I ∧ (∀ j, w'.frozen? ⟨g', j, none⟩ = false) ∧ Below w.heap.size w w' := by
  have hk := H.ok
  obtain ⟨l0, l1⟩ := imOk_len hk
  obtain ⟨cap, c0, c1, c2, c3, c4, hr, hz, hcap, -⟩ := H
  obtain ⟨n, hn⟩ : ∃ n, I.il.length = n := ⟨_, rfl⟩
  have HN := hide hn
  have CC := fun w hr => clone16 I.il n hn h 0 cap (by omega) w hr
  have HR := hide hr
  have HOK := hide hk
  rw [hn] at l0 l1 c4 hcap
  obtain ⟨a, b, c, t, xs⟩ := I
  replace c0 : w.cell? ⟨g, 0, none⟩ = some (.int .i64 a) := c0
  replace c1 : w.cell? ⟨g, 1, none⟩ = some (.int .i64 b) := c1
  replace c2 : w.cell? ⟨g, 2, none⟩ = some (.int .i64 c) := c2
  replace c3 : w.cell? ⟨g, 3, none⟩ = some (.int .i64 t) := c3
  replace CC : ∀ w, RowAt .u16 w (some ⟨h, 0, none⟩) xs → Calls Tryz.prog 44 #[.slice (some ⟨h, 0, none⟩) n cap] w fun e w' => ∃ v, e = .returned v ∧ OwnI .u16 22 w' w.heap.size v xs ∧ Below w.heap.size w w' := CC
  replace HR : Hid (RowAt .u16 w (some ⟨h, 0, none⟩) xs) := HR
  replace HN : Hid (xs.length = n) := HN
  have gl := cell_ltL c0
  clear hr hz hk hn hcap
  go_enter Tryz.func43, Tryz.ntmps43
  go_upto_region 1 with fail
  go_region_held3 (fun w' => w'.cell? ⟨g, 0, none⟩ = some (.int .i64 a) ∧ w'.cell? ⟨g, 1, none⟩ = some (.int .i64 b) ∧ w'.cell? ⟨g, 2, none⟩ = some (.int .i64 c) ∧ w'.cell? ⟨g, 3, none⟩ = some (.int .i64 t) ∧ w'.cell? ⟨g, 4, none⟩ = some (.slice (some ⟨h, 0, none⟩) n cap)) (go_keep)
    (first | (go_at_call 44; (with_reducible refine (CC _ (HR.out.below (by repeat (first | exact Below.refl _ _ | (with_reducible refine bdN ?_ _) | (with_reducible refine bd ?_))))).mono ?_); rintro e w2 ⟨v, rfl, own, b2⟩; obtain ⟨g2, cp, rfl, hg, hlt, hr, hcp, hz⟩ := own_row own HN.out l0; clear own; have d0 := cb b2 gl c0; have d1 := cb b2 gl c1; have d2 := cb b2 gl c2; have d3 := cb b2 gl c3; have d4 := cb b2 gl c4))
  all_goals go_wp2
  all_goals
    have hi := ImgAt.new (T := 84) hr hz (by rw [HN.out]; exact hcp) HOK.out
    have s2 := b2.size
    replace hi : ImgAt (w2.alloc (.cells #[.int .i64 a, .int .i64 b, .int .i64 c, .int .i64 t, .slice (some ⟨g2, 0, none⟩) xs.length cp] 84)) w2.heap.size g2 ⟨a, b, c, t, xs⟩ := hi
    rw [HN.out] at hi
    exact bodyPost_ret (v := .pointer (some ⟨w2.heap.size, 0, none⟩)) (by simp [results, Tryz.results43, go_sem]) rfl ⟨_, _, rfl, s2, hg, hi, (fun j => by simp), ba (bt (bd (Below.refl _ _)) b2) _⟩
set_option maxHeartbeats 2000000 in
set_option maxRecDepth 100000 in
theorem dir_compose0 {w : World} {g h : Nat} {I : Im} {ad : Option Addr} {cap : Nat} (H : ImgAt w g h I) :
    Calls Tryz.prog 12 #[.pointer (some ⟨g, 0, none⟩), .slice ad 0 cap] w fun e w' => (∃ g' h', e = .returned (.tuple #[.pointer (some ⟨g', 0, none⟩), .int .i64 0]) ∧ w.heap.size ≤ g' ∧ ImgAt w' g' h' I ∧ ∀ j, w'.frozen? ⟨g', j, none⟩ = false) ∧ Below w.heap.size w w' := by
  have CC := img_copy_own H
  clear H
  go_enter Tryz.func12, Tryz.ntmps12
  go_wp2_with (go_at_call 43; (with_reducible refine CC.mono ?_); rintro e w1 ⟨g1, h1, rfl, gB, _, hq, hz, b1⟩; have HQ := hide hq; have HZ := hide hz; have HB := hide b1; clear hq b1 hz)
  exact bodyPost_ret (v := .tuple #[.pointer (some ⟨g1, 0, none⟩), .int .i64 0]) (by simp [results, Tryz.results12, go_sem]) rfl ⟨⟨g1, h1, rfl, gB, HQ.out, HZ.out⟩, HB.out⟩
end Go.Proofs.YtaafhjngnjjcmaaGreatDoor

/- What comes out: the law of the greatest sample. -/
namespace Go.Proofs.YtaafhjngnjjcmaaGreatDoor
open Go.RowKit

theorem img_cell {w : World} {g h : Nat} {I : Im} (H : ImgAt w g h I) : w.cell? ⟨g, 0, none⟩ = some (.int .i64 I.iw) := by
  obtain ⟨_, c, _⟩ := H
  exact c
theorem calmW {P : Program} {f : FuncId} {args : Array Value} {u : Value} {w : World} {n : Nat} (h : Calls P f args (w.drewN n) fun e w' => e = .returned u ∧ w.drewN n = w') :
    Calls P f args (w.drewN n) fun e w'' => e = .returned u ∧ ∃ m, w'' = w.drewN m := h.mono fun _ _ q => ⟨q.1, n, q.2.symm⟩
set_option maxHeartbeats 4000000 in
set_option maxRecDepth 100000 in
theorem law_DirectNever (q : Pic) (pd : Option Addr) (pc : Nat) (L : List Opr) (ad : Option Addr) (cap : Nat) (w : World) (hk : OpK w) (hp : PicAt w q pd pc ∧ PicFits q) (hr : OpsAt w ad L ∧ OpsFit L) (h1 : L.length ≤ maxLen) (hz : ad = none → cap = 0) :
    Calls Tryz.prog 3 #[picV q pd pc, .slice ad L.length cap] w fun e w' => e = .returned (.bool true) ∧ Below w.heap.size w w' := by
  obtain ⟨n, hn⟩ : ∃ n, L.length = n := ⟨_, rfl⟩
  have K0 := hide (fun w' (b : Below w.heap.size w w') => opk_below _ _ hk b)
  have CL := fun w' (b : Below w.heap.size w w') => lives15_any w' (K0.out w' b)
  have CD := fun w' (b : Below w.heap.size w w') => pdraw_any q pd pc w' (hp.1.below b) hp.2
  have CN := hide (fun w' (b : Below w.heap.size w w') g h I (H : ImgAt w' g h I) hy => stages_no hn (hn ▸ h1) hz (K0.out w' b) (hr.1.below b) hr.2 H hy)
  have CY := hide (fun w' (b : Below w.heap.size w w') g h I (H : ImgAt w' g h I) hy => stages_yes hn (hn ▸ h1) hz (K0.out w' b) (hr.1.below b) hr.2 H hy)
  have GD := hide (fun I (hI : ImOk I) i0 i1 hy => stages_good (L := L) hn hI i0 i1 hy)
  rw [hn] at h1 ⊢
  have HN := hide hn
  have q1 : ∀ (a : Addr) (w : World), (binOp .neq 28 (.pointer (some a)) (.pointer none)).run Tryz.prog w = .ok (.bool true) w := fun a w => by kernel_rfl
  have q2 : ∀ (a : Addr) (w : World), (binOp .eql 28 (.pointer (some a)) (.pointer none)).run Tryz.prog w = .ok (.bool false) w := fun a w => by kernel_rfl
  obtain ⟨pw, ph, pcc, pm, pl⟩ := q
  have P0 := hide (S5.new w 25 (.int .u16 pw) (.int .u16 ph) (.int .u16 pcc) (.int .u16 pm) (.slice pd pl.length pc))
  have B0 := hide (below1 w (.cells #[.int .u16 pw, .int .u16 ph, .int .u16 pcc, .int .u16 pm, .slice pd pl.length pc] 25))
  unfold picV at CD ⊢
  clear hk hp hr hz hn
  go_enter Tryz.func3, Tryz.ntmps3
  go_upto_region 4 with (first
    | (go_at_call 9; (with_reducible refine (CL _ B0.out).mono ?_); rintro e w1 ⟨rfl, b1⟩; have B1 := hide (bt B0.out b1); obtain ⟨⟨p0, _⟩, ⟨p1, _⟩, ⟨p2, _⟩, ⟨p3, _⟩, ⟨p4, _⟩⟩ := P0.out.below b1)
    | (go_at_call 10; (with_reducible refine (CD _ B1.out).mono ?_); rintro e w2 ⟨v, I, rfl, ⟨g, h, rfl, gB, hB, hi⟩, i0, i1, b2⟩; have HI := hide hi; have B2 := hide (bt B1.out b2); clear hi))
  by_cases hy : allCode L I.iw I.ih I.ic = 0 ∧ n ≤ 4 ∧ bigB 12 L n = false
  · obtain ⟨sm, cz⟩ := GD.out I HI.out.ok i0 i1 hy
    have SM := hide sm
    have CZ := hide cz
    have CS := CY.out w2 B2.out g h I HI.out hy
    obtain ⟨_, h4, _⟩ := hy
    have gw2 : g < w2.heap.size := cell_ltL (by obtain ⟨_, c, _⟩ := HI.out; exact c)
    obtain ⟨F, hFF⟩ : ∃ F, stgAt L I.iw I.ih = F := ⟨_, rfl⟩
    rw [hFF] at CS SM CZ
    have CP : ∀ w' ad cap, Below w.heap.size w w' → ImgAt w' g h I → StgsAt w' ad n F → Calls Tryz.prog 12 #[.pointer (some ⟨g, 0, none⟩), .slice ad n cap] w' fun e w'' => (∃ g' h', e = .returned (.tuple #[.pointer (some ⟨g', 0, none⟩), .int .i64 0]) ∧ w'.heap.size ≤ g' ∧ ImgAt w'' g' h' (composeF I (stgL F n)) ∧ (n = 0 → ∀ j, w''.frozen? ⟨g', j, none⟩ = false)) ∧ Below w'.heap.size w' w'' := fun w' ad cap b H hs => by
      by_cases hn0 : n = 0
      · subst hn0
        exact (dir_compose0 H).mono fun e w'' ⟨⟨g', h', he, a, b, c⟩, hB⟩ => ⟨⟨g', h', he, a, b, fun _ => c⟩, hB⟩
      · exact (dir_compose (K0.out w' b) H hs h1 SM.out).mono fun e w'' ⟨hA, hB⟩ => by
          rw [CZ.out n (Nat.le_refl _)] at hA
          rcases hA with ⟨_, v, he, g', h', hv, a, _, c⟩ | ⟨h0, _⟩
          · exact ⟨⟨g', h', by rw [he, hv], a, c, fun e => absurd e hn0⟩, hB⟩
          · exact absurd rfl h0
    obtain ⟨jok, _, jt⟩ := compose_ok HI.out.ok _ (CZ.out n (Nat.le_refl _))
    have J0 := hide (show n = 0 → composeF I (stgL F n) = I from fun e => by subst e; rfl)
    have CA := hide (fun (n0 : 0 < n) => show ∀ w' x y, Below w.heap.size w w' → ImgAt w' g h I → Tab w' x (F 0).fx (F 0).lx → Tab w' y (F 0).fy (F 0).ly → Calls Tryz.prog 16 #[.pointer (some ⟨g, 0, none⟩), .agg #[x, y, .int .i64 (F 0).sb]] w' fun e w'' => (∃ v, e = .returned (.tuple #[v, .int .i64 0]) ∧ ImgNew w'.heap.size w'' v (applyF I (F 0))) ∧ Below w'.heap.size w' w'' from fun w' x y b H tx ty =>
      (dir_apply (K0.out w' b) H tx ty (SM.out 0 n0)).mono fun e w'' ⟨hA, hB⟩ => by
        have c1 := CZ.out 1 n0
        rw [stgL_snoc] at c1
        have c2 : stepC I (F 0) = 0 := by rw [comp_snoc I _ _ rfl] at c1; exact c1
        rw [c2] at hA
        rcases hA with ⟨_, v, he, hi⟩ | ⟨h0, _⟩
        · exact ⟨⟨v, he, hi⟩, hB⟩
        · exact absurd rfl h0)
    obtain ⟨J, hJ⟩ : ∃ J, composeF I (stgL F n) = J := ⟨_, rfl⟩
    simp only [hJ] at CP
    rw [hJ] at jok jt J0
    have JOK := hide jok
    have CMI := fun w' (H : ImgAt w' g h I) => img_most H
    have CMJ := fun w' g4 h4 (H : ImgAt w' g4 h4 J) => img_most H
    rw [jt] at CMJ
    have JM := hide (show ∀ k, k < J.il.length → 0 ≤ J.il.getD k 0 ∧ J.il.getD k 0 ≤ I.it from fun k hk => by
      have := jok.2.2.2.2.2.2.2.2.2 (J.il[k]) (List.getElem_mem hk)
      rw [List.getD_eq_getElem?_getD, List.getElem?_eq_getElem hk]
      rw [jt] at this
      exact this)
    have ITI := hide (show I.it ≤ 65535 from HI.out.ok.2.2.2.2.2.2.1)
    obtain ⟨N, hN⟩ : ∃ N, J.il.length = N := ⟨_, rfl⟩
    have NL := imOk_len jok
    rw [hN] at NL JM
    have HNL := hide NL
    have HNN := hide hN
    clear hFF hJ SM CZ GD CN CY jok jt
    go_upto_region 11 with (first
      | (go_at_call 11; (with_reducible refine CS.mono ?_); rintro e w3 ⟨⟨ad3, cap3, ad4, cap4, rfl, hs3, hq3⟩, b3⟩; have l3 := b3.size; have B3 := hide (bt B2.out b3); have HI3 := hide (HI.out.below b3); have HS3 := hide hs3; clear hs3 hq3)
      | (go_at_call 12; (with_reducible refine (CP _ _ _ B3.out HI3.out HS3.out).mono ?_); rintro e w4 ⟨⟨g4, h4', rfl, g4B, hj, hz4⟩, b4⟩; have HZ4 := hide hz4; have B4 := hide (bt B3.out b4); have HJ4 := hide hj; have HI4 := hide (HI3.out.below b4); have HS4 := hide (HS3.out.below b4); clear hj hz4)
      | (go_at_call 13; (with_reducible refine (CMJ _ _ _ HJ4.out).mono ?_); rintro e w9 ⟨rfl, rfl⟩)
      | (go_at_call 13; (with_reducible refine (CMI _ HI4.out).mono ?_); rintro e w9 ⟨rfl, rfl⟩)
      | (go_at_call 14; (with_reducible refine (img_samples HJ4.out).mono ?_); rintro e w5 ⟨v5, rfl, own5, bb5⟩; have B5 := hide (bt B4.out bb5); have HI5 := hide (HI4.out.below bb5); have HJ5 := hide (HJ4.out.below bb5); have HZ5 := hide (fun (e : n = 0) (j : Nat) => fb bb5 (cell_ltL (img_cell HJ4.out)) (HZ4.out e j)); have HS5 := hide (HS4.out.below bb5); obtain ⟨b5, cp5, rfl, _, _, hr5, _, _⟩ := own_row own5 HNN.out HNL.out.1; have HR5 := hide hr5; clear hr5 own5))
    go_loopg [52] N (fun r i wr => ∃ k : Nat, k + r = N ∧ i = .int .i64 (k : Int) ∧ wr = w5)
    case atStart => exact ⟨0, by omega, rfl, rfl⟩
    case round =>
      obtain ⟨k, hkk, rfl, rfl⟩ := hrel
      have HKK := hide hkk
      clear hkk
      by_cases hlt : k < N
      · have c := HR5.out.at (show k < J.il.length by rw [HNN.out]; exact hlt)
        rw [Nat.zero_add] at c
        obtain ⟨x0, x1⟩ := JM.out k hlt
        obtain ⟨X, hX⟩ : ∃ X, J.il.getD k 0 = X := ⟨_, rfl⟩
        rw [hX] at c x0 x1
        have ew : IntKind.i64.wrap X = X := by have := ITI.out; rw [IntKind.wrap_i64]; omega
        have x2 : ¬ I.it < X := by omega
        clear hX
        go_wp2_with (go_at_call 13; (with_reducible refine (CMI _ HI5.out).mono ?_); rintro e w9 ⟨rfl, rfl⟩)
        go_roundg (gk - 1)
        case measure => have := HKK.out; omega
        case rel => exact ⟨k + 1, by have := HKK.out; omega, by go_num, rfl⟩
      · obtain rfl : N = k := by have := HKK.out; omega
        by_cases hn0 : n = 0
        · subst hn0
          obtain rfl := J0.out rfl
          have ne : g4 ≠ g := by omega
          have CSM := img_same HJ5.out HI5.out
          rw [imSame_self] at CSM
          go_wp2_with (go_at_call 15; (with_reducible refine CSM.mono ?_); rintro e w6 ⟨rfl, d6⟩; have q3 := ptr_neq ne (img_cell (HJ5.out.below d6.below)) (img_cell (HI5.out.below d6.below)) (fun j => fb d6.below (cell_ltL (img_cell HJ5.out)) (HZ5.out rfl j)))
          go_ret
          exact ⟨rfl, bt B5.out d6.below⟩
        · have n0 : 0 < n := by omega
          have n0' : (0 : Int) < (n : Int) := by omega
          obtain ⟨sb, off, rfl, x, y, s0, s1, s2, tx, ty⟩ := HS5.out.get n0
          have CA2 := CA.out n0
          rw [Nat.zero_mul, Nat.add_zero] at s0
          rw [Nat.zero_mul, Nat.add_zero] at s1 s2
          have HTX := hide tx
          have HTY := hide ty
          have TI := tx.ok.2.2.1
          have TJ := ty.ok.2.2.1
          obtain ⟨ax, rfl⟩ := tx.ptr
          obtain ⟨ay, rfl⟩ := ty.ptr
          clear tx ty
          go_upto_region 19 with (go_at_call 16; (with_reducible refine (CA2 _ _ _ B5.out HI5.out HTX.out HTY.out).mono ?_); rintro e w6 ⟨⟨v6, rfl, ⟨g6, h6, rfl, g6B, h6B, ha⟩⟩, bb6⟩; have B6 := hide (bt B5.out bb6); have HA6 := hide ha; have HX6 := hide (HTX.out.below bb6); have HY6 := hide (HTY.out.below bb6); have t0 := cb bb6 (cell_ltL s0) s0; have t1 := cb bb6 (cell_ltL s1) s1; clear ha)
          have CW := fun w' (H : ImgAt w' g6 h6 (applyF I (F 0))) => img_width H
          have CH := fun w' (H : ImgAt w' g6 h6 (applyF I (F 0))) => img_height H
          have e1 : (applyF I (F 0)).iw = ((F 0).lx.length : Int) := rfl
          have e2 : (applyF I (F 0)).ih = ((F 0).ly.length : Int) := rfl
          rw [e1] at CW
          rw [e2] at CH
          have CX := fun w' (H : Tab w' (.pointer (some ax)) (F 0).fx (F 0).lx) => tab_to_d H
          have CY := fun w' (H : Tab w' (.pointer (some ay)) (F 0).fy (F 0).ly) => tab_to_d H
          obtain ⟨lx, hlx⟩ : ∃ lx, (F 0).lx.length = lx := ⟨_, rfl⟩
          obtain ⟨ly, hly⟩ : ∃ ly, (F 0).ly.length = ly := ⟨_, rfl⟩
          rw [hlx] at CW CX
          rw [hly] at CH CY
          go_quiet (first
            | (go_at_call 17; (with_reducible exact calmW (CW _ (HA6.out.below (bdN (Below.refl _ _) _)))))
            | (go_at_call 19; (with_reducible exact calmW (CH _ (HA6.out.below (bdN (Below.refl _ _) _)))))
            | (go_at_call 18; (with_reducible exact calmD (CX _ (HX6.out.below (bdN (Below.refl _ _) _)))))
            | (go_at_call 18; (with_reducible exact calmD (CY _ (HY6.out.below (bdN (Below.refl _ _) _))))))
          go_wp2
          go_ret
          exact ⟨rfl, bdN B6.out _⟩
  · have CS := CN.out w2 B2.out g h I HI.out hy
    clear GD CN CY hy
    go_wp2_with (go_at_call 11; (with_reducible refine CS.mono ?_); rintro e w3 ⟨⟨v3, v4, rfl⟩, b3⟩; have B3 := hide (bt B2.out b3))
    go_ret
    exact ⟨rfl, B3.out⟩
end Go.Proofs.YtaafhjngnjjcmaaGreatDoor

/- What comes out: the law of rounding. -/
namespace Go.Proofs.YtaafhjngnjjcmaaGreatDoor
open Go.RowKit

theorem round_most (s t : Int) : 0 ≤ roundF s t ∧ roundF s t ≤ 65535 := by
  unfold roundF mostC
  generalize shiftF s 28 = V
  repeat' split
  all_goals omega
set_option maxHeartbeats 2000000 in
set_option maxRecDepth 100000 in
theorem law_DirectRounds (s t : Int) (w : World) (hk : OpK w) (hs : -9223372036854775808 ≤ s ∧ s ≤ 9223372036854775807) (_ : -9223372036854775808 ≤ t ∧ t ≤ 9223372036854775807) :
    Calls Tryz.prog 5 #[.int .i64 s, .int .i64 t] w fun e w' => e = .returned (.bool true) ∧ Below w.heap.size w w' := by
  have CL := lives15_any w hk
  have CP := fun w => dir_round s t hs.1 hs.2 w
  have CD := fun w => dround15_any s t hs.1 hs.2 w
  obtain ⟨r0, r1⟩ := round_most s t
  have RL : decide (roundF s t ≤ max 0 t) = true := decide_eq_true (roundF_law s t)
  generalize roundF s t = R at *
  have E : IntKind.i64.wrap R = R := by rw [IntKind.wrap_i64]; omega
  clear hk
  go_enter Tryz.func5, Tryz.ntmps5
  go_wp2_with (first
    | (go_at_call 9; (with_reducible refine CL.mono ?_); rintro e w1 ⟨rfl, b1⟩)
    | (go_at_call 26; (with_reducible refine (CP _).mono ?_); rintro e w2 ⟨rfl, b2⟩)
    | (go_at_call 27; (with_reducible refine (CD _).mono ?_); rintro e w3 ⟨rfl, b3⟩))
  go_ret
  exact ⟨rfl, bt (bt b1 b2) b3⟩
end Go.Proofs.YtaafhjngnjjcmaaGreatDoor

/- The table of filters, out of what the row lists. -/
namespace Go.Proofs.YtaafhjngnjjcmaaGreatDoor
open Go.ChangeShapes Go.WideShapes Go.ChangeAt Go.WideMaps Go.WideElems Go.RowKit

theorem gKinds : Tryz.prog.globalNamed "smalto/raw.kinds" = some 1 := by kernel_rfl
theorem tKinds : (Tryz.prog.globals[1]?).map (·.type) = some 169 := by kernel_rfl
theorem cellsKinds : Tryz.prog.cellsOf 169 = 6 := by kernel_rfl
theorem cellsKind : Tryz.prog.cellsOf 168 = 2 := by kernel_rfl
theorem cellsStrK : Tryz.prog.cellsOf 9 = 1 := by kernel_rfl
theorem cellsI64K : Tryz.prog.cellsOf 2 = 1 := by kernel_rfl
theorem string_of_bytes {s : ByteArray} {l : List UInt8} (h : s.data.toList = l) : s = ⟨l.toArray⟩ := by
  subst h; rfl
theorem kind_cells {H : Type} {enc : TypeId × Value → H} {w : World} {base : Nat} {sp : Nat → Bool} {held : Bool} {fuel : Nat} {a b : Value} {l : List UInt8} {n : Int} {y : DataW H × List MemPlace}
    (h : DataW.trod enc Tryz.prog w base sp held fuel 168 [a, b] = some y) (hy : y.1 = .agg [.lit (.string l), .lit (.int .i64 n)]) : a = .string ⟨l.toArray⟩ ∧ b = .int .i64 n := by
  obtain ⟨y0, y1, m, rfl, _, h0, h1⟩ := trod_struct2 Tryz.underlying168 h
  simp [cellsStrK, cellsI64K] at h0 h1 hy
  obtain ⟨s, e0, rfl, _⟩ := DataW.trod_string Tryz.underlying9 h0
  obtain ⟨k, e1, rfl, _⟩ := DataW.trod_int Tryz.underlying2 h1
  simp at e0 e1 hy
  obtain ⟨g0, rfl⟩ := hy
  exact ⟨by rw [e0, string_of_bytes g0], e1⟩
set_option maxRecDepth 100000 in
theorem kinds_cells {H : Type} {enc : TypeId × Value → H} {w : World} {base : Nat} {sp : Nat → Bool} {held : Bool} {fuel : Nat} {cs : Array Value} {p : List MemPlace}
    (h : DataW.trod enc Tryz.prog w base sp held fuel 169 cs.toList = some (Rows.laid_smalto_raw_kinds, p)) :
    cs = #[.string ⟨#[98, 111, 120]⟩, .int .i64 0, .string ⟨#[99, 117, 98, 105, 99]⟩, .int .i64 2, .string ⟨#[108, 97, 110, 99, 122, 111, 115]⟩, .int .i64 3] := by
  obtain ⟨l⟩ := cs
  obtain ⟨xs, m, rfl, hx, hl, hn, he⟩ := DataW.trod_array Tryz.underlying169 h
  rw [cellsKinds] at hl
  rw [cellsKind] at he
  obtain ⟨c0, c1, c2, c3, c4, c5, rfl⟩ : ∃ c0 c1 c2 c3 c4 c5, l = [c0, c1, c2, c3, c4, c5] := by
    match l, hl with
    | [a, b, c, d, e, f], _ => exact ⟨a, b, c, d, e, f, rfl⟩
  obtain ⟨y0, y1, y2, rfl⟩ : ∃ y0 y1 y2, xs = [y0, y1, y2] := by
    match xs, hn with
    | [a, b, c], _ => exact ⟨a, b, c, rfl⟩
  have h0 := he 0 (by omega)
  have h1 := he 1 (by omega)
  have h2 := he 2 (by omega)
  simp at h0 h1 h2
  simp [Rows.laid_smalto_raw_kinds] at hx
  obtain ⟨⟨g0, g1, g2⟩, _⟩ := hx
  obtain ⟨rfl, rfl⟩ := kind_cells h0 g0.symm
  obtain ⟨rfl, rfl⟩ := kind_cells h1 g1.symm
  obtain ⟨rfl, rfl⟩ := kind_cells h2 g2.symm
  rfl
end Go.Proofs.YtaafhjngnjjcmaaGreatDoor

/- Operations: the tables out of what the rows list; the laws, of memory that holds these. -/
namespace Go.Proofs.YtaafhjngnjjcmaaGreatDoor
open Go.ChangeShapes Go.WideShapes Go.ChangeAt Go.WideMaps Go.WideElems Go.RowKit

def dLaid12 {H : Type} : List (String × DataW H) := [("smalto/border.names", Rows.laid_smalto_border_names), ("smalto/raw.kinds", Rows.laid_smalto_raw_kinds)]
theorem door_met12 (os : Os) (args : Array Value) : laidMetH Tryz.prog dLaid12 ((World.doorLaid Tryz.prog 400 os).forCall (fun _ _ => 0) ⟨#[], args, []⟩).memory :=
  laidMetH_of_parts3 (fuel := 8) (laidMet_of_run' 8 (by kernel_rfl) (by kernel_rfl)) (by kernel_rfl) (by kernel_rfl)
theorem opk_of_laid {W : World} (h : laidMetH Tryz.prog dLaid12 W) : OpK W := by
  rw [MakeChecks.laidMetH_plain _ _ _ (by kernel_rfl)] at h
  obtain ⟨ps, ⟨g0, t0, cs0, f0, p0, q0, hg0, ht0, hv0, hd0, ⟨g1, t1, cs1, f1, p1, q1, hg1, ht1, hv1, hd1, _, _⟩, _⟩, _, _⟩ := h
  obtain rfl := Option.some.inj (gNamesE.symm.trans hg0)
  obtain rfl := Option.some.inj (tNamesE.symm.trans ht0)
  obtain rfl := names_cells hd0
  obtain rfl := Option.some.inj (gKinds.symm.trans hg1)
  obtain rfl := Option.some.inj (tKinds.symm.trans ht1)
  obtain rfl := kinds_cells hd1
  exact ⟨⟨World.var?_cell hg1 hv1 0, World.var?_cell hg1 hv1 1, World.var?_cell hg1 hv1 2, World.var?_cell hg1 hv1 3, World.var?_cell hg1 hv1 4, World.var?_cell hg1 hv1 5⟩, World.var?_cell hg0 hv0 0, World.var?_cell hg0 hv0 1, World.var?_cell hg0 hv0 2⟩
end Go.Proofs.YtaafhjngnjjcmaaGreatDoor
