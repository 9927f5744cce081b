/- Parts, joined. -/
import Derived.Test.YtlknopmpbkepjaaDoorJ17
import Derived.Deep.CutBlock
/- Operations as texts: the document's One: its head. -/
namespace Go.Proofs.YtlknopmpbkepjaaDoor
open Go.RowKit


/-- A number, or none: one form. -/
theorem num_one (s : ByteArray) (hs : s.size ≤ 1000000) : ∃ (x : Int) (ok : Bool), (ok = true → I64P x ∧ byt s = intF x) ∧ (ok = false → ∀ y, I64P y → byt s ≠ intF y) ∧
    ∀ w, Calls Tryd.prog 49 #[.string s] w fun e w' => (∃ x', e = .returned (.tuple #[.int .i64 x', .bool ok]) ∧ (ok = true → x' = x)) ∧ Below w.heap.size w w' := by
  rcases num_or s hs with ⟨x, hx, hb, C⟩ | ⟨hn, C⟩
  · exact ⟨x, true, fun _ => ⟨hx, hb⟩, (fun e => by cases e), fun w => (C w).mono fun e w' ⟨he, hB⟩ => ⟨⟨x, he, fun _ => rfl⟩, hB⟩⟩
  · exact ⟨0, false, (fun e => by cases e), fun _ => hn, fun w => (C w).mono fun e w' ⟨⟨x, he⟩, hB⟩ => ⟨⟨x, he, fun e => by cases e⟩, hB⟩⟩
theorem nums_one (s : ByteArray) (hs : s.size ≤ 1000000) : ∃ (xs : List Int) (ok : Bool), (ok = true → (∀ x ∈ xs, I64P x) ∧ byt s = rowB xs) ∧ (ok = false → ∀ ys, (∀ y ∈ ys, I64P y) → byt s ≠ rowB ys) ∧
    ∀ w, Calls Tryd.prog 50 #[.string s] w fun e w' => (∃ ad cap, e = .returned (.tuple #[.slice ad xs.length cap, .bool ok]) ∧ RowNew w' w.heap.size ad xs ∧ (ad = none → cap = 0)) ∧ Below w.heap.size w w' := by
  rcases nums_or s hs with ⟨xs, hx, hb, C⟩ | ⟨hn, C⟩
  · exact ⟨xs, true, fun _ => ⟨hx, hb⟩, (fun e => by cases e), C⟩
  · exact ⟨[], false, (fun e => by cases e), fun _ => hn, fun w => (C w).mono fun e w' ⟨he, hB⟩ => ⟨⟨none, 0, he, ⟨.inl rfl, fun a e => by cases e⟩, fun _ => rfl⟩, hB⟩⟩
theorem sgn_empty : ∀ j : Nat, j < 4 → (txt (sgnB j)).size ≤ 3 ∧ 1 ≤ (txt (sgnB j)).size := by
  intro j hj
  rw [txt_size (byts_sgn _)]
  rcases (show j = 0 ∨ j = 1 ∨ j = 2 ∨ j = 3 by omega) with rfl | rfl | rfl | rfl <;> decide
theorem one_start (w : World) (n : Nat) : OneSt w ((((w.alloc (.cells #[.int .i64 0, .int .i64 0, .int .i64 0, .int .i64 0, .slice none 0 0, .slice none 0 0, .int .i64 0, .int .i64 0, .int .i64 0] 34)).alloc (.cells #[.int .i64 0, .int .i64 0, .int .i64 0, .int .i64 0, .slice none 0 0, .slice none 0 0, .int .i64 0, .int .i64 0, .int .i64 0] 34)).drewN n).alloc (.cells #[.int .i64 (-1), .int .i64 (-1), .int .i64 0, .int .i64 0, .slice none 0 0, .slice none 0 0, .int .i64 0, .int .i64 0, .int .i64 0] 34)) (-1) (-1) := by
  obtain ⟨WA, hWA⟩ : ∃ W, w.alloc (.cells #[.int .i64 0, .int .i64 0, .int .i64 0, .int .i64 0, .slice none 0 0, .slice none 0 0, .int .i64 0, .int .i64 0, .int .i64 0] 34) = W := ⟨_, rfl⟩
  obtain ⟨WB, hWB⟩ : ∃ W, WA.alloc (.cells #[.int .i64 0, .int .i64 0, .int .i64 0, .int .i64 0, .slice none 0 0, .slice none 0 0, .int .i64 0, .int .i64 0, .int .i64 0] 34) = W := ⟨_, rfl⟩
  rw [hWA, hWB]
  have sA : WA.heap.size = w.heap.size + 1 := by rw [← hWA, World.size_alloc]
  have sB : (WB.drewN n).heap.size = w.heap.size + 1 + 1 := by
    show WB.heap.size = _
    rw [← hWB, World.size_alloc, sA]
  have pA : P9 WA w.heap.size 0 0 0 0 (.slice none 0 0) (.slice none 0 0) 0 0 0 ∧ F9 WA w.heap.size := by rw [← hWA]; exact ⟨P9.new w 34 _ _ _ _ _ _ _ _ _, F9.new _ _ _⟩
  have pB : P9 WB (w.heap.size + 1) 0 0 0 0 (.slice none 0 0) (.slice none 0 0) 0 0 0 := by rw [← sA, ← hWB]; exact P9.new WA 34 _ _ _ _ _ _ _ _ _
  have bA : Below WA.heap.size WA ((WB.drewN n).alloc (.cells #[.int .i64 (-1), .int .i64 (-1), .int .i64 0, .int .i64 0, .slice none 0 0, .slice none 0 0, .int .i64 0, .int .i64 0, .int .i64 0] 34)) := by rw [← hWB]; exact ba (bdN (below1 _ _) n) _
  have bB : Below WB.heap.size WB ((WB.drewN n).alloc (.cells #[.int .i64 (-1), .int .i64 (-1), .int .i64 0, .int .i64 0, .slice none 0 0, .slice none 0 0, .int .i64 0, .int .i64 0, .int .i64 0] 34)) := ba (bdN (Below.refl _ _) n) _
  have pC := P9.new (WB.drewN n) 34 (-1) (-1) 0 0 (.slice none 0 0) (.slice none 0 0) 0 0 0
  have fC := F9.new (WB.drewN n) #[.int .i64 (-1), .int .i64 (-1), .int .i64 0, .int .i64 0, .slice none 0 0, .slice none 0 0, .int .i64 0, .int .i64 0, .int .i64 0] 34
  rw [sB] at pC fC
  exact ⟨⟨pA.1.below bA, pA.2.below bA⟩, pB.below bB, ⟨pC, fC⟩, by rw [← hWB, ← hWA]; exact ba (bdN (ba (below1 _ _) _) n) _⟩
theorem row_set10 {w : World} {B b c : Nat} {ad : Option Addr} {xs : List Int} (h : RowNew w B ad xs) (hb : b < B) (hc : c < B) (i : Nat) (x v0 v1 v2 v3 v4 v5 v6 v7 v8 : Value) : RowNew ((((((((((w.setCell ⟨c, i, none⟩ x).setCell ⟨b, 0, none⟩ v0).setCell ⟨b, 1, none⟩ v1).setCell ⟨b, 2, none⟩ v2).setCell ⟨b, 3, none⟩ v3).setCell ⟨b, 4, none⟩ v4).setCell ⟨b, 5, none⟩ v5).setCell ⟨b, 6, none⟩ v6).setCell ⟨b, 7, none⟩ v7).setCell ⟨b, 8, none⟩ v8) B ad xs :=
  ((((((((((h.set hc i x).set hb 0 v0).set hb 1 v1).set hb 2 v2).set hb 3 v3).set hb 4 v4).set hb 5 v5).set hb 6 v6).set hb 7 v7).set hb 8 v8)
theorem below_set10 {B b c : Nat} {w0 w : World} (h : Below B w0 w) (hb : B ≤ b) (hc : B ≤ c) (i : Nat) (x v0 v1 v2 v3 v4 v5 v6 v7 v8 : Value) : Below B w0 ((((((((((w.setCell ⟨c, i, none⟩ x).setCell ⟨b, 0, none⟩ v0).setCell ⟨b, 1, none⟩ v1).setCell ⟨b, 2, none⟩ v2).setCell ⟨b, 3, none⟩ v3).setCell ⟨b, 4, none⟩ v4).setCell ⟨b, 5, none⟩ v5).setCell ⟨b, 6, none⟩ v6).setCell ⟨b, 7, none⟩ v7).setCell ⟨b, 8, none⟩ v8) :=
  ((((((((((h.setCell (p := ⟨c, i, none⟩) hc x).setCell (p := ⟨b, 0, none⟩) hb v0).setCell (p := ⟨b, 1, none⟩) hb v1).setCell (p := ⟨b, 2, none⟩) hb v2).setCell (p := ⟨b, 3, none⟩) hb v3).setCell (p := ⟨b, 4, none⟩) hb v4).setCell (p := ⟨b, 5, none⟩) hb v5).setCell (p := ⟨b, 6, none⟩) hb v6).setCell (p := ⟨b, 7, none⟩) hb v7).setCell (p := ⟨b, 8, none⟩) hb v8)
theorem below_set9 {B b : Nat} {w0 w : World} (h : Below B w0 w) (hb : B ≤ b) (v0 v1 v2 v3 v4 v5 v6 v7 v8 : Value) : Below B w0 ((((((((((w).setCell ⟨b, 0, none⟩ v0).setCell ⟨b, 1, none⟩ v1).setCell ⟨b, 2, none⟩ v2).setCell ⟨b, 3, none⟩ v3).setCell ⟨b, 4, none⟩ v4).setCell ⟨b, 5, none⟩ v5).setCell ⟨b, 6, none⟩ v6).setCell ⟨b, 7, none⟩ v7).setCell ⟨b, 8, none⟩ v8) :=
  (((((((((h.setCell (p := ⟨b, 0, none⟩) hb v0).setCell (p := ⟨b, 1, none⟩) hb v1).setCell (p := ⟨b, 2, none⟩) hb v2).setCell (p := ⟨b, 3, none⟩) hb v3).setCell (p := ⟨b, 4, none⟩) hb v4).setCell (p := ⟨b, 5, none⟩) hb v5).setCell (p := ⟨b, 6, none⟩) hb v6).setCell (p := ⟨b, 7, none⟩) hb v7).setCell (p := ⟨b, 8, none⟩) hb v8)
theorem ans_no13 {f : List Int → Option Opr} (hf : OneOf f) {s : ByteArray} (h : ∀ o, ¬ IsWord (byt s) o) (B : Nat) (w' : World) (o : Opr) (ax : Option Addr) (cx : Nat) (ay : Option Addr) (cy : Nat) : OneAns f s B (.returned (.tuple #[opV o ax cx ay cy, .bool false])) w' := .inr ⟨hf.no.2 h, o, ax, cx, ay, cy, rfl⟩
set_option maxHeartbeats 8000000 in
set_option maxRecDepth 100000 in
theorem one_any (f : List Int → Option Opr) (hf : OneOf f) (s : ByteArray) (hs : s.size ≤ 100000) (w : World) :
    Calls Tryd.prog 35 #[.string s] w fun e w' => OneAns f s w.heap.size e w' ∧ Below w.heap.size w w' := by
  -- the text at its bar
  obtain ⟨a, nm, isb, hcut, hyes, hno⟩ : ∃ (a nm : ByteArray) (isb : Bool), (∀ w, Calls Tryd.prog 34 #[.string s, .string ⟨#[124]⟩] w fun e w' => e = .returned (.tuple #[.string a, .string nm, .bool isb]) ∧ Drew w w') ∧ (isb = true → byt s = byt a ++ 124 :: byt nm ∧ (124 : Int) ∉ byt a) ∧ (isb = false → (124 : Int) ∉ byt s) ∧ a.size ≤ s.size := by
    rcases dcut_or (c := 124) (by decide) (by decide) (s := s) (by omega) with ⟨a, b, h1, h2, h3, C⟩ | ⟨h1, C⟩
    · exact ⟨a, b, true, C, fun _ => ⟨h1, h2⟩, (fun e => by cases e), by omega⟩
    · exact ⟨s, ⟨#[]⟩, false, C, (fun e => by cases e), fun _ => h1, Nat.le_refl _⟩
  obtain ⟨hno, hza⟩ := hno
  obtain ⟨K, r, hK, hzr⟩ := sgn_is a
  obtain ⟨BO, hBO⟩ := bord_is (byt nm)
  have hKr : -1 ≤ K ∧ K ≤ 3 := by rcases hK with ⟨h, _⟩ | ⟨h, _⟩ <;> omega
  have hBr : -1 ≤ BO ∧ BO ≤ 2 := by rcases hBO with ⟨h, _⟩ | ⟨h, _⟩ <;> omega
  have CS := fun (k : Int) w => dsign13_any k w
  have CB := fun (k : Int) w => dbord_any k w
  have HK := hide hK
  have HBO := hide hBO
  have HYES := hide hyes
  have HNO := hide hno
  have HST := hide (fun n => one_start w n)
  have HF := hide hf
  have HK2 := hide hK
  obtain ⟨LA, RB, MB, hM1, hM0, hLz, hRz, CM2⟩ : ∃ (LA RB : ByteArray) (MB : Bool), (MB = true → byt r = byt LA ++ (mulB ++ byt RB) ∧ ∀ p q, (195 : Int) ∉ p → byt r = p ++ (mulB ++ q) → byt LA = p ∧ byt RB = q) ∧ (MB = false → ∀ p q, byt r ≠ p ++ (mulB ++ q)) ∧ LA.size ≤ r.size ∧ RB.size ≤ r.size ∧ ∀ w, Calls Tryd.prog 34 #[.string r, .string (txt mulB)] w fun e w' => e = .returned (.tuple #[.string LA, .string RB, .bool MB]) ∧ Drew w w' := by
    rcases dcut_mul_or (s := r) (by omega) with ⟨a, b, h1, h2, h3, C⟩ | ⟨h1, C⟩
    · exact ⟨a, b, true, fun _ => ⟨h1, h3⟩, (fun e => by cases e), by omega, by omega, C⟩
    · exact ⟨r, ⟨#[]⟩, false, (fun e => by cases e), fun _ => h1, Nat.le_refl _, Nat.zero_le _, C⟩
  obtain ⟨x0, ok0, hN1, hN0, CN⟩ := num_one r (by omega)
  obtain ⟨xs, okL, hL1, hL0, CNL⟩ := nums_one LA (by omega)
  obtain ⟨ys, okR, hR1, hR0, CNR⟩ := nums_one RB (by omega)
  have HL1 := hide hL1
  have HL0 := hide hL0
  have HR1 := hide hR1
  have HR0 := hide hR0
  obtain ⟨H, FN, CBo, hC1, hC0, hHz, CC3⟩ : ∃ (H FN : ByteArray) (CBo : Bool), (CBo = true → byt RB = byt H ++ 44 :: byt FN ∧ (44 : Int) ∉ byt H) ∧ (CBo = false → (44 : Int) ∉ byt RB) ∧ H.size ≤ RB.size ∧ ∀ w, Calls Tryd.prog 34 #[.string RB, .string ⟨#[44]⟩] w fun e w' => e = .returned (.tuple #[.string H, .string FN, .bool CBo]) ∧ Drew w w' := by
    rcases dcut_or (c := 44) (by decide) (by decide) (s := RB) (by omega) with ⟨a, b, h1, h2, h3, C⟩ | ⟨h1, C⟩
    · exact ⟨a, b, true, fun _ => ⟨h1, h2⟩, (fun e => by cases e), by omega, C⟩
    · exact ⟨RB, ⟨#[]⟩, false, (fun e => by cases e), fun _ => h1, Nat.le_refl _, C⟩
  obtain ⟨wd, okw, hW1, hW0, CNW⟩ := num_one LA (by omega)
  obtain ⟨ht, okh, hH1, hH0, CNH⟩ := num_one H (by omega)
  obtain ⟨FL, hFL⟩ := filt_is (byt FN)
  have hFr : -1 ≤ FL ∧ FL ≤ 2 := by rcases hFL with ⟨h, _⟩ | ⟨h, _⟩ <;> omega
  have HC1 := hide hC1
  have HC0 := hide hC0
  have HW1 := hide hW1
  have HW0 := hide hW0
  have HH1 := hide hH1
  have HH0 := hide hH0
  have HFL := hide hFL
  have CFI := fun (k : Int) w => dfilt_any k w
  clear hC1 hC0 hW1 hW0 hH1 hH0 hFL
  have CT := fun w => dmul_any w
  have HM1 := hide hM1
  have HM0 := hide hM0
  have HN1 := hide hN1
  have HN0 := hide hN0
  clear hK hBO hyes hno hf hM1 hM0 hN1 hN0 hL1 hL0 hR1 hR0
  go_enter Tryd.func35, Tryd.ntmps35
  go_upto_block 0 with (go_at_call 34; (with_reducible refine (hcut _).mono ?_); rintro e w1 ⟨rfl, nq, rfl⟩)
  have ST0 := hide (HST.out nq)
  have B0 := ST0.out.2.2.2
  generalize (World.alloc (World.drewN (World.alloc (World.alloc w _) _) nq) _) = W0 at *
  clear HST B0
  go_cut [5, 9, 10] from 33 to 56 (fun x y z wx => x = .string r ∧ OneSt w wx K (-1))
  case first =>
    go_wp2_with fail
    go_loopw [5, 33] (fun t i wr => ∃ j : Nat, j ≤ 4 ∧ t = .string a ∧ i = .int .i64 (j : Int) ∧ Hid (∀ i : Nat, i < j → (i : Int) ≠ K) ∧ Hid (OneSt w wr (-1) (-1))) (fun _ i _ => 4 - (intOf i).toNat)
    case atStart => exact ⟨0, by omega, rfl, rfl, hide (fun i hi => absurd hi (Nat.not_lt_zero _)), ST0⟩
    case round =>
      obtain ⟨j, hj, rfl, rfl, hne, hst⟩ := hrel
      by_cases hlt : j < 4
      · obtain ⟨z1, z2⟩ := sgn_empty j hlt
        have CJ := CS (j : Int)
        obtain ⟨⟨_, _⟩, _, ⟨⟨c0, c1, c2, c3, c4, c5, c6, c7, c8⟩, ⟨f0, _⟩⟩, _⟩ := hst.out
        by_cases hk : (j : Int) = K
        · subst hk
          have hs2 : byt a = sgnB (j : Int) ++ byt r := by
            rcases HK.out with ⟨h, _⟩ | ⟨_, h⟩
            · omega
            · exact h
          obtain ⟨q1, q2, q3⟩ := sgn_cut hs2
          have HE := hide (fun n => (hst.out.below (bdN (Below.refl _ _) n)).kind (j : Int))
          clear hs2 hne hst HK
          generalize txt (sgnB (j : Int)) = S at *
          have qd : decide (S.size ≤ a.size) = true := decide_eq_true q1
          have qi : (S.size : Int) ≤ (a.size : Int) := by omega
          go_upto_region 8 with (go_at_call 18; (with_reducible refine (CJ _).mono ?_); rintro e w2 ⟨rfl, rfl⟩)
          go_quiet (first | (go_at_call 18; (with_reducible exact calm CJ _ _)))
          go_wp2_with fail
          go_meet
          exact ⟨rfl, HE.out _⟩
        · have hno := sgn_at HK.out (i := (j : Int)) (by omega) hk
          have HX := hide (show ∀ i : Nat, i < j + 1 → (i : Int) ≠ K from fun i hi => by
            by_cases e : i = j
            · subst e; exact hk
            · exact hne.out i (by omega))
          have HE := hide (fun n => hst.out.below (bdN (Below.refl _ _) n))
          clear hne hst HK hk
          generalize txt (sgnB (j : Int)) = S at *
          by_cases q1 : S.size ≤ a.size
          · have q2 : (( a.extract 0 S.size).toList == S.toList) = false := str_neq (fun e => hno ⟨q1, e⟩)
            have qd : decide (S.size ≤ a.size) = true := decide_eq_true q1
            have qi : (S.size : Int) ≤ (a.size : Int) := by omega
            clear hno
            go_upto_region 8 with (go_at_call 18; (with_reducible refine (CJ _).mono ?_); rintro e w2 ⟨rfl, rfl⟩)
            go_quiet (first | (go_at_call 18; (with_reducible exact calm CJ _ _)))
            go_wp2_with fail
            go_roundw
            case rel => exact ⟨j + 1, by omega, rfl, by go_num, HX, hide (HE.out _)⟩
            case measure => simp [intOf]; omega
          · have qd : decide (S.size ≤ a.size) = false := decide_eq_false q1
            have qi : ¬ ((S.size : Int) ≤ (a.size : Int)) := by omega
            clear hno
            go_upto_region 8 with (go_at_call 18; (with_reducible refine (CJ _).mono ?_); rintro e w2 ⟨rfl, rfl⟩)
            go_quiet (first | (go_at_call 18; (with_reducible exact calm CJ _ _)))
            go_wp2_with fail
            go_roundw
            case rel => exact ⟨j + 1, by omega, rfl, by go_num, HX, hide (HE.out _)⟩
            case measure => simp [intOf]; omega
      · obtain rfl : j = 4 := by omega
        have hk1 : K = -1 ∧ byt r = byt a := by
          have h0 := hne.out 0 (by omega)
          have h1 := hne.out 1 (by omega)
          have h2 := hne.out 2 (by omega)
          have h3 := hne.out 3 (by omega)
          rcases HK.out with ⟨h, h', _⟩ | ⟨h, _⟩
          · exact ⟨h, h'⟩
          · omega
        obtain ⟨e1, e2⟩ := hk1
        have e3 := byt_inj e2
        clear HK
        subst e1 e3
        clear hne e2
        go_wp2_with fail
        go_meet
        exact ⟨rfl, hst.out⟩
  case rest =>
    obtain ⟨rfl, hst⟩ := hcut
    have ST1 := hide hst
    clear hst ST0 HK CS
    go_upto_block 2 with fail
    go_cut [11] from 57 to 66 (fun x wx => OneSt w wx K BO)
    case first =>
      go_wp2_with fail
      go_loopw [57] (fun i wr => ∃ j : Nat, j ≤ 3 ∧ i = .int .i64 (j : Int) ∧ Hid (OneSt w wr K (if 0 ≤ BO ∧ BO < (j : Int) then BO else -1))) (fun i _ => 3 - (intOf i).toNat)
      case atStart => exact ⟨0, by omega, rfl, hide (by rw [if_neg (by omega)]; exact ST1.out)⟩
      case round =>
        obtain ⟨j, hj, rfl, hst⟩ := hrel
        by_cases hlt : j < 3
        · have CJ := CB (j : Int)
          have hhit := bord_hit HBO.out (i := (j : Int)) (by omega)
          obtain ⟨⟨_, _⟩, _, ⟨⟨c0, c1, c2, c3, c4, c5, c6, c7, c8⟩, ⟨_, f1, _⟩⟩, _⟩ := hst.out
          by_cases hk : (j : Int) = BO
          · subst hk
            have e1 := hhit.2 rfl
            have HE := hide (hst.out.bord (j : Int))
            have HX := hide (show (if 0 ≤ (j : Int) ∧ (j : Int) < ((j + 1 : Nat) : Int) then (j : Int) else -1) = (j : Int) from if_pos (by omega))
            clear hst HBO hhit
            subst e1
            generalize txt (bordB (j : Int)) = S at *
            generalize (if 0 ≤ (j : Int) ∧ (j : Int) < ((j : Nat) : Int) then (j : Int) else -1) = q at *
            go_wp2_with (go_at_call 20; (with_reducible refine (CJ _).mono ?_); rintro e w2 ⟨rfl, rfl⟩)
            go_roundw
            case rel => exact ⟨j + 1, by omega, by go_num, hide (by rw [HX.out]; exact HE.out)⟩
            case measure => simp [intOf]; omega
          · have e1 := str_neq (fun e => hk (hhit.1 e))
            have HX := hide (show (if 0 ≤ BO ∧ BO < ((j + 1 : Nat) : Int) then BO else -1) = (if 0 ≤ BO ∧ BO < (j : Int) then BO else -1) by
              by_cases g : 0 ≤ BO ∧ BO < (j : Int)
              · rw [if_pos g, if_pos (by omega)]
              · rw [if_neg g, if_neg (by omega)])
            have HE := hide hst.out
            clear hst HBO hhit hk
            generalize txt (bordB (j : Int)) = S at *
            generalize (if 0 ≤ BO ∧ BO < (j : Int) then BO else -1) = q at *
            go_wp2_with (go_at_call 20; (with_reducible refine (CJ _).mono ?_); rintro e w2 ⟨rfl, rfl⟩)
            go_roundw
            case rel => exact ⟨j + 1, by omega, by go_num, hide (by rw [HX.out]; exact HE.out)⟩
            case measure => simp [intOf]; omega
        · obtain rfl : j = 3 := by omega
          have HX := hide (show (if 0 ≤ BO ∧ BO < ((3 : Nat) : Int) then BO else -1) = BO by
            by_cases g : 0 ≤ BO ∧ BO < ((3 : Nat) : Int)
            · rw [if_pos g]
            · rw [if_neg g]; omega)
          rw [HX.out] at hst
          go_wp2_with fail
          go_meet
          exact hst.out
    case rest =>
      have HOS := hide hcut
      obtain ⟨⟨⟨z0, z1, z2, z3, z4, z5, z6, z7, z8⟩, q0, q1, q2, q3, q4, q5, q6, q7, q8, _⟩, ⟨e0, e1, e2, e3, e4, e5, e6, e7, e8⟩, ⟨⟨c0, c1, c2, c3, c4, c5, c6, c7, c8⟩, f0, f1, f2, f3, f4, f5, f6, f7, f8, _⟩, hbw⟩ := hcut
      have BW := hide hbw
      clear hbw CB ST1
      -- no bar; no sign; no border
      by_cases hgood : isb = true ∧ 0 ≤ K ∧ 0 ≤ BO
      case neg =>
        have HA := hide (fun (w' : World) => ans_no13 HF.out (s := s) (by
          cases isb with
          | false => exact no_bar (HNO.out rfl)
          | true =>
            obtain ⟨h1, h2⟩ := HYES.out rfl
            rcases HK2.out with ⟨_, _, h⟩ | ⟨hk, _⟩
            · exact no_sgn h1 h2 h
            · rcases HBO.out with ⟨_, h⟩ | ⟨hb, _⟩
              · exact no_bord h1 h2 h
              · exact absurd ⟨rfl, hk.1, hb.1⟩ hgood) w.heap.size w' ⟨0, 0, 0, 0, [], [], 0, 0, 0⟩ none 0 none 0)
        have HSZ := hide (show w.heap.size ≤ w.heap.size from Nat.le_refl _)
        cases isb with
        | false =>
          clear hgood HOS HYES HNO HK2 HBO
          go_wp2
          exact bodyPost_ret (v := .tuple #[.agg #[.int .i64 0, .int .i64 0, .int .i64 0, .int .i64 0, .slice none 0 0, .slice none 0 0, .int .i64 0, .int .i64 0, .int .i64 0], .bool false]) (by simp [results, Tryd.results35, go_sem, z0, z1, z2, z3, z4, z5, z6, z7, z8]) rfl ⟨HA.out _, below_set9 BW.out HSZ.out _ _ _ _ _ _ _ _ _⟩
        | true =>
          by_cases hk0 : K < 0
          · clear hgood HOS HYES HNO HK2 HBO
            go_wp2
            exact bodyPost_ret (v := .tuple #[.agg #[.int .i64 0, .int .i64 0, .int .i64 0, .int .i64 0, .slice none 0 0, .slice none 0 0, .int .i64 0, .int .i64 0, .int .i64 0], .bool false]) (by simp [results, Tryd.results35, go_sem, z0, z1, z2, z3, z4, z5, z6, z7, z8]) rfl ⟨HA.out _, below_set9 BW.out HSZ.out _ _ _ _ _ _ _ _ _⟩
          · have hb0 : BO < 0 := by
              by_cases g : BO < 0
              · exact g
              · exact absurd ⟨rfl, by omega, by omega⟩ hgood
            clear hgood HOS HYES HNO HK2 HBO
            go_wp2
            exact bodyPost_ret (v := .tuple #[.agg #[.int .i64 0, .int .i64 0, .int .i64 0, .int .i64 0, .slice none 0 0, .slice none 0 0, .int .i64 0, .int .i64 0, .int .i64 0], .bool false]) (by simp [results, Tryd.results35, go_sem, z0, z1, z2, z3, z4, z5, z6, z7, z8]) rfl ⟨HA.out _, below_set9 BW.out HSZ.out _ _ _ _ _ _ _ _ _⟩
      obtain ⟨rfl, k0, b0⟩ := hgood
      obtain ⟨hs1, hs2⟩ := HYES.out rfl
      have hb2 : (0 ≤ BO ∧ BO ≤ 2) ∧ byt nm = bordB BO := by rcases HBO.out with ⟨h, _⟩ | h; omega; exact h
      have hk2 : byt a = sgnB K ++ byt r := by rcases HK2.out with ⟨h, _⟩ | ⟨_, h⟩; omega; exact h
      rw [hb2.2] at hs1
      have HW := hide (And.intro hs1 (And.intro hs2 (And.intro hb2.1 hk2)))
      clear hs1 hs2 hb2 hk2 HYES HNO HBO HK2
      rcases (show K = 0 ∨ K = 1 ∨ K = 2 ∨ K = 3 by omega) with rfl | rfl | rfl | rfl
      · have HANS := hide (fun (w' : World) (x' : Int) (h : ok0 = true → x' = x0) => show OneAns f s w.heap.size (.returned (.tuple #[.agg #[.int .i64 0, .int .i64 BO, .int .i64 x', .int .i64 0, .slice none 0 0, .slice none 0 0, .int .i64 0, .int .i64 0, .int .i64 0], .bool ok0])) w' by
          obtain ⟨h1, h2, h3, h4⟩ := HW.out
          cases ok0 with
          | true =>
            obtain ⟨h5, h6⟩ := HN1.out rfl
            rw [h rfl]
            exact .inl ⟨g0 BO x0, none, 0, none, 0, HF.out.yes (is_g0 h3 h5 h1 h4 h6), rfl, ⟨.inl rfl, fun a e => by cases e⟩, ⟨.inl rfl, fun a e => by cases e⟩, fun _ => rfl, fun _ => rfl⟩
          | false => exact ans_no13 HF.out (no_g0 h1 h2 h4 (HN0.out rfl)) _ _ (g0 BO x') none 0 none 0)
        clear z0 z1 z2 z3 z4 z5 z6 z7 z8 q0 q1 q2 q3 q4 q5 q6 q7 q8 c2 c3 c4 c5 c6 c7 c8 f0 f1 f2 f3 f4 f5 f6 f7 f8 e0 e1 e2 e3 e4 e5 e6 e7 e8 HW HN1 HN0
        go_wp2_with (first
          | (go_at_call 23; (with_reducible refine (CT _).mono ?_); rintro e w2 ⟨rfl, rfl⟩)
          | (go_at_call 34; (with_reducible refine (CM2 _).mono ?_); rintro e w2 ⟨rfl, n2, rfl⟩)
          | (go_at_call 49; (with_reducible refine (CN _).mono ?_); rintro e w3 ⟨⟨x', rfl, hx'⟩, b3⟩; have H3 := hide (HOS.out.below (bt (bdN (Below.refl _ _) _) b3)); have HX := hide hx'; obtain ⟨⟨⟨z0, z1, z2, z3, z4, z5, z6, z7, z8⟩, q0, q1, q2, q3, q4, q5, q6, q7, q8, _⟩, _, ⟨⟨c0, c1, c2, c3, c4, c5, c6, c7, c8⟩, f0, f1, f2, f3, f4, f5, f6, f7, f8, _⟩, _⟩ := H3.out; clear b3 hx'))
        have HSZ := hide (show w.heap.size ≤ w.heap.size ∧ w.heap.size ≤ w.heap.size + 1 + 1 by omega)
        exact bodyPost_ret (v := .tuple #[.agg #[.int .i64 0, .int .i64 BO, .int .i64 x', .int .i64 0, .slice none 0 0, .slice none 0 0, .int .i64 0, .int .i64 0, .int .i64 0], .bool ok0]) (by simp [results, Tryd.results35, go_sem, z0, z1, z2, z3, z4, z5, z6, z7, z8]) rfl ⟨HANS.out _ _ HX.out, below_set10 H3.out.2.2.2 HSZ.out.1 HSZ.out.2 _ _ _ _ _ _ _ _ _ _ _⟩
      · have HANS := hide (fun (w' : World) (x' : Int) (h : ok0 = true → x' = x0) => show OneAns f s w.heap.size (.returned (.tuple #[.agg #[.int .i64 1, .int .i64 BO, .int .i64 0, .int .i64 x', .slice none 0 0, .slice none 0 0, .int .i64 0, .int .i64 0, .int .i64 0], .bool ok0])) w' by
          obtain ⟨h1, h2, h3, h4⟩ := HW.out
          cases ok0 with
          | true =>
            obtain ⟨h5, h6⟩ := HN1.out rfl
            rw [h rfl]
            exact .inl ⟨g1 BO x0, none, 0, none, 0, HF.out.yes (is_g1 h3 h5 h1 h4 h6), rfl, ⟨.inl rfl, fun a e => by cases e⟩, ⟨.inl rfl, fun a e => by cases e⟩, fun _ => rfl, fun _ => rfl⟩
          | false => exact ans_no13 HF.out (no_g1 h1 h2 h4 (HN0.out rfl)) _ _ (g1 BO x') none 0 none 0)
        clear z0 z1 z2 z3 z4 z5 z6 z7 z8 q0 q1 q2 q3 q4 q5 q6 q7 q8 c2 c3 c4 c5 c6 c7 c8 f0 f1 f2 f3 f4 f5 f6 f7 f8 e0 e1 e2 e3 e4 e5 e6 e7 e8 HW HN1 HN0
        go_wp2_with (first
          | (go_at_call 23; (with_reducible refine (CT _).mono ?_); rintro e w2 ⟨rfl, rfl⟩)
          | (go_at_call 34; (with_reducible refine (CM2 _).mono ?_); rintro e w2 ⟨rfl, n2, rfl⟩)
          | (go_at_call 49; (with_reducible refine (CN _).mono ?_); rintro e w3 ⟨⟨x', rfl, hx'⟩, b3⟩; have H3 := hide (HOS.out.below (bt (bdN (Below.refl _ _) _) b3)); have HX := hide hx'; obtain ⟨⟨⟨z0, z1, z2, z3, z4, z5, z6, z7, z8⟩, q0, q1, q2, q3, q4, q5, q6, q7, q8, _⟩, _, ⟨⟨c0, c1, c2, c3, c4, c5, c6, c7, c8⟩, f0, f1, f2, f3, f4, f5, f6, f7, f8, _⟩, _⟩ := H3.out; clear b3 hx'))
        have HSZ := hide (show w.heap.size ≤ w.heap.size ∧ w.heap.size ≤ w.heap.size + 1 + 1 by omega)
        exact bodyPost_ret (v := .tuple #[.agg #[.int .i64 1, .int .i64 BO, .int .i64 0, .int .i64 x', .slice none 0 0, .slice none 0 0, .int .i64 0, .int .i64 0, .int .i64 0], .bool ok0]) (by simp [results, Tryd.results35, go_sem, z0, z1, z2, z3, z4, z5, z6, z7, z8]) rfl ⟨HANS.out _ _ HX.out, below_set10 H3.out.2.2.2 HSZ.out.1 HSZ.out.2 _ _ _ _ _ _ _ _ _ _ _⟩
      · have HANS := hide (fun (w' : World) ax cx ay cy (hX : RowNew w' w.heap.size ax xs) (hY : RowNew w' w.heap.size ay ys) (hx : ax = none → cx = 0) (hy : ay = none → cy = 0) (rb : Bool) (hrb : (MB && okL && okR) = rb) => show OneAns f s w.heap.size (.returned (.tuple #[.agg #[.int .i64 2, .int .i64 BO, .int .i64 0, .int .i64 0, .slice ax xs.length cx, .slice ay ys.length cy, .int .i64 0, .int .i64 0, .int .i64 0], .bool rb])) w' by
          obtain ⟨h1, h2, h3, h4⟩ := HW.out
          cases MB with
          | false => exact hrb ▸ ans_no13 HF.out (no_g2 h1 h2 h4 (fun xs ys _ _ => HM0.out rfl _ _)) _ _ (g2 BO xs ys) ax cx ay cy
          | true =>
            obtain ⟨m1, m2⟩ := HM1.out rfl
            cases okL with
            | false => exact hrb ▸ ans_no13 HF.out (no_g2 h1 h2 h4 (fun xs ys hx hy e => HL0.out rfl xs hx (m2 _ _ (no195 xs) e).1)) _ _ (g2 BO xs ys) ax cx ay cy
            | true =>
              obtain ⟨l1, l2⟩ := HL1.out rfl
              cases okR with
              | false => exact hrb ▸ ans_no13 HF.out (no_g2 h1 h2 h4 (fun xs ys hx hy e => HR0.out rfl ys hy (m2 _ _ (no195 xs) e).2)) _ _ (g2 BO xs ys) ax cx ay cy
              | true =>
                obtain ⟨r1, r2⟩ := HR1.out rfl
                exact hrb ▸ .inl ⟨g2 BO xs ys, ax, cx, ay, cy, HF.out.yes (is_g2 h3 l1 r1 h1 h4 (by rw [m1, l2, r2])), rfl, hX, hY, hx, hy⟩)
        have HSZ := hide (show w.heap.size ≤ w.heap.size ∧ w.heap.size ≤ w.heap.size + 1 + 1 ∧ w.heap.size < w.heap.size + 1 + 1 + 1 ∧ w.heap.size + 1 + 1 < w.heap.size + 1 + 1 + 1 ∧ w.heap.size + 1 + 1 ≠ w.heap.size by omega)
        have HLT := hide HOS.out.2.2.1.2.2.2.2.2.2.2.2.2.2
        clear z0 z1 z2 z3 z4 z5 z6 z7 z8 q0 q1 q2 q3 q4 q5 q6 q7 q8 c2 c3 c4 c5 c6 c7 c8 f0 f1 f2 f3 f4 f5 f6 f7 f8 e0 e1 e2 e3 e4 e5 e6 e7 e8 HW HN1 HN0 HM1 HM0 HL1 HL0 HR1 HR0
        generalize hnx : xs.length = nx at *
        generalize hny : ys.length = ny at *
        go_upto_region 34 with (first
          | (go_at_call 23; (with_reducible refine (CT _).mono ?_); rintro e w2 ⟨rfl, rfl⟩)
          | (go_at_call 34; (with_reducible refine (CM2 _).mono ?_); rintro e w2 ⟨rfl, n2, rfl⟩)
          | (go_at_call 50; (with_reducible refine (CNL _).mono ?_); rintro e w3 ⟨⟨ax, cx, rfl, hr1, hz1⟩, b3⟩; have H3 := hide (HOS.out.below (bt (bdN (Below.refl _ _) _) b3)); have HX := hide (hr1.mono (show w.heap.size + 1 + 1 + 1 ≤ _ from HLT.out)); have HZ1 := hide hz1; obtain ⟨_, _, ⟨⟨_, _, _, _, c4, _, _, _, _⟩, _, _, _, _, f4, _⟩, _⟩ := H3.out; clear b3 hr1 hz1)
          | (go_at_call 50; (with_reducible refine (CNR _).mono ?_); rintro e w4 ⟨⟨ay, cy, rfl, hr2, hz2⟩, b4⟩; have HB4 := hide (bt (H3.out.2.2.2.setCell (p := ⟨w.heap.size + 1 + 1, 4, none⟩) HSZ.out.2.1 (.slice ax nx cx)) b4); have HX4 := hide ((HX.out.set HSZ.out.2.2.2.1 4 (.slice ax nx cx)).below b4); have HY4 := hide (hr2.mono (show w.heap.size + 1 + 1 + 1 ≤ _ from (f9_set H3.out.2.2.1.2 ⟨w.heap.size + 1 + 1, 4, none⟩ (.slice ax nx cx)).2.2.2.2.2.2.2.2.2)); have HZ2 := hide hz2; obtain ⟨z0, z1, z2, z3, z4, z5, z6, z7, z8⟩ := (p9_apart (i := 4) (u := .slice ax nx cx) H3.out.1.1 HSZ.out.2.2.2.2).below b4; obtain ⟨q0, q1, q2, q3, q4, q5, q6, q7, q8, _⟩ := (f9_set H3.out.1.2 ⟨w.heap.size + 1 + 1, 4, none⟩ (.slice ax nx cx)).below b4; obtain ⟨d0, d1, d2, d3, d4, d5, d6, d7, d8⟩ := (p9_set4 H3.out.2.2.1.1 (.slice ax nx cx)).below b4; obtain ⟨_, _, _, _, _, g5, _, _, _, _⟩ := (f9_set H3.out.2.2.1.2 ⟨w.heap.size + 1 + 1, 4, none⟩ (.slice ax nx cx)).below b4; clear b4 hr2 hz2))
        cases MB
        case' true => cases okL
        case' true.true => cases okR
        all_goals
          go_wp2
          subst hnx hny
          exact bodyPost_ret (v := .tuple #[.agg #[.int .i64 2, .int .i64 BO, .int .i64 0, .int .i64 0, .slice ax xs.length cx, .slice ay ys.length cy, .int .i64 0, .int .i64 0, .int .i64 0], .bool _]) (by simp [results, Tryd.results35, go_sem, z0, z1, z2, z3, z4, z5, z6, z7, z8]; rfl) rfl
            ⟨HANS.out _ ax cx ay cy ((row_set10 HX4.out HSZ.out.2.2.1 HSZ.out.2.2.2.1 _ _ _ _ _ _ _ _ _ _ _).mono (by omega)) ((row_set10 HY4.out HSZ.out.2.2.1 HSZ.out.2.2.2.1 _ _ _ _ _ _ _ _ _ _ _).mono (by omega)) HZ1.out HZ2.out _ (by simp), below_set10 HB4.out HSZ.out.1 HSZ.out.2.1 _ _ _ _ _ _ _ _ _ _ _⟩
      · have HANS := hide (fun (w' : World) (x3 x4 : Int) (h3w : okw = true → x3 = wd) (h4h : okh = true → x4 = ht) (rb : Bool) (hrb : (MB && CBo && okw && okh && decide (0 ≤ FL)) = rb) => show OneAns f s w.heap.size (.returned (.tuple #[.agg #[.int .i64 3, .int .i64 BO, .int .i64 0, .int .i64 0, .slice none 0 0, .slice none 0 0, .int .i64 FL, .int .i64 x3, .int .i64 x4], .bool rb])) w' by
          obtain ⟨h1, h2, h3, h4⟩ := HW.out
          cases MB with
          | false => exact hrb ▸ ans_no13 HF.out (no_g3 h1 h2 h4 (fun _ _ _ _ _ _ => HM0.out rfl _ _)) _ _ (g3 BO FL x3 x4) none 0 none 0
          | true =>
            obtain ⟨m1, m2⟩ := HM1.out rfl
            cases CBo with
            | false => exact hrb ▸ ans_no13 HF.out (no_g3 h1 h2 h4 (fun wd ht fl _ _ _ e => HC0.out rfl (by rw [(m2 _ _ (no195i wd) e).2]; exact List.mem_append.2 (.inr List.mem_cons_self)))) _ _ (g3 BO FL x3 x4) none 0 none 0
            | true =>
              obtain ⟨p1, p2⟩ := HC1.out rfl
              have uni : ∀ wd ht fl, byt r = intF wd ++ (mulB ++ (intF ht ++ 44 :: filtB fl)) → byt LA = intF wd ∧ byt H = intF ht ∧ byt FN = filtB fl := fun wd ht fl e => by
                obtain ⟨u1, u2⟩ := m2 _ _ (no195i wd) e
                obtain ⟨u3, u4⟩ := first_inj p2 (no44 ht) (p1.symm.trans u2)
                exact ⟨u1, u3, u4⟩
              cases okw with
              | false => exact hrb ▸ ans_no13 HF.out (no_g3 h1 h2 h4 (fun wd ht fl i1 _ _ e => HW0.out rfl wd i1 (uni _ _ _ e).1)) _ _ (g3 BO FL x3 x4) none 0 none 0
              | true =>
                obtain ⟨w1, w2⟩ := HW1.out rfl
                cases okh with
                | false => exact hrb ▸ ans_no13 HF.out (no_g3 h1 h2 h4 (fun wd ht fl _ i2 _ e => HH0.out rfl ht i2 (uni _ _ _ e).2.1)) _ _ (g3 BO FL x3 x4) none 0 none 0
                | true =>
                  obtain ⟨t1, t2⟩ := HH1.out rfl
                  rw [h3w rfl, h4h rfl]
                  rcases HFL.out with ⟨g1, g2⟩ | ⟨g1, g2⟩
                  · have e : rb = false := by rw [← hrb, g1]; rfl
                    rw [e]
                    exact ans_no13 HF.out (no_g3 h1 h2 h4 (fun wd ht fl _ _ i3 e => g2 fl i3 (uni _ _ _ e).2.2)) _ _ (g3 BO FL wd ht) none 0 none 0
                  · have e : rb = true := by rw [← hrb]; simp [g1.1]
                    rw [e]
                    exact .inl ⟨g3 BO FL wd ht, none, 0, none, 0, HF.out.yes (is_g3 h3 g1 w1 t1 h1 h4 (by rw [m1, p1, w2, t2, g2])), rfl, ⟨.inl rfl, fun a e => by cases e⟩, ⟨.inl rfl, fun a e => by cases e⟩, fun _ => rfl, fun _ => rfl⟩)
        have HSZ := hide (show w.heap.size ≤ w.heap.size from Nat.le_refl _)
        clear z0 z1 z2 z3 z4 z5 z6 z7 z8 q0 q1 q2 q3 q4 q5 q6 q7 q8 c2 c3 c4 c5 c6 c7 c8 f0 f1 f2 f3 f4 f5 f6 f7 f8 e0 e1 e2 e3 e4 e5 e6 e7 e8 HW HN1 HN0 HM1 HM0 HL1 HL0 HR1 HR0 HC1 HC0 HW1 HW0 HH1 HH0
        go_upto_block 5 with (first
          | (go_at_call 23; (with_reducible refine (CT _).mono ?_); rintro e w2 ⟨rfl, rfl⟩)
          | (go_at_call 34; (with_reducible refine (CM2 _).mono ?_); rintro e w2 ⟨rfl, n2, rfl⟩)
          | (go_at_call 34; (with_reducible refine (CC3 _).mono ?_); rintro e w2 ⟨rfl, n3, rfl⟩)
          | (go_at_call 49; (with_reducible refine (CNW _).mono ?_); rintro e w3 ⟨⟨x3, rfl, hx3⟩, b3⟩; have H3 := hide (HOS.out.below (bt (by repeat (first | exact Below.refl _ _ | with_reducible refine bdN ?_ _)) b3)); have HX3 := hide hx3; clear b3 hx3)
          | (go_at_call 49; (with_reducible refine (CNH _).mono ?_); rintro e w4 ⟨⟨x4, rfl, hx4⟩, b4⟩; have H4 := hide (H3.out.below b4); have HX4 := hide hx4; obtain ⟨_, _, ⟨⟨_, _, _, _, _, _, c6, c7, c8⟩, _, _, _, _, _, _, f6, f7, f8, _⟩, _⟩ := H4.out; clear b4 hx4))
        have SD := hide (H4.out.sides x3 x4 (-1))
        clear c0 c1 c6 c7 c8 f6 f7 f8
        go_cut [24] from 153 to 162 (fun x wx => OneS3 w wx BO FL x3 x4)
        case first =>
          go_wp2_with fail
          go_loopw [153] (fun i wr => ∃ j : Nat, j ≤ 3 ∧ i = .int .i64 (j : Int) ∧ Hid (OneS3 w wr BO (if 0 ≤ FL ∧ FL < (j : Int) then FL else -1) x3 x4)) (fun i _ => 3 - (intOf i).toNat)
          case atStart => exact ⟨0, by omega, rfl, hide (by rw [if_neg (by omega)]; exact SD.out)⟩
          case round =>
            obtain ⟨j, hj, rfl, hst⟩ := hrel
            by_cases hlt : j < 3
            · have CJ := CFI (j : Int)
              have hhit := filt_hit HFL.out (i := (j : Int)) (by omega)
              obtain ⟨_, ⟨⟨_, _, _, _, _, _, c6, _, _⟩, ⟨_, _, _, _, _, _, f6, _⟩⟩, _⟩ := hst.out
              by_cases hk : (j : Int) = FL
              · subst hk
                have e1 := hhit.2 rfl
                have HE := hide (hst.out.filt (j : Int))
                have HX := hide (show (if 0 ≤ (j : Int) ∧ (j : Int) < ((j + 1 : Nat) : Int) then (j : Int) else -1) = (j : Int) from if_pos (by omega))
                clear hst HFL hhit HANS
                subst e1
                generalize txt (filtB (j : Int)) = S at *
                generalize (if 0 ≤ (j : Int) ∧ (j : Int) < ((j : Nat) : Int) then (j : Int) else -1) = q at *
                go_wp2_with (go_at_call 24; (with_reducible refine (CJ _).mono ?_); rintro e w2 ⟨rfl, rfl⟩)
                go_roundw
                case rel => exact ⟨j + 1, by omega, by go_num, hide (by rw [HX.out]; exact HE.out)⟩
                case measure => simp [intOf]; omega
              · have e1 := str_neq (fun e => hk (hhit.1 e))
                have HX := hide (show (if 0 ≤ FL ∧ FL < ((j + 1 : Nat) : Int) then FL else -1) = (if 0 ≤ FL ∧ FL < (j : Int) then FL else -1) by
                  by_cases g : 0 ≤ FL ∧ FL < (j : Int)
                  · rw [if_pos g, if_pos (by omega)]
                  · rw [if_neg g, if_neg (by omega)])
                have HE := hide hst.out
                clear hst HFL hhit hk HANS
                generalize txt (filtB (j : Int)) = S at *
                generalize (if 0 ≤ FL ∧ FL < (j : Int) then FL else -1) = q at *
                go_wp2_with (go_at_call 24; (with_reducible refine (CJ _).mono ?_); rintro e w2 ⟨rfl, rfl⟩)
                go_roundw
                case rel => exact ⟨j + 1, by omega, by go_num, hide (by rw [HX.out]; exact HE.out)⟩
                case measure => simp [intOf]; omega
            · obtain rfl : j = 3 := by omega
              have HX := hide (show (if 0 ≤ FL ∧ FL < ((3 : Nat) : Int) then FL else -1) = FL by
                by_cases g : 0 ≤ FL ∧ FL < ((3 : Nat) : Int)
                · rw [if_pos g]
                · rw [if_neg g]; omega)
              rw [HX.out] at hst
              go_wp2_with fail
              go_meet
              exact hst.out
        case rest =>
          obtain ⟨⟨⟨z0, z1, z2, z3, z4, z5, z6, z7, z8⟩, q0, q1, q2, q3, q4, q5, q6, q7, q8, _⟩, ⟨⟨c0, c1, c2, c3, c4, c5, c6, c7, c8⟩, _⟩, hbs⟩ := hcut
          have BS := hide hbs
          clear hbs SD H4 H3 CT CM2 CC3 CNW CNH CFI CN CNL CNR HOS BW HFL
          cases MB
          case' true => cases CBo
          case' true.true => cases okw
          case' true.true.true => cases okh
          case' true.true.true.true => rcases (show (0 ≤ FL ∧ decide (0 ≤ FL) = true) ∨ (FL < 0 ∧ decide (0 ≤ FL) = false) by
            by_cases g : 0 ≤ FL
            · exact .inl ⟨g, decide_eq_true g⟩
            · exact .inr ⟨by omega, decide_eq_false g⟩) with ⟨hfl, hfd⟩ | ⟨hfl, hfd⟩
          all_goals
            go_upto_region 47 with fail
            go_region
            all_goals
              go_wp2
              exact bodyPost_ret (v := .tuple #[.agg #[.int .i64 3, .int .i64 BO, .int .i64 0, .int .i64 0, .slice none 0 0, .slice none 0 0, .int .i64 FL, .int .i64 x3, .int .i64 x4], .bool _]) (by simp [results, Tryd.results35, go_sem, z0, z1, z2, z3, z4, z5, z6, z7, z8]; rfl) rfl ⟨HANS.out _ _ _ HX3.out HX4.out _ (by first | rfl | (rw [hfd]; rfl)), by repeat (first | with_reducible exact BS.out | with_reducible refine Below.setCell ?_ HSZ.out _ | with_reducible refine bdN ?_ _ | with_reducible refine bd ?_)⟩
end Go.Proofs.YtlknopmpbkepjaaDoor
