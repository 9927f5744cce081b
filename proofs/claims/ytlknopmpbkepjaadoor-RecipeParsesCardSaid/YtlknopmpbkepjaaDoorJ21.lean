/- Parts, joined. -/
import Derived.Test.YtlknopmpbkepjaaDoorJ20
import Derived.Test.YtlknopmpbkepjaaDoorJ07
/- Operations as texts: the program's names read; weights; sides and a filter. -/
namespace Go.Proofs.YtlknopmpbkepjaaDoor
open Go.RowKit

theorem bnamed_yes (k : Int) (h : 0 ≤ k ∧ k ≤ 2) (w : World) (hk : NamesE w) :
    Calls Tryd.prog 45 #[.string (txt (bordB k))] w fun e w' => e = .returned (.tuple #[.int .i64 k, .bool true]) ∧ w = w' := by
  rcases (show k = 0 ∨ k = 1 ∨ k = 2 by omega) with rfl | rfl | rfl
  · exact named_0 w hk
  · exact named_1 w hk
  · exact named_2 w hk
theorem bnamed_any {s : ByteArray} {b : Int} (h : BordIs (byt s) b) (w : World) (hk : NamesE w) :
    Calls Tryd.prog 45 #[.string s] w fun e w' => (∃ x, e = .returned (.tuple #[.int .i64 x, .bool (decide (0 ≤ b))]) ∧ (0 ≤ b → x = b)) ∧ w = w' := by
  rcases h with ⟨rfl, h⟩ | ⟨h, hs⟩
  · have n0 : s ≠ nClamp := fun e => h 0 (by omega) (by rw [e]; exact byt_txt (byts_bord 0))
    have n1 : s ≠ nMirror := fun e => h 1 (by omega) (by rw [e]; exact byt_txt (byts_bord 1))
    have n2 : s ≠ nWrap := fun e => h 2 (by omega) (by rw [e]; exact byt_txt (byts_bord 2))
    exact (named_none s n0 n1 n2 w hk).mono fun e w' ⟨he, hw⟩ => ⟨⟨0, he, fun q => by omega⟩, hw⟩
  · rw [txt_of hs, decide_eq_true h.1]
    exact (bnamed_yes b h w hk).mono fun e w' ⟨he, hw⟩ => ⟨⟨b, he, fun _ => rfl⟩, hw⟩
theorem filt_full {k : Int} (h : 0 ≤ k ∧ k ≤ 2) : (txt (filtB k)).toList.isEmpty = false := by
  rw [byt_empty, byt_txt (byts_filt k)]
  rcases (show k = 0 ∨ k = 1 ∨ k = 2 by omega) with rfl | rfl | rfl <;> rfl
theorem fnamed_yes (k : Int) (h : 0 ≤ k ∧ k ≤ 2) (w : World) (hk : Kinds w) :
    Calls Tryd.prog 71 #[.string (txt (filtB k))] w fun e w' => e = .returned (.tuple #[.int .i64 k, .bool true]) ∧ Below w.heap.size w w' := by
  have CS := fun (j : Int) w' (b : Below w.heap.size w w') => fname_any j w' (kinds_below hk b)
  have HR := hide (fun (j : Nat) (hj : j < 3) => filt_full (k := (j : Int)) (by omega))
  have HI := hide (fun (j : Nat) (hj : j < 3) (hne : (j : Int) ≠ k) => str_neq (show txt (filtB (j : Int)) ≠ txt (filtB k) from fun e => hne (filt_inj (by omega) (by omega) h.1 h.2 ((txt_inj (byts_filt _) (byts_filt _)).1 e))))
  go_enter Tryd.func71, Tryd.ntmps71
  go_wp2
  go_loopw [4] (fun i wr => ∃ j : Nat, j ≤ 2 ∧ (j : Int) ≤ k ∧ i = .int .i64 (j : Int) ∧ Below w.heap.size w wr) (fun i _ => 3 - (intOf i).toNat)
  case atStart => exact ⟨0, by omega, by omega, rfl, Below.refl _ _⟩
  case round =>
    obtain ⟨j, hj, hjk, rfl, hb⟩ := hrel
    have HB := hide hb
    have CJ := fun wx b => CS (j : Int) wx b
    have r0 := HR.out j (by omega)
    clear hb
    by_cases hkj : (j : Int) = k
    · subst hkj
      clear HI HR CS
      generalize txt (filtB (j : Int)) = R at *
      go_wp2_with (go_at_call 26; (with_reducible refine (CJ _ (by first | exact HB.out | exact bdN HB.out _)).mono ?_); rintro e w1 ⟨rfl, rfl⟩)
      go_ret2
      first | exact ⟨rfl, HB.out⟩ | exact ⟨rfl, bdN HB.out _⟩
    · have r1 := HI.out j (by omega) hkj
      clear HI HR CS
      generalize txt (filtB (j : Int)) = R at *
      generalize txt (filtB k) = R2 at *
      go_wp2_with (go_at_call 26; (with_reducible refine (CJ _ (by first | exact HB.out | exact bdN HB.out _)).mono ?_); rintro e w1 ⟨rfl, rfl⟩)
      go_roundw
      case rel => exact ⟨j + 1, by omega, by omega, by go_num, by first | exact HB.out | exact bdN HB.out _⟩
      case measure => simp [intOf]; omega
theorem fnamed_no (s : ByteArray) (h : ∀ k, 0 ≤ k ∧ k ≤ 2 → byt s ≠ filtB k) (w : World) (hk : Kinds w) :
    Calls Tryd.prog 71 #[.string s] w fun e w' => e = .returned (.tuple #[.int .i64 0, .bool false]) ∧ Below w.heap.size w w' := by
  have CS := fun (j : Int) w' (b : Below w.heap.size w w') => fname_any j w' (kinds_below hk b)
  have HR := hide (fun (j : Nat) (hj : j < 3) => filt_full (k := (j : Int)) (by omega))
  have HI := hide (fun (j : Nat) (hj : j < 3) => str_neq (show txt (filtB (j : Int)) ≠ s from fun e => h (j : Int) (by omega) (by rw [← e, byt_txt (byts_filt _)])))
  clear h
  go_enter Tryd.func71, Tryd.ntmps71
  go_wp2
  go_loopw [4] (fun i wr => ∃ j : Nat, j ≤ 3 ∧ i = .int .i64 (j : Int) ∧ Below w.heap.size w wr) (fun i _ => 3 - (intOf i).toNat)
  case atStart => exact ⟨0, by omega, rfl, Below.refl _ _⟩
  case round =>
    obtain ⟨j, hj, rfl, hb⟩ := hrel
    have HB := hide hb
    have CJ := fun wx b => CS (j : Int) wx b
    clear hb
    by_cases hlt : j < 3
    · have r0 := HR.out j hlt
      have r1 := HI.out j hlt
      clear HI HR CS
      generalize txt (filtB (j : Int)) = R at *
      go_wp2_with (go_at_call 26; (with_reducible refine (CJ _ (by first | exact HB.out | exact bdN HB.out _)).mono ?_); rintro e w1 ⟨rfl, rfl⟩)
      go_roundw
      case rel => exact ⟨j + 1, by omega, by go_num, by first | exact HB.out | exact bdN HB.out _⟩
      case measure => simp [intOf]; omega
    · obtain rfl : j = 3 := by omega
      have CJ4 := fun wx b => CS 3 wx b
      rw [show txt (filtB 3) = ⟨#[]⟩ from rfl] at CJ4
      clear HI HR CS
      go_wp2_with (go_at_call 26; (with_reducible refine (CJ4 _ (by first | exact HB.out | exact bdN HB.out _)).mono ?_); rintro e w1 ⟨rfl, rfl⟩)
      go_ret2
      first | exact ⟨rfl, HB.out⟩ | exact ⟨rfl, bdN HB.out _⟩
theorem fnamed_p (s : ByteArray) : ∃ (x : Int) (ok : Bool), (ok = true → (0 ≤ x ∧ x ≤ 2) ∧ byt s = filtB x) ∧ (ok = false → ∀ k, 0 ≤ k ∧ k ≤ 2 → byt s ≠ filtB k) ∧
    ∀ w, KP w → Calls Tryd.prog 71 #[.string s] w fun e w' => e = .returned (.tuple #[.int .i64 x, .bool ok]) ∧ Below w.heap.size w w' := by
  rcases filt_or (byt s) with ⟨k, hk, h⟩ | h
  · rw [txt_of h]
    exact ⟨k, true, fun _ => ⟨hk, byt_txt (byts_filt k)⟩, (fun e => by cases e), fun w hw => fnamed_yes k hk w hw.1.2.1⟩
  · exact ⟨0, false, (fun e => by cases e), fun _ => h, fun w hw => fnamed_no s h w hw.1.2.1⟩
set_option maxHeartbeats 2000000 in
theorem weights_p (r : ByteArray) (hr : r.size ≤ 100000) : ∃ (xs ys : List Int) (ok : Bool), (ok = true → (∀ x ∈ xs, I64P x) ∧ (∀ y ∈ ys, I64P y) ∧ byt r = rowB xs ++ (mulB ++ rowB ys)) ∧ (ok = false → ∀ xs ys, (∀ x ∈ xs, I64P x) → (∀ y ∈ ys, I64P y) → byt r ≠ rowB xs ++ (mulB ++ rowB ys)) ∧
    ∀ w, KP w → Calls Tryd.prog 60 #[.string r] w fun e w' => (∃ ax cx ay cy, e = .returned (.tuple #[.slice ax xs.length cx, .slice ay ys.length cy, .bool ok]) ∧ RowNew w' w.heap.size ax xs ∧ RowNew w' w.heap.size ay ys ∧ (ax = none → cx = 0) ∧ (ay = none → cy = 0)) ∧ Below w.heap.size w w' := by
  obtain ⟨LA, RB, MB, hM1, hM0, hLz, hRz, CM2⟩ : ∃ (LA RB : ByteArray) (MB : Bool), (MB = true → byt r = byt LA ++ (mulB ++ byt RB) ∧ ∀ p q, (195 : Int) ∉ p → byt r = p ++ (mulB ++ q) → byt LA = p ∧ byt RB = q) ∧ (MB = false → ∀ p q, byt r ≠ p ++ (mulB ++ q)) ∧ LA.size ≤ r.size ∧ RB.size ≤ r.size ∧ ∀ w, MaxL w → Calls Tryd.prog 44 #[.string r, .string ⟨#[195, 151]⟩] w fun e w' => e = .returned (.tuple #[.string LA, .string RB, .bool MB]) ∧ Drew w w' := by
    rcases cutp_mul_or (s := r) (by omega) with ⟨a, b, h1, h2, h3, C⟩ | ⟨h1, C⟩
    · exact ⟨a, b, true, fun _ => ⟨h1, h3⟩, (fun e => by cases e), by omega, by omega, C⟩
    · exact ⟨r, ⟨#[]⟩, false, (fun e => by cases e), fun _ => h1, Nat.le_refl _, Nat.zero_le _, C⟩
  obtain ⟨xs, okL, hL1, hL0, CNL⟩ := nums_p LA (by omega)
  obtain ⟨ys, okR, hR1, hR0, CNR⟩ := nums_p RB (by omega)
  refine ⟨xs, ys, MB && okL && okR, fun e => ?_, fun e => ?_, fun w hk => ?_⟩
  · cases MB with
    | false => cases e
    | true =>
      cases okL with
      | false => cases e
      | true =>
        cases okR with
        | false => cases e
        | true => exact ⟨(hL1 rfl).1, (hR1 rfl).1, by rw [(hM1 rfl).1, (hL1 rfl).2, (hR1 rfl).2]⟩
  · intro us vs hu hv q
    cases MB with
    | false => exact hM0 rfl _ _ q
    | true =>
      obtain ⟨m1, m2⟩ := (hM1 rfl).2 _ _ (no195 us) q
      cases okL with
      | false => exact hL0 rfl us hu m1
      | true =>
        cases okR with
        | false => exact hR0 rfl vs hv m2
        | true => cases e
  · have HK := hide hk
    have CL := fun w' (b : Below w.heap.size w w') => CNL w' (kp_below hk b)
    have CR := fun w' (b : Below w.heap.size w w') => CNR w' (kp_below hk b)
    have CM := CM2 w hk.2.1
    have HBR := hide (Below.refl w.heap.size w)
    clear CNL CNR CM2 hk hM1 hM0 hL1 hL0 hR1 hR0
    generalize hnx : xs.length = nx at *
    generalize hny : ys.length = ny at *
    go_enter Tryd.func60, Tryd.ntmps60
    go_wp2_with (first
      | (go_at_call 44; (with_reducible refine CM.mono ?_); rintro e w2 ⟨rfl, n2, rfl⟩)
      | (go_at_call 70; (with_reducible refine (CL _ (bdN HBR.out _)).mono ?_); rintro e w3 ⟨⟨ax, cx, rfl, hr1, hz1⟩, b3⟩; have HX := hide (And.intro hr1 hz1); have HB3 := hide (bt (bdN HBR.out _) b3); clear hr1 hz1 b3)
      | (go_at_call 70; (with_reducible refine (CR _ HB3.out).mono ?_); rintro e w4 ⟨⟨ay, cy, rfl, hr2, hz2⟩, b4⟩; have HX2 := hide (HX.out.1.below b4); have HY := hide (And.intro hr2 hz2); have HB4 := hide (bt HB3.out b4); clear hr2 hz2 b4))
    all_goals
      go_ret3
      exact ⟨⟨ax, cx, ay, cy, by simp [*], HX2.out, HY.out.1.mono HB3.out.size, HX.out.2, HY.out.2⟩, HB4.out⟩
theorem no_int (n : Int) : byt ⟨#[]⟩ ≠ intF n := fun e => intF_ne n e.symm
set_option maxHeartbeats 2000000 in
theorem resize_p (r : ByteArray) (hr : r.size ≤ 100000) : ∃ (wd ht fl : Int) (ok : Bool), (ok = true → I64P wd ∧ I64P ht ∧ (0 ≤ fl ∧ fl ≤ 2) ∧ byt r = intF wd ++ (mulB ++ (intF ht ++ 44 :: filtB fl))) ∧ (ok = false → ∀ wd ht fl, I64P wd → I64P ht → 0 ≤ fl ∧ fl ≤ 2 → byt r ≠ intF wd ++ (mulB ++ (intF ht ++ 44 :: filtB fl))) ∧
    ∀ w, KP w → Calls Tryd.prog 61 #[.string r] w fun e w' => e = .returned (.tuple #[.int .i64 wd, .int .i64 ht, .int .i64 fl, .bool ok]) ∧ Below w.heap.size w w' := by
  obtain ⟨LA, RB, MB, hM1, hM0, hLz, hRz, CM2⟩ : ∃ (LA RB : ByteArray) (MB : Bool), (MB = true → byt r = byt LA ++ (mulB ++ byt RB) ∧ ∀ p q, (195 : Int) ∉ p → byt r = p ++ (mulB ++ q) → byt LA = p ∧ byt RB = q) ∧ (MB = false → RB = ⟨#[]⟩ ∧ ∀ p q, byt r ≠ p ++ (mulB ++ q)) ∧ LA.size ≤ r.size ∧ RB.size ≤ r.size ∧ ∀ w, MaxL w → Calls Tryd.prog 44 #[.string r, .string ⟨#[195, 151]⟩] w fun e w' => e = .returned (.tuple #[.string LA, .string RB, .bool MB]) ∧ Drew w w' := by
    rcases cutp_mul_or (s := r) (by omega) with ⟨a, b, h1, h2, h3, C⟩ | ⟨h1, C⟩
    · exact ⟨a, b, true, fun _ => ⟨h1, h3⟩, (fun e => by cases e), by omega, by omega, C⟩
    · exact ⟨r, ⟨#[]⟩, false, (fun e => by cases e), fun _ => ⟨rfl, h1⟩, Nat.le_refl _, Nat.zero_le _, C⟩
  obtain ⟨H, FN, CBo, hC1, hC0, hHz, CC3⟩ : ∃ (H FN : ByteArray) (CBo : Bool), (CBo = true → byt RB = byt H ++ 44 :: byt FN ∧ (44 : Int) ∉ byt H) ∧ (CBo = false → H = RB ∧ FN = ⟨#[]⟩ ∧ (44 : Int) ∉ byt RB) ∧ H.size ≤ RB.size ∧ ∀ w, MaxL w → Calls Tryd.prog 44 #[.string RB, .string ⟨#[44]⟩] w fun e w' => e = .returned (.tuple #[.string H, .string FN, .bool CBo]) ∧ Drew w w' := by
    rcases cutp_or (c := 44) (by decide) (by decide) (s := RB) (by omega) with ⟨a, b, h1, h2, h3, C⟩ | ⟨h1, C⟩
    · exact ⟨a, b, true, fun _ => ⟨h1, h2⟩, (fun e => by cases e), by omega, C⟩
    · exact ⟨RB, ⟨#[]⟩, false, (fun e => by cases e), fun _ => ⟨rfl, rfl, h1⟩, Nat.le_refl _, C⟩
  obtain ⟨wd, okw, hW1, hW0, CNW⟩ := cnt_p LA (by omega)
  obtain ⟨ht, okh, hH1, hH0, CNH⟩ := cnt_p H (by omega)
  obtain ⟨fl, okf, hF1, hF0, CFN⟩ := fnamed_p FN
  refine ⟨wd, ht, fl, okw && okh && okf, fun e => ?_, fun e => ?_, fun w hk => ?_⟩
  · cases okw with
    | false => cases e
    | true =>
      cases okh with
      | false => cases e
      | true =>
        cases okf with
        | false => cases e
        | true =>
          have hC : CBo = true := by
            cases CBo with
            | true => rfl
            | false =>
              obtain ⟨_, h2, _⟩ := hC0 rfl
              have := (hF1 rfl).2
              rw [h2] at this
              have hlen := congrArg List.length this
              have : 1 ≤ (filtB fl).length := by
                rcases (show fl = 0 ∨ fl = 1 ∨ fl = 2 by have := (hF1 rfl).1; omega) with rfl | rfl | rfl <;> decide
              rw [← hlen] at this
              exact absurd this (by decide)
          obtain ⟨c1, c2⟩ := hC1 hC
          have hM : MB = true := by
            cases MB with
            | true => rfl
            | false =>
              have h2 := congrArg List.length c1
              rw [(hM0 rfl).1, List.length_append, List.length_cons] at h2
              exact absurd h2 (by show ¬ 0 = _; omega)
          exact ⟨(hW1 rfl).1, (hH1 rfl).1, (hF1 rfl).1, by rw [(hM1 hM).1, c1, (hW1 rfl).2, (hH1 rfl).2, (hF1 rfl).2]⟩
  · intro a b f ha hb hf q
    cases MB with
    | false => exact (hM0 rfl).2 _ _ q
    | true =>
      obtain ⟨m1, m2⟩ := (hM1 rfl).2 _ _ (no195i a) q
      cases okw with
      | false => exact hW0 rfl a ha m1
      | true =>
        cases CBo with
        | false => exact (hC0 rfl).2.2 (by rw [m2]; exact List.mem_append.2 (.inr List.mem_cons_self))
        | true =>
          obtain ⟨c1, c2⟩ := hC1 rfl
          obtain ⟨e1, e2⟩ := first_inj c2 (no44 b) (c1.symm.trans m2)
          cases okh with
          | false => exact hH0 rfl b hb e1
          | true =>
            cases okf with
            | false => exact hF0 rfl f hf e2
            | true => cases e
  · have HK := hide hk
    have CL := fun w' (b : Below w.heap.size w w') => CNW w' (kp_below hk b)
    have CR := fun w' (b : Below w.heap.size w w') => CNH w' (kp_below hk b)
    have CF := fun w' (b : Below w.heap.size w w') => CFN w' (kp_below hk b)
    have CM := fun w' (b : Below w.heap.size w w') => CM2 w' (kp_below hk b).2.1
    have CC := fun w' (b : Below w.heap.size w w') => CC3 w' (kp_below hk b).2.1
    have HBR := hide (Below.refl w.heap.size w)
    have HBN := hide (fun n => bdN (Below.refl w.heap.size w) n)
    clear CNW CNH CFN CM2 CC3 hk hM1 hM0 hC1 hC0 hW1 hW0 hH1 hH0 hF1 hF0
    go_enter Tryd.func61, Tryd.ntmps61
    go_wp2_with (first
      | (go_at_call 44; (with_reducible refine (CM _ HBR.out).mono ?_); rintro e w2 ⟨rfl, n2, rfl⟩; clear HBR CM)
      | (go_at_call 44; (with_reducible refine (CC _ (HBN.out n2)).mono ?_); rintro e w3 ⟨rfl, n3, rfl⟩; have HB2 := hide (HBN.out (n2 + n3)); clear CC HBN)
      | (go_at_call 59; (with_reducible refine (CL _ HB2.out).mono ?_); rintro e w4 ⟨rfl, b4⟩; have HB3 := hide (bt HB2.out b4); clear b4 HB2)
      | (go_at_call 59; (with_reducible refine (CR _ HB3.out).mono ?_); rintro e w5 ⟨rfl, b5⟩; have HB4 := hide (bt HB3.out b5); clear b5 HB3)
      | (go_at_call 71; (with_reducible refine (CF _ HB4.out).mono ?_); rintro e w6 ⟨rfl, b6⟩; have HB5 := hide (bt HB4.out b6); clear b6 HB4))
    all_goals
      exact bodyPost_ret (v := .tuple #[.int .i64 wd, .int .i64 ht, .int .i64 fl, .bool (okw && okh && okf)]) (by simp [results, Tryd.results61, go_sem, *]) rfl ⟨rfl, HB5.out⟩
end Go.Proofs.YtlknopmpbkepjaaDoor
