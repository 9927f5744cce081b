/- Parts, joined. -/
import Derived.Test.YtclgghhpiljgfaaGreatDoorJ38
/- Operations: each stage is for what the one ahead leads to: the law on chains. -/
namespace Go.Proofs.YtclgghhpiljgfaaGreatDoor
open Go.RowKit


theorem stg_len {o : Opr} {a b : Int} (h : opCode o a b = 0) : ((stgOf o a b).lx.length : Int) = toW o a ∧ ((stgOf o a b).ly.length : Int) = toH o b := by
  have ho : okO o a b = true := by
    cases e : okO o a b with
    | true => rfl
    | false =>
      unfold opCode at h
      rw [if_pos e] at h
      cases h
  obtain ⟨_, _, ⟨a0, a1⟩, ⟨b0, b1⟩, hr⟩ := (okO_iff o a b).1 ho
  unfold toW toH
  by_cases k : o.kd = 3
  · obtain ⟨⟨w0, _⟩, ⟨t0, _⟩, _⟩ := hr k
    have e1 : (stgOf o a b).lx = linesTo o.fl a o.wd o.wd.toNat := if_pos k
    have e2 : (stgOf o a b).ly = linesTo o.fl b o.ht o.ht.toNat := if_pos k
    rw [e1, e2, linesTo_len, linesTo_len, if_pos k, if_pos k]
    omega
  · have e1 : (stgOf o a b).lx = filTo (wX o) a.toNat := if_neg k
    have e2 : (stgOf o a b).ly = filTo (wY o) b.toNat := if_neg k
    rw [e1, e2, filTo_len, filTo_len, if_neg k, if_neg k]
    omega
theorem all_zero {L : List Opr} {a b c : Int} (h : allCode L a b c = 0) {j : Nat} (hj : j < L.length) : opCode (opAt L j) (whAt L a b j).1 (whAt L a b j).2 = 0 := by
  have e0 : firstA L a b c L.length = 0 := by
    unfold allCode at h
    by_cases g : 16 < L.length
    · rw [if_pos g] at h; cases h
    · rw [if_neg g] at h
      by_cases g2 : fitsF a b c = false
      · rw [if_pos g2] at h; cases h
      · rw [if_neg g2] at h; exact h
  have := (firstA_back e0 hj).2
  by_cases g : opCode (opAt L j) (whAt L a b j).1 (whAt L a b j).2 = 0
  · exact g
  · rw [step_op g] at this; exact absurd this g
set_option maxHeartbeats 2000000 in
set_option maxRecDepth 100000 in
theorem chains_far {K : World → Prop} (hKB : ∀ w w', K w → Below w.heap.size w w' → K w') (CL : ∀ w, K w → Calls Tryz.prog 8 #[] w fun e w' => e = .returned (.bool true) ∧ Below w.heap.size w w') (L : List Opr) (n : Nat) (hn : L.length = n) (h1 : n ≤ maxLen) (ad : Option Addr) (cap : Nat) (a b : Int) (w : World) (hk : K w) (hr : OpsAt w ad L)
    (h : 18 < n ∨ bigB 20 L n = true) :
    Calls Tryz.prog 6 #[.slice ad n cap, .int .u8 a, .int .u8 b] w fun e w' => e = .returned (.bool true) ∧ Below w.heap.size w w' := by
  have hm : n ≤ 9223372036854775807 := h1
  have CLT := fun w' (b : Below w.heap.size w w') => little_any L n hn h1 20 ad cap w' (hr.below b)
  have CK : ∀ w', Below w.heap.size w w' → K w' := fun w' b => hKB w w' hk b
  have hab : ((18 : Int) < (n : Int)) ∨ ((n : Int) ≤ 18 ∧ bigB 20 L n = true) := by
    by_cases g : 18 < n
    · exact .inl (by omega)
    · exact .inr ⟨by omega, h.resolve_left g⟩
  generalize bigB 20 L n = bb at *
  clear h hk hr hn h1
  rcases hab with c0 | ⟨c0, rfl⟩
  · go_enter Tryz.func6, Tryz.ntmps6
    go_wp2_with (first
      | (go_at_call 8; (with_reducible refine (CL w (CK _ (Below.refl _ _))).mono ?_); rintro e w1 ⟨rfl, b1⟩)
      | (go_at_call 8; (with_reducible refine (CL w1 (CK _ b1)).mono ?_); rintro e w2 ⟨rfl, b2⟩))
    go_ret
    exact ⟨rfl, bt b1 b2⟩
  · go_enter Tryz.func6, Tryz.ntmps6
    go_wp2_with (first
      | (go_at_call 8; (with_reducible refine (CL w (CK _ (Below.refl _ _))).mono ?_); rintro e w1 ⟨rfl, b1⟩)
      | (go_at_call 12; (with_reducible refine (CLT _ b1).mono ?_); rintro e w2 ⟨rfl, b2⟩)
      | (go_at_call 8; (with_reducible refine (CL w2 (CK _ (bt b1 b2))).mono ?_); rintro e w3 ⟨rfl, b3⟩))
    go_ret
    exact ⟨rfl, bt (bt b1 b2) b3⟩
set_option maxHeartbeats 4000000 in
set_option maxRecDepth 100000 in
theorem of_OpChains {K : World → Prop} (hKB : ∀ w w', K w → Below w.heap.size w w' → K w') (hKK : ∀ w, K w → Kinds w) (CM : OMakeC K) (CS : OSizeC K) (CA : OAllC K) (L : List Opr) (n : Nat) (hn : L.length = n) (h1 : n ≤ maxLen) (ad : Option Addr) (cap : Nat) (a b : Int) (w : World) (hk : K w) (hr : OpsAt w ad L) (hF : OpsFit L) (hz : ad = none → cap = 0) (ha : 0 ≤ a ∧ a ≤ 255) (hb : 0 ≤ b ∧ b ≤ 255) :
    Calls Tryz.prog 6 #[.slice ad n cap, .int .u8 a, .int .u8 b] w fun e w' => e = .returned (.bool true) ∧ Below w.heap.size w w' := by
  have CL : ∀ w, K w → Calls Tryz.prog 8 #[] w fun e w' => e = .returned (.bool true) ∧ Below w.heap.size w w' := fun w hk => olives hKB hKK CM w hk
  by_cases hfar : 18 < n ∨ bigB 20 L n = true
  · exact chains_far hKB CL L n hn h1 ad cap a b w hk hr hfar
  have hbb : bigB 20 L n = false := by
    cases e : bigB 20 L n with
    | false => rfl
    | true => exact absurd (.inr e) hfar
  have hm : n ≤ 9223372036854775807 := h1
  have h18 : (n : Int) ≤ 18 := by omega
  have CLT := fun w' (b : Below w.heap.size w w') => little_any L n hn h1 20 ad cap w' (hr.below b)
  rw [hbb] at CLT
  have HK := hide (fun w' (b : Below w.heap.size w w') => hKB w w' hk b)
  obtain ⟨p, hp⟩ : ∃ p : Int, 1 + a % 20 = p := ⟨_, rfl⟩
  obtain ⟨q, hq⟩ : ∃ q : Int, 1 + b % 20 = q := ⟨_, rfl⟩
  have hp1 : 1 ≤ p ∧ p ≤ 20 := by omega
  have hq1 : 1 ≤ q ∧ q ≤ 20 := by omega
  have ra : 0 ≤ a % 20 ∧ a % 20 < 20 := by omega
  have rb : 0 ≤ b % 20 ∧ b % 20 < 20 := by omega
  have CA1 := fun w' (b' : Below w.heap.size w w') => CA L ad cap p q 1 w' (hKB w w' hk b') (hr.below b') hF (by rw [hn]; exact h1) hz (by unfold In64; omega) (by unfold In64; omega) (by unfold In64; omega)
  rw [hn] at CA1
  obtain ⟨a0, a1⟩ := ha
  obtain ⟨b0, b1⟩ := hb
  by_cases hcz : allCode L p q 1 = 0
  · have CA2 : ∀ w', Below w.heap.size w w' → Calls Tryz.prog 18 #[.slice ad n cap, .int .i64 p, .int .i64 q, .int .i64 1] w' fun e w'' => (∃ ad3 cap3, e = .returned (.tuple #[.slice ad3 n cap3, .int .i64 0]) ∧ StgsAt w'' ad3 n (stgAt L p q)) ∧ Below w'.heap.size w' w'' := fun w' b' =>
      (CA1 w' b').mono fun e w'' ⟨hA, hB⟩ => by
        rcases hA with ⟨h0, _⟩ | ⟨_, x, y, he, hs⟩
        · exact absurd hcz h0
        · exact ⟨⟨x, y, he, hs⟩, hB⟩
    have HST := hide (fun j (hj : j < n) => stg_len (all_zero hcz (show j < L.length by rw [hn]; exact hj)))
    have HR := hide hr
    have HN := hide hn
    clear CA CA1 CM hr hF hz hcz hbb hfar hk hn h1 hKB hKK
    go_enter Tryz.func6, Tryz.ntmps6
    go_wp2_with (first
      | (go_at_call 8; (with_reducible refine (CL w (HK.out _ (Below.refl _ _))).mono ?_); rintro e w1 ⟨rfl, b1⟩)
      | (go_at_call 12; (with_reducible refine (CLT _ b1).mono ?_); rintro e w2 ⟨rfl, b2⟩)
      | (go_at_call 18; (with_reducible refine (CA2 _ (bt b1 b2)).mono ?_); rintro e w3 ⟨⟨ad3, cap3, rfl, hs3⟩, b3⟩; have HS3 := hide hs3; clear hs3))
    have HB := hide (bt (bt b1 b2) b3)
    clear b1 b2 b3 CLT CA2 CL
    go_loopw [7, 8, 53] (fun u v i wr => ∃ k : Nat, k ≤ n ∧ i = .int .i64 (k : Int) ∧ u = .int .i64 (whAt L p q k).1 ∧ v = .int .i64 (whAt L p q k).2 ∧ Below w3.heap.size w3 wr) (fun _ _ i _ => n - (intOf i).toNat)
    case atStart => exact ⟨0, by omega, rfl, rfl, rfl, Below.refl _ _⟩
    case round =>
      obtain ⟨k, hkn, rfl, rfl, rfl, hb⟩ := hrel
      have HBR := hide hb
      by_cases hlt : k < n
      · obtain ⟨b3, o3, rfl, x, y, c0, c1, c2, tx, ty⟩ := (HS3.out.below hb).get hlt
        obtain ⟨bl, off, rfl, hop⟩ := HR.out.get (show k < L.length by rw [HN.out]; exact hlt)
        obtain ⟨g0, g1, g2, g3, g6, g7, g8, ax, cx, ay, cy, g4, g5, ga⟩ := hop.below (bt HB.out hb)
        obtain ⟨gx, rfl⟩ := tx.ptr
        obtain ⟨gy, rfl⟩ := ty.ptr
        obtain ⟨e1, e2⟩ := HST.out k hlt
        replace e1 : ((stgAt L p q k).lx.length : Int) = toW (opAt L k) (whAt L p q k).1 := e1
        replace e2 : ((stgAt L p q k).ly.length : Int) = toH (opAt L k) (whAt L p q k).2 := e2
        have CF1 := fun (W : World) (b : Below wr.heap.size wr W) => tab_from (tx.below b)
        have CF2 := fun (W : World) (b : Below wr.heap.size wr W) => tab_from (ty.below b)
        have CT1 := fun (W : World) (b : Below wr.heap.size wr W) => tab_to (tx.below b)
        have CT2 := fun (W : World) (b : Below wr.heap.size wr W) => tab_to (ty.below b)
        have CZ := fun w' (hk : K w') => CS (opAt L k) ax cx ay cy (whAt L p q k).1 (whAt L p q k).2 w' hk
        rw [e1] at CT1
        rw [e2] at CT2
        rw [show (stgAt L p q k).fx = (whAt L p q k).1 from rfl] at CF1
        rw [show (stgAt L p q k).fy = (whAt L p q k).2 from rfl] at CF2
        rw [show (stgAt L p q k).sb = (opAt L k).bd from rfl] at c2
        rw [show toW (opAt L k) (whAt L p q k).1 = (whAt L p q (k + 1)).1 from rfl] at CZ CT1
        rw [show toH (opAt L k) (whAt L p q k).2 = (whAt L p q (k + 1)).2 from rfl] at CZ CT2
        have q1 : ∀ w : World, (binOp .eql 30 (.pointer (some gx)) (.pointer none)).run Tryz.prog w = .ok (.bool false) w := fun w => by kernel_rfl
        have q2 : ∀ w : World, (binOp .eql 30 (.pointer (some gy)) (.pointer none)).run Tryz.prog w = .ok (.bool false) w := fun w => by kernel_rfl
        unfold opV at CZ
        have HKR := hide (fun w' (b' : Below wr.heap.size wr w') => HK.out w' (bt (bt HB.out hb) b'))
        clear tx ty e1 e2 ga hb hop HST CS
        have HW1 := hide (show (whAt L p q (k + 1)).1 = (whAt L p q (k + 1)).1 from rfl)
        generalize (opAt L k).kd = kd at *
        generalize (opAt L k).bd = bo at *
        generalize (opAt L k).sg = sg at *
        generalize (opAt L k).rd = rd at *
        generalize (opAt L k).xs.length = nx at *
        generalize (opAt L k).ys.length = ny at *
        generalize (opAt L k).fl = fl at *
        generalize (opAt L k).wd = wd at *
        generalize (opAt L k).ht = ht at *
        have qa : ((whAt L p q k).1 != (whAt L p q k).1) = false := by simp
        have qb : ((whAt L p q k).2 != (whAt L p q k).2) = false := by simp
        have qc : ((whAt L p q (k + 1)).1 != (whAt L p q (k + 1)).1) = false := by simp
        have qd : ((whAt L p q (k + 1)).2 != (whAt L p q (k + 1)).2) = false := by simp
        have qe : (bo != bo) = false := by simp
        have X0 := hide (S3new wr 32 (.pointer (some gx)) (.pointer (some gy)) (.int .i64 bo))
        go_wp2_with (first
          | (go_at_call 21; (with_reducible refine (CF1 _ (below1 _ _)).mono ?_); rintro e w4 ⟨rfl, b4⟩; have X4 := t3_below X0.out b4; obtain ⟨x0, x1, x2⟩ := X4)
          | (go_at_call 21; (with_reducible refine (CF2 _ (bt (below1 _ _) b4)).mono ?_); rintro e w5 ⟨rfl, b5⟩; have HX5 := hide (t3_below ⟨x0, x1, x2⟩ b5); have B5 := hide (bt (bt (below1 wr (.cells #[.pointer (some gx), .pointer (some gy), .int .i64 bo] 32)) b4) b5); have h0 := cb B5.out (cell_ltL g0) g0; have h1 := cb B5.out (cell_ltL g0) g1; have h2 := cb B5.out (cell_ltL g0) g2; have h3 := cb B5.out (cell_ltL g0) g3; have h4 := cb B5.out (cell_ltL g0) g4; have h5 := cb B5.out (cell_ltL g0) g5; have h6 := cb B5.out (cell_ltL g0) g6; have h7 := cb B5.out (cell_ltL g0) g7; have h8 := cb B5.out (cell_ltL g0) g8)
          | (go_at_call 15; (with_reducible refine (CZ _ (HKR.out _ B5.out)).mono ?_); rintro e w6 ⟨rfl, b6⟩; have X6 := t3_below HX5.out b6; obtain ⟨z0, z1, z2⟩ := X6; have B6 := hide (bt B5.out b6); have k1 := cb B6.out (cell_ltL g0) g1))
        go_region_held3 (fun w' => w'.cell? ⟨wr.heap.size, 0, none⟩ = some (.pointer (some gx)) ∧ w'.cell? ⟨wr.heap.size, 1, none⟩ = some (.pointer (some gy)) ∧ w'.cell? ⟨wr.heap.size, 2, none⟩ = some (.int .i64 bo) ∧ w'.cell? ⟨bl, off + k * 9 + 1, none⟩ = some (.int .i64 bo)) (first | assumption | go_keep)
          (first
            | (go_at_call 22; (with_reducible refine (CT1 _ (bd B6.out)).mono ?_); rintro e w7 ⟨rfl, b7⟩; have D7 := hide (show Below w6.heap.size w6 w7 from bt (bd (Below.refl _ _)) b7); have y7 := And.intro (cb D7.out (cell_ltL z0) z0) (And.intro (cb D7.out (cell_ltL z0) z1) (And.intro (cb D7.out (cell_ltL z0) z2) (cb D7.out (cell_ltL k1) k1))))
            | (go_at_call 22; (with_reducible refine (CT2 _ (bt (bd B6.out) b7)).mono ?_); rintro e w8 ⟨rfl, b8⟩; have D8 := hide (show Below w6.heap.size w6 w8 from bt D7.out b8); have y8 := And.intro (cb D8.out (cell_ltL z0) z0) (And.intro (cb D8.out (cell_ltL z0) z1) (And.intro (cb D8.out (cell_ltL z0) z2) (cb D8.out (cell_ltL k1) k1)))))
        go_wp2
        go_roundw
        case rel => exact ⟨k + 1, by omega, by go_num, rfl, rfl, bt (bt HBR.out B6.out) D8.out⟩
        case measure => simp [intOf]; omega
      · obtain rfl : k = n := by omega
        clear hb
        go_wp2
        go_ret
        exact ⟨rfl, bt HB.out HBR.out⟩
  · have CA2 : ∀ w', Below w.heap.size w w' → Calls Tryz.prog 18 #[.slice ad n cap, .int .i64 p, .int .i64 q, .int .i64 1] w' fun e w'' => (∃ ad3 cap3, e = .returned (.tuple #[.slice ad3 0 cap3, .int .i64 (allCode L p q 1)])) ∧ Below w'.heap.size w' w'' := fun w' b' =>
      (CA1 w' b').mono fun e w'' ⟨hA, hB⟩ => by
        rcases hA with ⟨_, x, y, he⟩ | ⟨h0, _⟩
        · exact ⟨⟨x, y, he⟩, hB⟩
        · exact absurd h0 hcz
    have qk : (allCode L p q 1 != 0) = true := bne_iff_ne.2 hcz
    clear CA CA1 CM CS hr hF hz hcz hbb hfar hk hn h1 hKB hKK
    generalize allCode L p q 1 = kc at *
    go_enter Tryz.func6, Tryz.ntmps6
    go_wp2_with (first
      | (go_at_call 8; (with_reducible refine (CL w (HK.out _ (Below.refl _ _))).mono ?_); rintro e w1 ⟨rfl, b1⟩)
      | (go_at_call 12; (with_reducible refine (CLT _ b1).mono ?_); rintro e w2 ⟨rfl, b2⟩)
      | (go_at_call 18; (with_reducible refine (CA2 _ (bt b1 b2)).mono ?_); rintro e w3 ⟨⟨ad3, cap3, rfl⟩, b3⟩))
    go_ret
    exact ⟨rfl, bt (bt b1 b2) b3⟩
end Go.Proofs.YtclgghhpiljgfaaGreatDoor
