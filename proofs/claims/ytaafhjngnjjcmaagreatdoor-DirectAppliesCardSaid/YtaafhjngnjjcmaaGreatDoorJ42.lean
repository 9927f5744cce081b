/- Parts, joined. -/
import Derived.Test.YtaafhjngnjjcmaaGreatDoorJ36
import Derived.Test.YtaafhjngnjjcmaaGreatDoorJ32
import Derived.Test.YtaafhjngnjjcmaaGreatDoorJ27
import Derived.Test.YtaafhjngnjjcmaaGreatDoorJ40
import Derived.Test.YtaafhjngnjjcmaaGreatDoorJ41
import Derived.Test.YtaafhjngnjjcmaaGreatDoorJ25
import Derived.Test.YtaafhjngnjjcmaaGreatDoorJ29
/- Operations: the program's All. -/
namespace Go.Proofs.YtaafhjngnjjcmaaGreatDoor
open Go.RowKit


theorem infoStgT : (Tryz.prog.info? 44).map (fun i => (i.zero, i.size, i.bytes)) = some (some (.agg #[.pointer none, .pointer none, .int .i64 0]), 3, 24) := by kernel_rfl
/-- The program's stages so far, in a block of so many. -/
def StgFill (w : World) (h n k : Nat) (F : Nat → Stg) : Prop :=
  (∀ j, j < n * 3 → (∃ v, w.cell? ⟨h, j, none⟩ = some v) ∧ w.frozen? ⟨h, j, none⟩ = false) ∧ (0 < n → ∃ p, w.cell? ⟨h, 0, none⟩ = some (.pointer p)) ∧
  ∀ j, j < k → ∃ x y, w.cell? ⟨h, j * 3, none⟩ = some x ∧ w.cell? ⟨h, j * 3 + 1, none⟩ = some y ∧ w.cell? ⟨h, j * 3 + 2, none⟩ = some (.int .i64 (F j).sb) ∧ Tab w x (F j).fx (F j).lx ∧ Tab w y (F j).fy (F j).ly
theorem StgFill.below {w w' : World} {h n k : Nat} {F : Nat → Stg} (s : StgFill w h n k F) (hb : Below w.heap.size w w') : StgFill w' h n k F := by
  obtain ⟨s1, s2, s3⟩ := s
  refine ⟨fun j hj => ?_, fun h0 => ?_, fun j hj => ?_⟩
  · obtain ⟨⟨v, c⟩, f⟩ := s1 j hj
    exact ⟨⟨v, cb hb (cell_ltL c) c⟩, fb hb (cell_ltL c) f⟩
  · obtain ⟨p, c⟩ := s2 h0
    exact ⟨p, cb hb (cell_ltL c) c⟩
  · obtain ⟨x, y, c0, c1, c2, tx, ty⟩ := s3 j hj
    exact ⟨x, y, cb hb (cell_ltL c0) c0, cb hb (cell_ltL c0) c1, cb hb (cell_ltL c0) c2, tx.below hb, ty.below hb⟩
theorem StgFill.room {w : World} {h n k : Nat} {F : Nat → Stg} (s : StgFill w h n k F) (hk : k < n) :
    ((∃ v, w.cell? ⟨h, k * 3, none⟩ = some v) ∧ w.frozen? ⟨h, k * 3, none⟩ = false) ∧ ((∃ v, w.cell? ⟨h, k * 3 + 1, none⟩ = some v) ∧ w.frozen? ⟨h, k * 3 + 1, none⟩ = false) ∧ (∃ v, w.cell? ⟨h, k * 3 + 2, none⟩ = some v) ∧ w.frozen? ⟨h, k * 3 + 2, none⟩ = false :=
  ⟨s.1 _ (by omega), s.1 _ (by omega), s.1 _ (by omega)⟩
/-- One stage more. -/
theorem StgFill.more {w : World} {h n k : Nat} {F : Nat → Stg} (s : StgFill w h n k F) (hk : k < n) {gx gy : Addr} (tx : Tab w (.pointer (some gx)) (F k).fx (F k).lx) (ty : Tab w (.pointer (some gy)) (F k).fy (F k).ly) :
    StgFill (((w.setCell ⟨h, k * 3, none⟩ (.pointer (some gx))).setCell ⟨h, k * 3 + 1, none⟩ (.pointer (some gy))).setCell ⟨h, k * 3 + 2, none⟩ (.int .i64 (F k).sb)) h n (k + 1) F := by
  obtain ⟨s1, s2, s3⟩ := s
  obtain ⟨p, hp⟩ := s2 (by omega)
  have KT : ∀ {v : Value} {m : Int} {L : List (Int × List Int)}, Tab w v m L → Tab (((w.setCell ⟨h, k * 3, none⟩ (.pointer (some gx))).setCell ⟨h, k * 3 + 1, none⟩ (.pointer (some gy))).setCell ⟨h, k * 3 + 2, none⟩ (.int .i64 (F k).sb)) v m L := fun t => by
    refine t.kept (((grown_set w h (k * 3) (.pointer (some gx))).trans (grown_set _ h (k * 3 + 1) (.pointer (some gy)))).trans (grown_set _ h (k * 3 + 2) (.int .i64 (F k).sb))) (fun b x e c => ?_)
    obtain rfl := Option.some.inj e
    rw [hp] at c
    cases c
  have E : ∀ j, j ≠ k * 3 → j ≠ k * 3 + 1 → j ≠ k * 3 + 2 → (((w.setCell ⟨h, k * 3, none⟩ (.pointer (some gx))).setCell ⟨h, k * 3 + 1, none⟩ (.pointer (some gy))).setCell ⟨h, k * 3 + 2, none⟩ (.int .i64 (F k).sb)).cell? ⟨h, j, none⟩ = w.cell? ⟨h, j, none⟩ := fun j a b c =>
    (set_apart (Or.inr (Ne.symm c))).trans ((set_apart (Or.inr (Ne.symm b))).trans (set_apart (Or.inr (Ne.symm a))))
  obtain ⟨⟨⟨v0, c0⟩, _⟩, ⟨⟨v1, c1⟩, _⟩, ⟨v2, c2⟩, _⟩ := StgFill.room (k := k) ⟨s1, s2, s3⟩ hk
  have E0 : (((w.setCell ⟨h, k * 3, none⟩ (.pointer (some gx))).setCell ⟨h, k * 3 + 1, none⟩ (.pointer (some gy))).setCell ⟨h, k * 3 + 2, none⟩ (.int .i64 (F k).sb)).cell? ⟨h, k * 3, none⟩ = some (.pointer (some gx)) :=
    (set_apart (Or.inr (by omega))).trans ((set_apart (Or.inr (by omega))).trans (World.cell?_setCell_same' _ _ _ (by rw [c0]; rfl)))
  have E1 : (((w.setCell ⟨h, k * 3, none⟩ (.pointer (some gx))).setCell ⟨h, k * 3 + 1, none⟩ (.pointer (some gy))).setCell ⟨h, k * 3 + 2, none⟩ (.int .i64 (F k).sb)).cell? ⟨h, k * 3 + 1, none⟩ = some (.pointer (some gy)) :=
    (set_apart (Or.inr (by omega))).trans (World.cell?_setCell_same' _ _ _ (by rw [set_apart (Or.inr (by omega)), c1]; rfl))
  have E2 : (((w.setCell ⟨h, k * 3, none⟩ (.pointer (some gx))).setCell ⟨h, k * 3 + 1, none⟩ (.pointer (some gy))).setCell ⟨h, k * 3 + 2, none⟩ (.int .i64 (F k).sb)).cell? ⟨h, k * 3 + 2, none⟩ = some (.int .i64 (F k).sb) :=
    World.cell?_setCell_same' _ _ _ (by rw [set_apart (Or.inr (by omega)), set_apart (Or.inr (by omega)), c2]; rfl)
  refine ⟨fun j hj => ?_, fun _ => ?_, fun j hj => ?_⟩
  · simp only [World.frozen?_setCell]
    refine ⟨?_, (s1 j hj).2⟩
    by_cases a : j = k * 3
    · subst a; exact ⟨_, E0⟩
    by_cases b : j = k * 3 + 1
    · subst b; exact ⟨_, E1⟩
    by_cases c : j = k * 3 + 2
    · subst c; exact ⟨_, E2⟩
    rw [E j a b c]
    exact (s1 j hj).1
  · by_cases a : k = 0
    · subst a; exact ⟨_, E0⟩
    · rw [E 0 (by omega) (by omega) (by omega)]
      exact ⟨p, hp⟩
  · by_cases e : j = k
    · subst e
      exact ⟨_, _, E0, E1, E2, KT tx, KT ty⟩
    · obtain ⟨x, y, d0, d1, d2, t1, t2⟩ := s3 j (by omega)
      exact ⟨x, y, (E _ (by omega) (by omega) (by omega)).trans d0, (E _ (by omega) (by omega) (by omega)).trans d1, (E _ (by omega) (by omega) (by omega)).trans d2, KT t1, KT t2⟩
/-- What 'make' makes of stages. -/
theorem makeSt (n : Nat) (h : n ≤ 1048576) : ∃ zs : Array Value, (∀ w : World, (Instr.makeSlice 30 (.int .i64 (n : Int)) (.int .i64 (n : Int))).run Tryz.prog w = .ok (.slice (some ⟨w.heap.size, 0, none⟩) n n) (w.alloc (.cells zs 44))) ∧ (∀ (w : World) (F : Nat → Stg), StgFill (w.alloc (.cells zs 44)) w.heap.size n 0 F) := by
  obtain ⟨i0, hi, hz0, hz1, hz2⟩ := info_parts infoStgT
  have hm : (n : Int) ≤ 9223372036854775807 := by omega
  refine ⟨madeCells (Value.agg #[.pointer none, .pointer none, .int .i64 0]).cells (n * i0.size), fun w => ?_, fun w F => ?_⟩
  · have hr := run_make (P := Tryz.prog) w 30 44 i0 (.agg #[.pointer none, .pointer none, .int .i64 0]) Tryz.underlying30 hi hz0 .i64 .i64 n n (by omega) (Int.le_refl _) (by rw [hz2]; omega) hm
    simpa only [Int.toNat_natCast] using hr
  · rw [hz1]
    have ho : (w.alloc (.cells (madeCells (Value.agg #[.pointer none, .pointer none, .int .i64 0]).cells (n * 3)) 44)).ownsRow 0 44 3 (.slice (some ⟨w.heap.size, 0, none⟩) n n) n (madeCells (Value.agg #[.pointer none, .pointer none, .int .i64 0]).cells (n * 3)).toList :=
      World.ownsRow_lit w _ n (Nat.zero_le _) (by unfold maxLen; omega) (by rw [size_madeCells])
    have hl := ho.1
    refine ⟨fun j hj => ⟨?_, ho.frozenAt j⟩, fun h0 => ⟨none, ?_⟩, fun j hj => absurd hj (Nat.not_lt_zero _)⟩
    · rw [ho.cellAt j hj]
      exact ⟨_, List.getElem?_eq_getElem (by omega)⟩
    · rw [ho.cellAt 0 (by omega)]
      have h3 : 0 < n * 3 := by omega
      simp [madeCells, Value.cells, h3]
theorem StgFill.at {w : World} {h n : Nat} {F : Nat → Stg} (s : StgFill w h n n F) : StgsAt w (some ⟨h, 0, none⟩) n F := by
  refine .inr ⟨h, 0, rfl, fun j hj => ?_⟩
  rw [Nat.zero_add]
  exact s.2.2 j hj
set_option maxHeartbeats 4000000 in
set_option maxRecDepth 100000 in
theorem oall_n (L : List Opr) (n : Nat) (hn : L.length = n) (h1 : n ≤ maxLen) (ad : Option Addr) (cap : Nat) (a b c : Int) (w : World) (hk : OpK w) (hr : OpsAt w ad L) (hF : OpsFit L) (ha : In64 a) (hb : In64 b) :
    Calls Tryz.prog 40 #[.slice ad n cap, .int .i64 a, .int .i64 b, .int .i64 c] w fun e w' => AllAns e w' (allCode L a b c) n (stgAt L a b) ∧ Below w.heap.size w w' := by
  have hm : n ≤ 9223372036854775807 := h1
  by_cases h16 : 16 < n
  · have e : allCode L a b c = 6 := if_pos (by rw [hn]; exact h16)
    rw [e]
    have HA := hide (fun (w' : World) => show AllAns (.returned (.tuple #[.slice none 0 0, .int .i64 6])) w' 6 n (stgAt L a b) from .inl ⟨by decide, none, 0, rfl⟩)
    clear hr hF hn h1 e ha hb hk
    go_enter Tryz.func40, Tryz.ntmps40
    go_wp2
    exact bodyPost_ret (v := .tuple #[.slice none 0 0, .int .i64 6]) (by simp [results, Tryz.results40, go_sem]) rfl ⟨HA.out _, Below.refl _ _⟩
  have CFT := fun w => rfits_any a b c w
  by_cases hft : fitsF a b c = true
  case neg =>
    have e : allCode L a b c = 5 := (if_neg (by rw [hn]; exact h16)).trans (if_pos (by simpa using hft))
    rw [e]
    have HA := hide (fun (w' : World) => show AllAns (.returned (.tuple #[.slice none 0 0, .int .i64 5])) w' 5 n (stgAt L a b) from .inl ⟨by decide, none, 0, rfl⟩)
    rw [show fitsF a b c = false by simpa using hft] at CFT
    clear hr hF hn h1 e hft ha hb hk
    go_enter Tryz.func40, Tryz.ntmps40
    go_wp2_with (go_at_call 73; (with_reducible refine (CFT _).mono ?_); rintro e w1 ⟨rfl, rfl⟩)
    exact bodyPost_ret (v := .tuple #[.slice none 0 0, .int .i64 5]) (by simp [results, Tryz.results40, go_sem]) rfl ⟨HA.out _, Below.refl _ _⟩
  have e0 : allCode L a b c = firstA L a b c n := by
    unfold allCode
    rw [if_neg (by rw [hn]; exact h16), if_neg (by rw [hft]; decide), hn]
  rw [e0]
  have HBAD := hide (fun (k : Nat) (w' : World) (hk : k < n) (hf : firstA L a b c k = 0) (hs : stepCode L a b c k ≠ 0) => show AllAns (.returned (.tuple #[.slice none 0 0, .int .i64 (stepCode L a b c k)])) w' (firstA L a b c n) n (stgAt L a b) by
    rw [firstA_step hf hs hk]
    exact .inl ⟨hs, none, 0, rfl⟩)
  have HR := hide hr
  have HN := hide hn
  have HF := hide hF
  have HK := hide (fun (w' : World) (b' : Below w.heap.size w w') => opk_below w w' hk b')
  obtain ⟨zs, MK, MO⟩ := makeSt n (by omega)
  have HMO := hide MO
  have hfit0 : 1 ≤ a ∧ a ≤ 65536 ∧ 1 ≤ b ∧ b ≤ 65536 := ⟨(fits_side hft).1.1, (fits_side hft).1.2, (fits_side hft).2.1.1, (fits_side hft).2.1.2⟩
  have HG : Hid (∀ k, In64 (whAt L a b k).1 ∧ In64 (whAt L a b k).2 ∨ ¬ firstA L a b c k = 0 ∨ n < k) := hide (fun k => by
    induction k with
    | zero => exact .inl ⟨ha, hb⟩
    | succ k ih =>
      by_cases hkn : n < k + 1
      · exact .inr (.inr hkn)
      by_cases hz : firstA L a b c (k + 1) = 0
      · have hbk := firstA_back hz (show k < k + 1 by omega)
        have hst := hbk.2
        have ho : opCode (opAt L k) (whAt L a b k).1 (whAt L a b k).2 = 0 := by
          by_cases g : opCode (opAt L k) (whAt L a b k).1 (whAt L a b k).2 = 0
          · exact g
          · rw [step_op g] at hst; exact absurd hst g
        rw [step_fit ho] at hst
        have hfx : fitsF (toW (opAt L k) (whAt L a b k).1) (toH (opAt L k) (whAt L a b k).2) c = true := by
          by_cases g : fitsF (toW (opAt L k) (whAt L a b k).1) (toH (opAt L k) (whAt L a b k).2) c = true
          · exact g
          · rw [if_neg g] at hst; cases hst
        obtain ⟨⟨q0, q1⟩, ⟨q2, q3⟩, _⟩ := fits_side hfx
        refine .inl ⟨?_, ?_⟩
        · show In64 (toW (opAt L k) (whAt L a b k).1)
          unfold In64; omega
        · show In64 (toH (opAt L k) (whAt L a b k).2)
          unfold In64; omega
      · exact .inr (.inl hz))
  rw [hft] at CFT
  clear hr hF hn h1 e0 hft hk MO hfit0 ha hb
  go_enter Tryz.func40, Tryz.ntmps40
  go_wp2_with (go_at_call 73; (with_reducible refine (CFT _).mono ?_); rintro e w1 ⟨rfl, rfl⟩)
  have F0 := hide (HMO.out w (stgAt L a b))
  have hw0 : w.heap.size < (w.alloc (.cells zs 44)).heap.size := by simp
  go_loopw [1, 2, 28] (fun p q i wr => ∃ k : Nat, k ≤ n ∧ i = .int .i64 (k : Int) ∧ p = .int .i64 (whAt L a b k).1 ∧ q = .int .i64 (whAt L a b k).2 ∧ Hid (firstA L a b c k = 0) ∧ Hid (StgFill wr w.heap.size n k (stgAt L a b)) ∧ Below w.heap.size w wr) (fun _ _ i _ => n - (intOf i).toNat)
  case atStart => exact ⟨0, by omega, rfl, rfl, rfl, hide rfl, F0, below1 _ _⟩
  case round =>
    clear CFT F0 MK HMO
    obtain ⟨k, hk, rfl, rfl, rfl, hf, HS, hb⟩ := hrel
    have HB := hide hb
    by_cases hlt : k < n
    · obtain ⟨bl, off, rfl, hop⟩ := HR.out.get (show k < L.length by rw [HN.out]; exact hlt)
      obtain ⟨g0, g1, g2, g3, g6, g7, g8, ax, cx, ay, cy, g4, g5, ga⟩ := hop.below hb
      have HBADk := hide (fun w' hs => HBAD.out k w' hlt hf.out hs)
      have hfit := HF.out k (by rw [HN.out]; exact hlt)
      have h64 : In64 (whAt L a b k).1 ∧ In64 (whAt L a b k).2 := by
        rcases HG.out k with g | g | g
        · exact g
        · exact absurd hf.out g
        · omega
      have CM := fun w' (b' : Below wr.heap.size wr w') => omake_any (opAt L k) ax cx ay cy (whAt L a b k).1 (whAt L a b k).2 w' (HK.out w' (bt hb b')) (ga.below b') hfit h64.1 h64.2
      have CZ := fun w' => osize_any (opAt L k) ax cx ay cy (whAt L a b k).1 (whAt L a b k).2 w'
      have CF := fun w' => rfits_any (toW (opAt L k) (whAt L a b k).1) (toH (opAt L k) (whAt L a b k).2) c w'
      have P0 := hide (P9.new wr 50 (opAt L k).kd (opAt L k).bd (opAt L k).sg (opAt L k).rd (.slice ax (opAt L k).xs.length cx) (.slice ay (opAt L k).ys.length cy) (opAt L k).fl (opAt L k).wd (opAt L k).ht)
      have so := step_op (L := L) (a := a) (b := b) (c := c) (k := k)
      have sf := step_fit (L := L) (a := a) (b := b) (c := c) (k := k)
      unfold opV at CM CZ
      clear ga hfit hb hop h64
      by_cases hz : opCode (opAt L k) (whAt L a b k).1 (whAt L a b k).2 = 0
      case neg =>
        have CM2 : ∀ w', Below wr.heap.size wr w' → Calls Tryz.prog 34 #[.agg #[.int .i64 (opAt L k).kd, .int .i64 (opAt L k).bd, .int .i64 (opAt L k).sg, .int .i64 (opAt L k).rd, .slice ax (opAt L k).xs.length cx, .slice ay (opAt L k).ys.length cy, .int .i64 (opAt L k).fl, .int .i64 (opAt L k).wd, .int .i64 (opAt L k).ht], .int .i64 (whAt L a b k).1, .int .i64 (whAt L a b k).2] w' fun e w'' => e = .returned (.tuple #[.agg #[.pointer none, .pointer none, .int .i64 0], .int .i64 (opCode (opAt L k) (whAt L a b k).1 (whAt L a b k).2)]) ∧ Below w'.heap.size w' w'' := fun w' b' =>
          (CM w' b').mono fun e w'' ⟨hA, hB⟩ => by
            rcases hA with ⟨_, he⟩ | ⟨h0, _⟩
            · exact ⟨he, hB⟩
            · exact absurd h0 hz
        have HE := hide (fun w' => by have := HBADk.out w' (by rw [so hz]; exact hz); rw [so hz] at this; exact this)
        have qz : (opCode (opAt L k) (whAt L a b k).1 (whAt L a b k).2 != 0) = true := bne_iff_ne.2 hz
        clear CM CZ CF so sf hz HBADk HBAD
        generalize opCode (opAt L k) (whAt L a b k).1 (whAt L a b k).2 = oc at *
        generalize (whAt L a b k).1 = p at *
        generalize (whAt L a b k).2 = q at *
        generalize (opAt L k).kd = kd at *
        generalize (opAt L k).bd = bd at *
        generalize (opAt L k).sg = sg at *
        generalize (opAt L k).rd = rd at *
        generalize (opAt L k).xs.length = nx at *
        generalize (opAt L k).ys.length = ny at *
        generalize (opAt L k).fl = fl at *
        generalize (opAt L k).wd = wd at *
        generalize (opAt L k).ht = ht at *
        go_wp2_with (go_at_call 34; (with_reducible refine (CM2 _ (below1 _ _)).mono ?_); rintro e w3 ⟨rfl, b3⟩)
        exact bodyPost_ret (v := .tuple #[.slice none 0 0, .int .i64 oc]) (by simp [results, Tryz.results40, go_sem]) rfl ⟨HE.out _, ba (bt (ba HB.out _) b3) _⟩
      have CM2 : ∀ w', Below wr.heap.size wr w' → Calls Tryz.prog 34 #[.agg #[.int .i64 (opAt L k).kd, .int .i64 (opAt L k).bd, .int .i64 (opAt L k).sg, .int .i64 (opAt L k).rd, .slice ax (opAt L k).xs.length cx, .slice ay (opAt L k).ys.length cy, .int .i64 (opAt L k).fl, .int .i64 (opAt L k).wd, .int .i64 (opAt L k).ht], .int .i64 (whAt L a b k).1, .int .i64 (whAt L a b k).2] w' fun e w'' => (∃ gx gy, e = .returned (.tuple #[.agg #[.pointer (some gx), .pointer (some gy), .int .i64 (stgAt L a b k).sb], .int .i64 0]) ∧ Tab w'' (.pointer (some gx)) (stgAt L a b k).fx (stgAt L a b k).lx ∧ Tab w'' (.pointer (some gy)) (stgAt L a b k).fy (stgAt L a b k).ly) ∧ Below w'.heap.size w' w'' := fun w' b' =>
        (CM w' b').mono fun e w'' ⟨hA, hB⟩ => by
          rcases hA with ⟨h0, _⟩ | ⟨_, x, y, he, tx, ty⟩
          · exact absurd hz h0
          · obtain ⟨gx, rfl⟩ := tx.ptr
            obtain ⟨gy, rfl⟩ := ty.ptr
            exact ⟨⟨gx, gy, he, tx, ty⟩, hB⟩
      have hstep := sf hz
      clear CM so sf hz HBAD
      by_cases hq : fitsF (toW (opAt L k) (whAt L a b k).1) (toH (opAt L k) (whAt L a b k).2) c = true
      case neg =>
        rw [if_neg hq] at hstep
        have HE := hide (fun w' => by have := HBADk.out w' (by rw [hstep]; decide); rw [hstep] at this; exact this)
        rw [show fitsF (toW (opAt L k) (whAt L a b k).1) (toH (opAt L k) (whAt L a b k).2) c = false by simpa using hq] at CF
        clear hstep hq HBADk HS
        generalize toW (opAt L k) (whAt L a b k).1 = p' at *
        generalize toH (opAt L k) (whAt L a b k).2 = q' at *
        generalize (whAt L a b k).1 = p at *
        generalize (whAt L a b k).2 = q at *
        generalize (stgAt L a b k) = S at *
        obtain ⟨lx, ly, fx, fy, sb⟩ := S
        simp only at CM2
        generalize (opAt L k).kd = kd at *
        generalize (opAt L k).bd = bd at *
        generalize (opAt L k).sg = sg at *
        generalize (opAt L k).rd = rd at *
        generalize (opAt L k).xs.length = nx at *
        generalize (opAt L k).ys.length = ny at *
        generalize (opAt L k).fl = fl at *
        generalize (opAt L k).wd = wd at *
        generalize (opAt L k).ht = ht at *
        go_wp2_with (first
          | (go_at_call 34; (with_reducible refine (CM2 _ (below1 _ _)).mono ?_); rintro e w3 ⟨⟨gx, gy, rfl, _, _⟩, b3⟩; have P3 := (P0.out.below b3).below (below1 w3 (.cells #[.pointer (some gx), .pointer (some gy), .int .i64 sb] 44)); obtain ⟨a0, a1, a2, a3, a4, a5, a6, a7, a8⟩ := P3)
          | (go_at_call 74; (with_reducible refine (CZ _).mono ?_); rintro e w4 ⟨rfl, b4⟩)
          | (go_at_call 73; (with_reducible refine (CF _).mono ?_); rintro e w5 ⟨rfl, rfl⟩))
        exact bodyPost_ret (v := .tuple #[.slice none 0 0, .int .i64 5]) (by simp [results, Tryz.results40, go_sem]) rfl ⟨HE.out _, bt (ba (bt (ba HB.out _) b3) _) b4⟩
      rw [if_pos hq] at hstep
      rw [hq] at CF
      have hfn := hide (firstA_next hf.out hstep)
      have hw1 := HB.out.size
      have HMORE := hide (fun (W : World) (gx gy : Addr) (s : StgFill W w.heap.size n k (stgAt L a b)) (tx : Tab W (.pointer (some gx)) (stgAt L a b k).fx (stgAt L a b k).lx) (ty : Tab W (.pointer (some gy)) (stgAt L a b k).fy (stgAt L a b k).ly) => s.more hlt tx ty)
      clear hstep hq HBADk hf
      rw [show toW (opAt L k) (whAt L a b k).1 = (whAt L a b (k + 1)).1 from rfl, show toH (opAt L k) (whAt L a b k).2 = (whAt L a b (k + 1)).2 from rfl] at CZ CF
      generalize (whAt L a b k).1 = p at *
      generalize (whAt L a b k).2 = q at *
      generalize (stgAt L a b k).fx = fx at *
      generalize (stgAt L a b k).fy = fy at *
      generalize (stgAt L a b k).lx = lx at *
      generalize (stgAt L a b k).ly = ly at *
      generalize (stgAt L a b k).sb = sb at *
      generalize (opAt L k).kd = kd at *
      generalize (opAt L k).bd = bd at *
      generalize (opAt L k).sg = sg at *
      generalize (opAt L k).rd = rd at *
      generalize (opAt L k).xs.length = nx at *
      generalize (opAt L k).ys.length = ny at *
      generalize (opAt L k).fl = fl at *
      generalize (opAt L k).wd = wd at *
      generalize (opAt L k).ht = ht at *
      go_wp2_with (first
        | (go_at_call 34; (with_reducible refine (CM2 _ (below1 _ _)).mono ?_); rintro e w3 ⟨⟨gx, gy, rfl, tx, ty⟩, b3⟩; have P3 := (P0.out.below b3).below (below1 w3 (.cells #[.pointer (some gx), .pointer (some gy), .int .i64 sb] 44)); obtain ⟨a0, a1, a2, a3, a4, a5, a6, a7, a8⟩ := P3; have TX := hide tx; have TY := hide ty; clear tx ty; have s3 := b3.size; simp at s3)
        | (go_at_call 74; (with_reducible refine (CZ _).mono ?_); rintro e w4 ⟨rfl, b4⟩; have T4 := S3.below (S3.new w3 44 (.pointer (some gx)) (.pointer (some gy)) (.int .i64 sb)) b4; obtain ⟨⟨t0, _⟩, ⟨t1, _⟩, ⟨t2, _⟩⟩ := T4; have s4 := b4.size; simp at s4; have F4 := (HS.out.below (bt (ba (bt (below1 _ _) b3) _) b4)); have HF4 := hide F4; obtain ⟨⟨⟨v0, r0⟩, y0⟩, ⟨⟨v1, r1⟩, y1⟩, ⟨v2, r2⟩, y2⟩ := F4.room hlt)
        | (go_at_call 73; (with_reducible refine (CF _).mono ?_); rintro e w5 ⟨rfl, rfl⟩))
      have M5 := hide (HMORE.out w4 gx gy HF4.out ((TX.out.below (below1 _ _)).below b4) ((TY.out.below (below1 _ _)).below b4))
      have B5 := hide (show Below w.heap.size w (((w4.setCell ⟨w.heap.size, k * 3, none⟩ (.pointer (some gx))).setCell ⟨w.heap.size, k * 3 + 1, none⟩ (.pointer (some gy))).setCell ⟨w.heap.size, k * 3 + 2, none⟩ (.int .i64 sb)) from bs (bs (bs (bt (ba (bt (ba HB.out _) b3) _) b4) (Nat.le_refl _) _) (Nat.le_refl _) _) (Nat.le_refl _) _)
      clear HF4 TX TY b3 b4 a0 a1 a2 a3 a4 a5 a6 a7 a8 t0 t1 t2 r0 r1 r2 y0 y1 y2 HMORE
      go_wp2
      go_roundw
      case rel => exact ⟨k + 1, by omega, by go_num, rfl, rfl, hfn, M5, B5.out⟩
      case measure => simp [intOf]; omega
    · obtain rfl : k = n := by omega
      have hv := hf.out
      have HA := hide (show AllAns (.returned (.tuple #[.slice (some ⟨w.heap.size, 0, none⟩) k k, .int .i64 0])) wr (firstA L a b c k) k (stgAt L a b) from .inr ⟨hv, _, k, rfl, HS.out.at⟩)
      clear hv hb hf HS
      go_wp2
      exact bodyPost_ret (v := .tuple #[.slice (some ⟨w.heap.size, 0, none⟩) k k, .int .i64 0]) (by simp [results, Tryz.results40, go_sem]) rfl ⟨HA.out, HB.out⟩
theorem oall_any : OAllC OpK := fun L ad cap a b c w hk hr hF h1 _ ha hb _ => oall_n L L.length rfl h1 ad cap a b c w hk hr hF ha hb
end Go.Proofs.YtaafhjngnjjcmaaGreatDoor

/- What comes out: the stages that the laws ask of operations. -/
namespace Go.Proofs.YtaafhjngnjjcmaaGreatDoor
open Go.RowKit

/-- What the laws' Stages answers. -/
def StagesYes (L : List Opr) (n : Nat) (I : Im) (e : Ending) (w' : World) : Prop := allCode L I.iw I.ih I.ic = 0 ∧ n ≤ 4 ∧ bigB 12 L n = false ∧ ∃ ad cap ad' cap', e = .returned (.tuple #[.slice ad n cap, .slice ad' n cap', .bool true]) ∧ StgsAt w' ad n (stgAt L I.iw I.ih) ∧ StgsRef w' ad' n (stgAt L I.iw I.ih)
def StagesNo (L : List Opr) (n : Nat) (I : Im) (e : Ending) : Prop := ¬(allCode L I.iw I.ih I.ic = 0 ∧ n ≤ 4 ∧ bigB 12 L n = false) ∧ ∃ v v', e = .returned (.tuple #[v, v', .bool false])
theorem stgs_ne {w : World} {ad : Option Addr} {n : Nat} {F : Nat → Stg} (h : StgsAt w ad n F) (j : Nat) (hj : j < n) : (F j).lx ≠ [] ∧ (F j).ly ≠ [] := by
  rcases h with h | ⟨b, off, _, h⟩
  · omega
  · obtain ⟨x, y, _, _, _, tx, ty⟩ := h j hj
    exact ⟨fun e => by have := tx.ok.2.1; rw [e] at this; exact absurd this (by decide), fun e => by have := ty.ok.2.1; rw [e] at this; exact absurd this (by decide)⟩
set_option maxHeartbeats 4000000 in
set_option maxRecDepth 100000 in
theorem stages_any (L : List Opr) (n : Nat) (hn : L.length = n) (h1 : n ≤ maxLen) (ad : Option Addr) (cap : Nat) (hz : ad = none → cap = 0) (w : World) (hk : OpK w) (hr : OpsAt w ad L) (hF : OpsFit L) {g h : Nat} {I : Im} (H : ImgAt w g h I) :
    Calls Tryz.prog 11 #[.slice ad n cap, .pointer (some ⟨g, 0, none⟩)] w fun e w' => (StagesYes L n I e w' ∨ StagesNo L n I e) ∧ Below w.heap.size w w' := by
  have hm : n ≤ 9223372036854775807 := h1
  obtain ⟨a0, a1, b0, b1, c0, _⟩ := H.ok
  have CL := fun w' (b : Below w.heap.size w w') => little_any L n hn h1 12 ad cap w' (hr.below b)
  have CR := fun w' (b : Below w.heap.size w w') (h4 : n ≤ 4) => refs12_any L n hn (by omega) ad cap w' (hr.below b)
  have CA := fun w' (b : Below w.heap.size w w') => oall_any L ad cap I.iw I.ih I.ic w' (opk_below _ _ hk b) (hr.below b) hF (by rw [hn]; exact h1) hz (by unfold In64; omega) (by unfold In64; omega) (by unfold In64; omega)
  have CD := fun w' ad' cap' (hr' : OpsAt w' ad' L) => dall_any L n hn h1 ad' cap' I.iw I.ih I.ic w' hr' hF
  rw [hn] at CA
  have CW := fun w' (b : Below w.heap.size w w') => img_width (H.below b)
  have CH := fun w' (b : Below w.heap.size w w') => img_height (H.below b)
  have CC := fun w' (b : Below w.heap.size w w') => img_channels (H.below b)
  have B0 := hide (Below.refl w.heap.size w)
  have q2 : ∀ (a : Addr) (w : World), (binOp .eql 28 (.pointer (some a)) (.pointer none)).run Tryz.prog w = .ok (.bool false) w := fun a w => by kernel_rfl
  unfold StagesYes StagesNo
  by_cases h4 : 4 < n
  · have h4' : (4 : Int) < (n : Int) := by omega
    clear CL CR CA CD CW CH CC hr hF H hk hz hn
    go_enter Tryz.func11, Tryz.ntmps11
    go_wp2_with fail
    exact bodyPost_ret (v := .tuple #[.slice none 0 0, .slice none 0 0, .bool false]) (by simp [results, Tryz.results11, go_sem]) rfl ⟨.inr ⟨fun ⟨_, q, _⟩ => absurd q (by omega), _, _, rfl⟩, B0.out⟩
  have h5 : n ≤ 4 := by omega
  have h5' : ¬ (4 : Int) < (n : Int) := by omega
  have h5'' : (n : Int) ≤ 4 := by omega
  cases hb : bigB 12 L n with
  | true =>
    rw [hb] at CL
    clear CR CA CD CW CH CC hr hF H hk hz hn
    go_enter Tryz.func11, Tryz.ntmps11
    go_wp2_with (go_at_call 39; (with_reducible refine (CL _ B0.out).mono ?_); rintro e w1 ⟨rfl, b1⟩; have B1 := hide (bt B0.out b1))
    exact bodyPost_ret (v := .tuple #[.slice none 0 0, .slice none 0 0, .bool false]) (by simp [results, Tryz.results11, go_sem]) rfl ⟨.inr ⟨fun ⟨_, _, q⟩ => (by simp at q), _, _, rfl⟩, B1.out⟩
  | false =>
    rw [hb] at CL
    replace CR := fun w' b => CR w' b h5
    obtain ⟨iw, hiw⟩ : ∃ iw, I.iw = iw := ⟨_, rfl⟩
    obtain ⟨ih, hih⟩ : ∃ ih, I.ih = ih := ⟨_, rfl⟩
    obtain ⟨ic, hic⟩ : ∃ ic, I.ic = ic := ⟨_, rfl⟩
    rw [hiw] at CA CD CW ⊢
    rw [hih] at CA CD CH ⊢
    rw [hic] at CA CD CC ⊢
    obtain ⟨F, hFF⟩ : ∃ F, stgAt L iw ih = F := ⟨_, rfl⟩
    rw [hFF] at CA CD ⊢
    obtain ⟨K, hK⟩ : ∃ K, allCode L iw ih ic = K := ⟨_, rfl⟩
    simp only [hK] at CA CD ⊢
    clear hr hF H hk hz hn hiw hih hic hFF
    by_cases hz : K = 0
    · subst hz
      have CA2 : ∀ w', Below w.heap.size w w' → Calls Tryz.prog 40 #[.slice ad n cap, .int .i64 iw, .int .i64 ih, .int .i64 ic] w' fun e w'' => (∃ ad cap, e = .returned (.tuple #[.slice ad n cap, .int .i64 0]) ∧ StgsAt w'' ad n F) ∧ Below w'.heap.size w' w'' := fun w' b => (CA w' b).mono fun e w'' ⟨hA, hB⟩ => by
        rcases hA with ⟨h0, _⟩ | ⟨_, hA⟩
        · exact absurd rfl h0
        · exact ⟨hA, hB⟩
      have CD2 : ∀ w' ad' cap', OpsAt w' ad' L → (∀ j, j < n → (F j).lx ≠ [] ∧ (F j).ly ≠ []) → Calls Tryz.prog 41 #[.slice ad' n cap', .int .i64 iw, .int .i64 ih, .int .i64 ic] w' fun e w'' => (∃ ad cap, e = .returned (.tuple #[.slice ad n cap, .int .i64 0]) ∧ StgsRef w'' ad n F) ∧ Below w'.heap.size w' w'' := fun w' ad' cap' b hne => (CD w' ad' cap' b).mono fun e w'' ⟨hA, hB⟩ => by
        rcases hA with ⟨h0, _⟩ | ⟨_, v, he, hA⟩
        · exact absurd rfl h0
        · obtain ⟨ad2, cap2, rfl, hs⟩ := hA.read hne
          exact ⟨⟨ad2, cap2, he, hs⟩, hB⟩
      clear CA CD
      go_enter Tryz.func11, Tryz.ntmps11
      go_wp2_with (first
        | (go_at_call 39; (with_reducible refine (CL _ B0.out).mono ?_); rintro e w1 ⟨rfl, b1⟩; have B1 := hide (bt B0.out b1))
        | (go_at_call 17; (first | with_reducible refine (CW _ B3.out).mono ?_ | with_reducible refine (CW _ B1.out).mono ?_); rintro e w9 ⟨rfl, rfl⟩)
        | (go_at_call 19; (first | with_reducible refine (CH _ B3.out).mono ?_ | with_reducible refine (CH _ B1.out).mono ?_); rintro e w9 ⟨rfl, rfl⟩)
        | (go_at_call 29; (first | with_reducible refine (CC _ B3.out).mono ?_ | with_reducible refine (CC _ B1.out).mono ?_); rintro e w9 ⟨rfl, rfl⟩)
        | (go_at_call 40; (with_reducible refine (CA2 _ B1.out).mono ?_); rintro e w2 ⟨⟨ad2, cap2, rfl, hs2⟩, b2⟩; have B2 := hide (bt B1.out b2); have HS2 := hide hs2; clear hs2)
        | (go_at_call 42; (with_reducible refine (CR _ B2.out).mono ?_); rintro e w3 ⟨ad3, cap3, rfl, hr3, hz3, b3⟩; have B3 := hide (bt B2.out b3); have HS3 := hide (HS2.out.below b3); have HR3 := hide hr3; clear hr3)
        | (go_at_call 41; (with_reducible refine (CD2 _ _ _ HR3.out (stgs_ne HS3.out)).mono ?_); rintro e w4 ⟨⟨ad4, cap4, rfl, hs4⟩, b4⟩; have B4 := hide (bt B3.out b4); have HS4 := hide (HS3.out.below b4); have HQ4 := hide hs4; clear hs4))
      exact bodyPost_ret (v := .tuple #[.slice ad2 n cap2, .slice ad4 n cap4, .bool true]) (by simp [results, Tryz.results11, go_sem]) rfl ⟨.inl ⟨trivial, h5, trivial, _, _, _, _, rfl, HS4.out, HQ4.out⟩, B4.out⟩
    · have CA2 : ∀ w', Below w.heap.size w w' → Calls Tryz.prog 40 #[.slice ad n cap, .int .i64 iw, .int .i64 ih, .int .i64 ic] w' fun e w'' => (∃ ad cap, e = .returned (.tuple #[.slice ad 0 cap, .int .i64 K])) ∧ Below w'.heap.size w' w'' := fun w' b => (CA w' b).mono fun e w'' ⟨hA, hB⟩ => by
        rcases hA with ⟨_, hA⟩ | ⟨h0, _⟩
        · exact ⟨hA, hB⟩
        · exact absurd h0 hz
      have CD2 : ∀ w' ad' cap', OpsAt w' ad' L → Calls Tryz.prog 41 #[.slice ad' n cap', .int .i64 iw, .int .i64 ih, .int .i64 ic] w' fun e w'' => e = .returned (.tuple #[.slice none 0 0, .int .i64 K]) ∧ Below w'.heap.size w' w'' := fun w' ad' cap' b => (CD w' ad' cap' b).mono fun e w'' ⟨hA, hB⟩ => by
        rcases hA with ⟨_, hA⟩ | ⟨h0, _⟩
        · exact ⟨hA, hB⟩
        · exact absurd h0 hz
      clear CA CD
      go_enter Tryz.func11, Tryz.ntmps11
      go_wp2_with (first
        | (go_at_call 39; (with_reducible refine (CL _ B0.out).mono ?_); rintro e w1 ⟨rfl, b1⟩; have B1 := hide (bt B0.out b1))
        | (go_at_call 17; (first | with_reducible refine (CW _ B3.out).mono ?_ | with_reducible refine (CW _ B1.out).mono ?_); rintro e w9 ⟨rfl, rfl⟩)
        | (go_at_call 19; (first | with_reducible refine (CH _ B3.out).mono ?_ | with_reducible refine (CH _ B1.out).mono ?_); rintro e w9 ⟨rfl, rfl⟩)
        | (go_at_call 29; (first | with_reducible refine (CC _ B3.out).mono ?_ | with_reducible refine (CC _ B1.out).mono ?_); rintro e w9 ⟨rfl, rfl⟩)
        | (go_at_call 40; (with_reducible refine (CA2 _ B1.out).mono ?_); rintro e w2 ⟨⟨ad2, cap2, rfl⟩, b2⟩; have B2 := hide (bt B1.out b2))
        | (go_at_call 42; (with_reducible refine (CR _ B2.out).mono ?_); rintro e w3 ⟨ad3, cap3, rfl, hr3, hz3, b3⟩; have B3 := hide (bt B2.out b3); have HR3 := hide hr3; clear hr3)
        | (go_at_call 41; (with_reducible refine (CD2 _ _ _ HR3.out).mono ?_); rintro e w4 ⟨rfl, b4⟩; have B4 := hide (bt B3.out b4)))
      exact bodyPost_ret (v := .tuple #[.slice ad2 0 cap2, .slice none 0 0, .bool false]) (by simp [results, Tryz.results11, go_sem]) rfl ⟨.inr ⟨fun ⟨q, _, _⟩ => hz q, _, _, rfl⟩, B4.out⟩
theorem stages_yes {L : List Opr} {n : Nat} (hn : L.length = n) (h1 : n ≤ maxLen) {ad : Option Addr} {cap : Nat} (hz : ad = none → cap = 0) {w : World} (hk : OpK w) (hr : OpsAt w ad L) (hF : OpsFit L) {g h : Nat} {I : Im} (H : ImgAt w g h I) (hy : allCode L I.iw I.ih I.ic = 0 ∧ n ≤ 4 ∧ bigB 12 L n = false) :
    Calls Tryz.prog 11 #[.slice ad n cap, .pointer (some ⟨g, 0, none⟩)] w fun e w' => (∃ ad cap ad' cap', e = .returned (.tuple #[.slice ad n cap, .slice ad' n cap', .bool true]) ∧ StgsAt w' ad n (stgAt L I.iw I.ih) ∧ StgsRef w' ad' n (stgAt L I.iw I.ih)) ∧ Below w.heap.size w w' :=
  (stages_any L n hn h1 ad cap hz w hk hr hF H).mono fun e w' ⟨hA, hB⟩ => by
    rcases hA with ⟨_, _, _, q⟩ | ⟨q, _⟩
    · exact ⟨q, hB⟩
    · exact absurd hy q
theorem stages_no {L : List Opr} {n : Nat} (hn : L.length = n) (h1 : n ≤ maxLen) {ad : Option Addr} {cap : Nat} (hz : ad = none → cap = 0) {w : World} (hk : OpK w) (hr : OpsAt w ad L) (hF : OpsFit L) {g h : Nat} {I : Im} (H : ImgAt w g h I) (hy : ¬(allCode L I.iw I.ih I.ic = 0 ∧ n ≤ 4 ∧ bigB 12 L n = false)) :
    Calls Tryz.prog 11 #[.slice ad n cap, .pointer (some ⟨g, 0, none⟩)] w fun e w' => (∃ v v', e = .returned (.tuple #[v, v', .bool false])) ∧ Below w.heap.size w w' :=
  (stages_any L n hn h1 ad cap hz w hk hr hF H).mono fun e w' ⟨hA, hB⟩ => by
    rcases hA with ⟨a, b, c, _⟩ | ⟨_, q⟩
    · exact absurd ⟨a, b, c⟩ hy
    · exact ⟨q, hB⟩
/-- What the stages are when there are some. -/
theorem stages_good {L : List Opr} {n : Nat} (hn : L.length = n) {I : Im} (hI : ImOk I) (i0 : I.iw ≤ 20) (i1 : I.ih ≤ 20) (hy : allCode L I.iw I.ih I.ic = 0 ∧ n ≤ 4 ∧ bigB 12 L n = false) :
    (∀ j, j < n → SmallS (stgAt L I.iw I.ih j)) ∧ ∀ k, k ≤ n → compCode I (stgL (stgAt L I.iw I.ih) k) = 0 := by
  subst hn
  obtain ⟨a, _, c⟩ := hy
  exact ⟨fun j hj => (stgs_small a c i0 i1 j hj).1, fun k hk => (stgs_suit hI a k hk).1⟩
/-- Stages in memory have lines. -/
theorem stgs_ok {w : World} {ad : Option Addr} {n : Nat} {F : Nat → Stg} (h : StgsAt w ad n F) (j : Nat) (hj : j < n) : StgOk (F j) := by
  rcases h with h | ⟨b, off, _, h⟩
  · omega
  · obtain ⟨x, y, _, _, _, tx, ty⟩ := h j hj
    exact ⟨tx.ok.1, ty.ok.1, tx.ok.2.1, ty.ok.2.1, tx.ok.2.2.1, ty.ok.2.2.1⟩
end Go.Proofs.YtaafhjngnjjcmaaGreatDoor
