/- Parts, joined. -/
import Derived.Test.YtclgghhpiljgfaaGreatDoorJ16
import Derived.Test.YtclgghhpiljgfaaGreatDoorJ18
import Derived.Test.YtclgghhpiljgfaaGreatDoorJ13
import Derived.Test.YtclgghhpiljgfaaGreatDoorJ10
import Derived.Test.YtclgghhpiljgfaaGreatDoorJ14
import Derived.Deep.RegionHeld3
/- Lines of a table in memory. No number of the program but that of int64 stands in it. -/
namespace Go.Proofs.YtclgghhpiljgfaaGreatDoor
open Go.RowKit


/-- The block holds these lines. -/
def LinesAt (w : World) (g : Nat) (L : List (Int × List Int)) : Prop :=
  ∀ j, j < L.length → w.cell? ⟨g, j * 2, none⟩ = some (.int .i64 (lnAt L j).1) ∧ ∃ u, w.cell? ⟨g, j * 2 + 1, none⟩ = some u ∧ Ret .i64 (lnAt L j).2 w u
theorem LinesAt.below {w w' : World} {g : Nat} {L : List (Int × List Int)} (h : LinesAt w g L) (hb : Below w.heap.size w w') : LinesAt w' g L := by
  intro j hj
  obtain ⟨h1, u, h2, h3⟩ := h j hj
  exact ⟨cb hb (cell_ltL h1) h1, u, cb hb (cell_ltL h2) h2, h3.below hb⟩
/-- The cells of lines. -/
def lcells : List (Int × List Int) → List Value → List Value
  | x :: L, u :: us => .int .i64 x.1 :: u :: lcells L us
  | _, _ => []
theorem lcells_snoc {L : List (Int × List Int)} {us : List Value} (h : us.length = L.length) (x : Int × List Int) (u : Value) : lcells (L ++ [x]) (us ++ [u]) = lcells L us ++ [.int .i64 x.1, u] := by
  induction L generalizing us with
  | nil => rw [List.eq_nil_of_length_eq_zero h]; rfl
  | cons y L ih =>
    cases us with
    | nil => simp at h
    | cons v us =>
      show _ :: _ :: lcells (L ++ [x]) (us ++ [u]) = _
      rw [ih (by simpa using h)]; rfl
theorem lcells_get {L : List (Int × List Int)} {us : List Value} (h : us.length = L.length) {j : Nat} (hj : j < L.length) : (lcells L us)[2 * j]? = some (.int .i64 (lnAt L j).1) ∧ (lcells L us)[2 * j + 1]? = some (us.getD j undef) := by
  induction L generalizing us j with
  | nil => simp at hj
  | cons y L ih =>
    cases us with
    | nil => simp at h
    | cons v us =>
      cases j with
      | zero => exact ⟨rfl, rfl⟩
      | succ j =>
        have := ih (us := us) (by simpa using h) (j := j) (by simpa using hj)
        show (Value.int .i64 y.1 :: v :: lcells L us)[2 * (j + 1)]? = _ ∧ (Value.int .i64 y.1 :: v :: lcells L us)[2 * (j + 1) + 1]? = _
        rw [show 2 * (j + 1) = 2 * j + 1 + 1 by omega]
        exact this
theorem getD_old {us : List Value} {u : Value} {j : Nat} (h : j < us.length) : (us ++ [u]).getD j undef = us.getD j undef := by
  rw [List.getD_eq_getElem?_getD, List.getD_eq_getElem?_getD, List.getElem?_append_left h]
theorem getD_new (us : List Value) (u : Value) : (us ++ [u]).getD us.length undef = u := by
  rw [List.getD_eq_getElem?_getD, List.getElem?_append_right (Nat.le_refl _), Nat.sub_self]; rfl
/-- Lines that the call itself made, with taps that it made. -/
def OwnLs (T : TypeId) (w : World) (base : Nat) (v : Value) (L : List (Int × List Int)) : Prop :=
  ∃ us : List Value, us.length = L.length ∧ w.ownsRow base T 2 v L.length (lcells L us) ∧ ∀ j, j < L.length → OwnI .i64 2 w base (us.getD j undef) (lnAt L j).2
theorem OwnLs.nil (T : TypeId) (w : World) (base : Nat) : OwnLs T w base (.slice none 0 0) [] := ⟨[], rfl, World.ownsRow_nil _ _ _ _, fun _ h => absurd h (Nat.not_lt_zero _)⟩
theorem row_kept {T : TypeId} {w w' : World} {base k : Nat} {v : Value} {n : Nat} {xs : List Value} (h : w.ownsRow base T k v n xs) (hb : Below w.heap.size w w') : w'.ownsRow base T k v n xs := by
  refine ⟨h.1, ?_⟩
  rcases h.2 with h2 | ⟨g, cap, cur, hv, hB, hg, r⟩
  · exact .inl h2
  · refine .inr ⟨g, cap, cur, hv, hB, ?_, r⟩
    have hlt : g < w.heap.size := by
      rcases Nat.lt_or_ge g w.heap.size with hlt | hge
      · exact hlt
      · rw [Array.getElem?_eq_none hge] at hg; cases hg
    rw [hb.block g hlt]; exact hg
theorem OwnLs.below {T : TypeId} {w w' : World} {base : Nat} {v : Value} {L : List (Int × List Int)} (h : OwnLs T w base v L) (hb : Below w.heap.size w w') : OwnLs T w' base v L := by
  obtain ⟨us, h1, h2, h3⟩ := h
  exact ⟨us, h1, row_kept h2 hb, fun j hj => (h3 j hj).below hb⟩
theorem own_apart {T T' : TypeId} (hne : T ≠ T') {w : World} {base base' k k' : Nat} {v v' : Value} {n n' : Nat} {xs xs' : List Value} (h : w.ownsRow base T k v n xs) (h' : w.ownsRow base' T' k' v' n' xs') : Apart v v' := by
  intro g hg hg'
  rcases h.2 with ⟨hv, _⟩ | ⟨b, cap, cur, hv, _, hb, _⟩
  · subst hv; cases hg
  · rcases h'.2 with ⟨hv', _⟩ | ⟨b', cap', cur', hv', _, hb', _⟩
    · subst hv'; cases hg'
    · subst hv; subst hv'
      obtain rfl := Option.some.inj hg
      obtain rfl := Option.some.inj hg'
      rw [hb] at hb'
      injection hb' with hb'
      injection hb' with _ ht
      exact hne ht
/-- One line is appended. -/
theorem OwnLs.more {T : TypeId} (hT : 2 ≠ T) {w0 wc w2 : World} {v v' u : Value} {L : List (Int × List Int)} {x : Int × List Int} {o : Obj} (hb : Below w0.heap.size w0 wc) {us : List Value} (hu : us.length = L.length)
    (hown : wc.ownsRow w0.heap.size T 2 v L.length (lcells L us)) (hin : ∀ j, j < L.length → OwnI .i64 2 wc w0.heap.size (us.getD j undef) (lnAt L j).2) (hx : OwnI .i64 2 wc w0.heap.size u x.2)
    (hown' : w2.ownsRow w0.heap.size T 2 v' (L.length + 1) (lcells L us ++ [.int .i64 x.1, u])) (hgrow : (wc.alloc o).grownBy w2 v.ownBlock) :
    OwnLs T w2 w0.heap.size v' (L ++ [x]) ∧ Below w0.heap.size w0 w2 := by
  have hs := hb.size
  refine ⟨⟨us ++ [u], by rw [List.length_append, List.length_append, hu]; rfl, ?_, ?_⟩, (hb.alloc (by omega) o).grown hgrow (by simp; omega) (fun j hj => (World.ownsRow.lt hown j hj).1)⟩
  · rw [lcells_snoc hu, List.length_append]; exact hown'
  · intro j hj
    have K : ∀ {y : Value} {xs : List Int}, OwnI .i64 2 wc w0.heap.size y xs → OwnI .i64 2 w2 w0.heap.size y xs := fun {y xs} hy => OwnI.kept (hy.alloc o) hgrow (own_apart hT (hy.alloc o) (World.ownsRow.alloc hown o))
    rw [List.length_append, List.length_singleton] at hj
    by_cases e : j = L.length
    · subst e
      rw [lnAt_new, show (us ++ [u]).getD L.length undef = u by rw [← hu]; exact getD_new us u]
      exact K hx
    · rw [lnAt_old x (by omega), getD_old (by omega)]
      exact K (hin j (by omega))
/-- As lines that can be read. -/
theorem OwnLs.read {T : TypeId} {w : World} {base : Nat} {v : Value} {L : List (Int × List Int)} (h : OwnLs T w base v L) (h0 : L ≠ []) : ∃ g cap, v = .slice (some ⟨g, 0, none⟩) L.length cap ∧ g < w.heap.size ∧ LinesAt w g L := by
  obtain ⟨us, h1, h2, h3⟩ := h
  have hl : 0 < L.length := List.length_pos_iff.2 h0
  obtain ⟨g, cap, hv, hlt⟩ : ∃ g cap, v = .slice (some ⟨g, 0, none⟩) L.length cap ∧ g < w.heap.size := by
    rcases h2.2 with ⟨_, h0⟩ | ⟨g, cap, cur, hv, _, hg, _⟩
    · omega
    · refine ⟨g, cap, hv, ?_⟩
      rcases Nat.lt_or_ge g w.heap.size with hlt | hge
      · exact hlt
      · rw [Array.getElem?_eq_none hge] at hg; cases hg
  subst hv
  refine ⟨g, cap, rfl, hlt, fun j hj => ?_⟩
  obtain ⟨c1, c2⟩ := lcells_get h1 hj
  have e1 := World.ownsRow.cells h2 (g := g) rfl _ _ c1
  have e2 := World.ownsRow.cells h2 (g := g) rfl _ _ c2
  rw [addr_add, Nat.zero_add] at e1 e2
  rw [Nat.mul_comm 2 j] at e1 e2
  exact ⟨e1, _, e2, (h3 j hj).ret⟩
end Go.Proofs.YtclgghhpiljgfaaGreatDoor

/- Weights that come to one: the examples, and the law on taps, out of what the program's own calls answer. -/
namespace Go.Proofs.YtclgghhpiljgfaaGreatDoor
open Go.RowKit


theorem lit3 (w : World) (a b c : Int) (t : TypeId) : RowAt .i64 (w.alloc (.cells #[.int .i64 a, .int .i64 b, .int .i64 c] t)) (some ⟨w.heap.size, 0, none⟩) [a, b, c] := by
  refine Or.inr ⟨w.heap.size, 0, rfl, fun j hj => ?_⟩
  match j, hj with
  | 0, _ => simp
  | 1, _ => simp
  | 2, _ => simp
theorem all64_ex : All64 [536870912, 536870912, 536870912] := by
  intro j hj
  match j, hj with
  | 0, _ => decide
  | 1, _ => decide
  | 2, _ => decide
theorem app_ex : appCode [536870912, 536870912, 536870912] = 0 ∧ appOut [536870912, 536870912, 536870912] = [5462, 5461, 5461] := by decide +kernel
theorem gau_ex : gauCode 65536 = 0 ∧ (gauOut 65536).length = 7 := by
  refine ⟨by decide, ?_⟩
  unfold gauOut
  rw [if_pos (by omega)]
  unfold gaussR
  rw [gaussTo_len]
  decide
theorem tlives {K : World → Prop} (hKB : ∀ w w', K w → Below w.heap.size w w' → K w') (CA : AppC K) (CG : GauC K) (w : World) (hk : K w) :
    Calls Tryz.prog 41 #[] w fun e w' => e = .returned (.bool true) ∧ Below w.heap.size w w' := by
  have C1 := fun (w : World) hk hr => CA [536870912, 536870912, 536870912] (some ⟨w.heap.size, 0, none⟩) 3 (w.alloc (.cells #[.int .i64 536870912, .int .i64 536870912, .int .i64 536870912] 2)) hk hr all64_ex (by decide)
  rw [show [(536870912 : Int), 536870912, 536870912].length = 3 from rfl] at C1
  have C2 := fun w hk => CG 65536 w hk (by omega) (by omega)
  obtain ⟨e1, e2⟩ := app_ex
  obtain ⟨e3, e4⟩ := gau_ex
  rw [e1, e2] at C1
  rw [e3] at C2
  obtain ⟨gs, hgs⟩ : ∃ gs, gauOut 65536 = gs := ⟨_, rfl⟩
  rw [hgs] at C2 e4
  have HE4 := hide e4
  clear e1 e2 e3 hgs CA CG
  go_enter Tryz.func41, Tryz.ntmps41
  go_wp2_with (first
    | (go_at_call 59; (with_reducible refine (C1 _ (hKB _ _ hk (below1 _ _)) (lit3 _ _ _ _ _)).mono ?_); rintro e w1 ⟨v, rfl, ⟨ad, cap, rfl, hr⟩, b1⟩)
    | (go_at_call 60; (with_reducible refine (C2 _ (hKB _ _ hk (bt (below1 _ _) b1))).mono ?_); rintro e w2 ⟨v, rfl, ⟨ad2, cap2, rfl, hr2⟩, b2⟩)
    | (go_at_call 44; (with_reducible refine (same_n 3 [5462, 5461, 5461] rfl _ _ _ _ _ ((hr.below b2).below (below1 _ _)) (lit3 _ _ _ _ _) (by omega)).mono ?_); rintro e w3 ⟨rfl, b3⟩))
  go_ret
  exact ⟨rfl, bt (ba (bt (bt (below1 _ _) b1) b2) _) b3⟩
end Go.Proofs.YtclgghhpiljgfaaGreatDoor

/- Lines of a table: what the document's calls answer. -/
namespace Go.Proofs.YtclgghhpiljgfaaGreatDoor
open Go.RowKit

/-! ### The tables that the document makes -/
/-- What a resize answers: its code, and its lines. -/
def sideB (n : Int) : Bool := decide (1 ≤ n) && decide (n ≤ 65536)
theorem sideB_iff (n : Int) : sideB n = true ↔ 1 ≤ n ∧ n ≤ 65536 := by unfold sideB; simp
theorem refside_yes (n : Int) (h0 : 1 ≤ n) (h1 : n ≤ 65536) (w : World) :
    Calls Tryz.prog 49 #[.int .i64 n] w fun e w' => e = .returned (.bool true) ∧ w = w' := by
  go_enter Tryz.func49, Tryz.ntmps49
  go_wp2
  go_ret
  first | exact ⟨rfl, rfl⟩ | exact ⟨ret_bool (decide_eq_true (by omega)), rfl⟩
theorem refside_no (n : Int) (h : n < 1 ∨ 65536 < n) (w : World) :
    Calls Tryz.prog 49 #[.int .i64 n] w fun e w' => e = .returned (.bool false) ∧ w = w' := by
  rcases h with h | h
  all_goals
    go_enter Tryz.func49, Tryz.ntmps49
    go_wp2
    go_ret
    first | exact ⟨rfl, rfl⟩ | exact ⟨ret_bool (decide_eq_false (by omega)), rfl⟩
theorem infoLnR : (Tryz.prog.info? 97).map (fun i => (i.zero, i.size, i.bytes)) = some (some (.agg #[.int .i64 0, .slice none 0 0]), 2, 32) := by kernel_rfl
theorem app_own (xs : List Int) (ad : Option Addr) (cap : Nat) (w : World) (hr : RowAt .i64 w ad xs) (hx : All64 xs) (hl : xs.length ≤ 9223372036854775807) :
    Calls Tryz.prog 51 #[.slice ad xs.length cap] w fun e w' => ∃ v, e = .returned (.tuple #[v, .int .i64 (appCode xs)]) ∧ (appCode xs = 0 → OwnI .i64 2 w' w.heap.size v (appR xs)) ∧ Below w.heap.size w w' := by
  by_cases hf : Fits xs
  · rw [appCode_fits.2 hf]
    refine (refapp_fits xs ad cap w hr hx hf).mono ?_
    rintro e w1 ⟨v, rfl, o, b⟩
    exact ⟨v, rfl, fun _ => o, b⟩
  · refine (refapp_any xs ad cap w hr hx hl).mono ?_
    rintro e w1 ⟨v, rfl, _, b⟩
    exact ⟨v, rfl, (fun g => absurd (appCode_fits.1 g) hf), b⟩
end Go.Proofs.YtclgghhpiljgfaaGreatDoor

/- The program's raw weights: Keys' cubic. -/
namespace Go.Proofs.YtclgghhpiljgfaaGreatDoor
open Go.RowKit


theorem up_mul {a b A B : Int} (a0 : 0 ≤ a) (a1 : a ≤ A) (b0 : 0 ≤ b) (b1 : b ≤ B) : 0 ≤ a * b ∧ a * b ≤ A * B := ⟨Int.mul_nonneg a0 b0, Int.mul_le_mul a1 b1 b0 (by omega)⟩
set_option maxRecDepth 100000 in
theorem doubled_low (p q v : Int) (hv : lowK p q = v) (q0 : 1 ≤ q) (q1 : q ≤ 262144) (p0 : 0 ≤ p) (g : p < q) (w : World) :
    Calls Tryz.prog 83 #[.int .i64 p, .int .i64 q] w fun e w' => e = .returned (.int .i64 v) ∧ w = w' := by
  obtain ⟨a0, a1⟩ := up_mul (a := 3 * p) (A := 786432) (b := p) (B := 262144) (by omega) (by omega) p0 (by omega)
  obtain ⟨b0, b1⟩ := up_mul a0 a1 p0 (show p ≤ 262144 by omega)
  obtain ⟨c0, c1⟩ := up_mul (a := 5 * p) (A := 1310720) (b := p) (B := 262144) (by omega) (by omega) p0 (by omega)
  obtain ⟨d0, d1⟩ := up_mul c0 c1 (show 0 ≤ q by omega) q1
  obtain ⟨e0, e1⟩ := up_mul (a := 2 * q) (A := 524288) (b := q) (B := 262144) (by omega) (by omega) (by omega) q1
  obtain ⟨f0, f1⟩ := up_mul e0 e1 (show 0 ≤ q by omega) q1
  have HV := hide hv
  clear hv
  go_enter Tryz.func83, Tryz.ntmps83
  go_wp2
  go_ret
  exact ⟨ret_i64 (by rw [← HV.out]; unfold lowK; simp only [Int.mul_assoc]), rfl⟩
set_option maxRecDepth 100000 in
theorem doubled_high (p q v : Int) (hv : highK p q = v) (q0 : 1 ≤ q) (q1 : q ≤ 262144) (g : q ≤ p) (p1 : p < 2 * q) (w : World) :
    Calls Tryz.prog 83 #[.int .i64 p, .int .i64 q] w fun e w' => e = .returned (.int .i64 v) ∧ w = w' := by
  have p0 : 0 ≤ p := by omega
  have p2 : p ≤ 524288 := by omega
  obtain ⟨a0, a1⟩ := up_mul (a := p) (A := 524288) (b := p) (B := 524288) p0 p2 p0 p2
  obtain ⟨b0, b1⟩ := up_mul a0 a1 p0 p2
  obtain ⟨c0, c1⟩ := up_mul (a := 5 * p) (A := 2621440) (b := p) (B := 524288) (by omega) (by omega) p0 p2
  obtain ⟨d0, d1⟩ := up_mul c0 c1 (show 0 ≤ q by omega) q1
  obtain ⟨e0, e1⟩ := up_mul (a := 4 * q) (A := 1048576) (b := q) (B := 262144) (by omega) (by omega) (by omega) q1
  obtain ⟨f0, f1⟩ := up_mul e0 e1 (show 0 ≤ q by omega) q1
  obtain ⟨g0, g1⟩ := up_mul (a := 8 * p) (A := 4194304) (b := q) (B := 262144) (by omega) (by omega) (by omega) q1
  obtain ⟨h0, h1⟩ := up_mul g0 g1 (show 0 ≤ q by omega) q1
  have HV := hide hv
  clear hv
  go_enter Tryz.func83, Tryz.ntmps83
  go_wp2
  go_ret
  exact ⟨ret_i64 (by rw [← HV.out]; unfold highK; simp only [Int.mul_assoc]), rfl⟩
set_option maxRecDepth 100000 in
set_option maxHeartbeats 1000000 in
theorem keys_at (p q P : Int) (hP : absI p = P) (h0 : -9223372036854775808 < p) (h1 : p ≤ 9223372036854775807) (q0 : 1 ≤ q) (q1 : q ≤ 262144) (g0 : p < 2 * q) (g1 : -2 * q < p) (w : World) :
    Calls Tryz.prog 58 #[.int .i64 p, .int .i64 q] w fun e w' => e = .returned (.int .i64 (if P < q then divF (lowK P q * 1073741824) (2 * (q * q * q)) else divF (highK P q * 1073741824) (2 * (q * q * q)))) ∧ Below w.heap.size w w' := by
  have P0 : 0 ≤ P := by rw [← hP]; exact absI0 p
  have P1 : P < 2 * q := by rw [← hP]; unfold absI; split <;> omega
  obtain ⟨a0, a1, b0, b1, d0, d1, e0, e1⟩ := keys_bounds q0 q1 P0 (by omega)
  obtain ⟨s0, s1, c0, c1⟩ := cubes q0 q1
  obtain ⟨v, hv, v0, v1⟩ : ∃ v, (if P < q then lowK P q else highK P q) = v ∧ -9223372036854775808 ≤ v ∧ v ≤ 9223372036854775807 := by
    refine ⟨_, rfl, ?_⟩
    unfold lowK highK
    split <;> omega
  have hp : (decide (p < 0) = true ∧ -p = P) ∨ (decide (p < 0) = false ∧ p = P) := by
    unfold absI at hP
    by_cases h : p < 0
    · rw [if_pos h] at hP; exact Or.inl ⟨decide_eq_true h, hP⟩
    · rw [if_neg h] at hP; exact Or.inr ⟨decide_eq_false h, hP⟩
  clear hP
  have CD : ∀ w : World, Calls Tryz.prog 83 #[.int .i64 P, .int .i64 q] w fun e w' => e = .returned (.int .i64 v) ∧ w = w' := by
    intro w
    by_cases g : P < q
    · rw [if_pos g] at hv; exact doubled_low P q v hv q0 q1 P0 g w
    · rw [if_neg g] at hv; exact doubled_high P q v hv q0 q1 (by omega) P1 w
  have ez : (if P < q then divF (lowK P q * 1073741824) (2 * (q * q * q)) else divF (highK P q * 1073741824) (2 * (q * q * q))) = divF (v * 1073741824) (2 * q * q * q) := by
    rw [← hv, show 2 * q * q * q = 2 * (q * q * q) by simp only [Int.mul_assoc]]
    split <;> rfl
  rw [ez]
  have eq3 : 2 * q * q * q = 2 * (q * q * q) := by simp only [Int.mul_assoc]
  obtain ⟨f0, f1⟩ := up_mul (a := 2 * q) (A := 524288) (b := q) (B := 262144) (by omega) (by omega) (by omega) q1
  have CM := muldiv_to v 1073741824 (2 * q * q * q) _ rfl (by omega) (by omega) (by omega) (by omega) (by omega) (by omega)
  obtain ⟨t0, t1⟩ : 1 ≤ 2 * q * q * q ∧ 2 * q * q * q ≤ 36028797018963968 := by omega
  generalize divF (v * 1073741824) (2 * q * q * q) = z at *
  clear ez eq3 hv a0 a1 b0 b1 d0 d1 e0 e1 s0 s1 c0 c1 v0 v1
  rcases hp with ⟨hp, hP⟩ | ⟨hp, hP⟩
  · go_enter Tryz.func58, Tryz.ntmps58
    go_wp2_with (first
      | (go_at_call 83; (with_reducible refine (CD _).mono ?_); rintro e w1 ⟨rfl, rfl⟩)
      | (go_at_call 82; (with_reducible refine (CM _).mono ?_); rintro e w1 ⟨rfl, b1⟩))
    go_ret
    exact ⟨rfl, b1⟩
  · subst hP
    go_enter Tryz.func58, Tryz.ntmps58
    go_wp2_with (first
      | (go_at_call 83; (with_reducible refine (CD _).mono ?_); rintro e w1 ⟨rfl, rfl⟩)
      | (go_at_call 82; (with_reducible refine (CM _).mono ?_); rintro e w1 ⟨rfl, b1⟩))
    go_ret
    exact ⟨rfl, b1⟩
theorem keys_any (p q : Int) (h0 : -9223372036854775808 ≤ p) (h1 : p ≤ 9223372036854775807) (w : World) :
    Calls Tryz.prog 58 #[.int .i64 p, .int .i64 q] w fun e w' => e = .returned (.int .i64 (keysF p q)) ∧ Below w.heap.size w w' := by
  by_cases g : 1 ≤ q ∧ q ≤ 262144 ∧ p < 2 * q ∧ -2 * q < p
  · rw [show keysF p q = if absI p < q then divF (lowK (absI p) q * 1073741824) (2 * (q * q * q)) else divF (highK (absI p) q * 1073741824) (2 * (q * q * q)) from if_pos g]
    obtain ⟨q0, q1, g0, g1⟩ := g
    exact keys_at p q _ rfl (by omega) h1 q0 q1 g0 g1 w
  · rw [show keysF p q = 0 from if_neg g]
    by_cases g1 : q < 1
    · clear g
      go_enter Tryz.func58, Tryz.ntmps58
      go_wp2
      go_ret
      exact ⟨rfl, Below.refl _ _⟩
    by_cases g2 : 262144 < q
    · clear g
      go_enter Tryz.func58, Tryz.ntmps58
      go_wp2
      go_ret
      exact ⟨rfl, Below.refl _ _⟩
    by_cases g3 : p ≤ -2 * q
    · clear g
      go_enter Tryz.func58, Tryz.ntmps58
      go_wp2
      go_ret
      exact ⟨rfl, Below.refl _ _⟩
    have g4 : 2 * q ≤ p := by omega
    clear g
    go_enter Tryz.func58, Tryz.ntmps58
    go_wp2
    go_ret
    exact ⟨rfl, Below.refl _ _⟩
end Go.Proofs.YtclgghhpiljgfaaGreatDoor

/- What each source sample weighs: the law on rows and windows, out of what the program's own calls answer. -/
namespace Go.Proofs.YtclgghhpiljgfaaGreatDoor
open Go.RowKit


def I64 (x : Int) : Prop := -9223372036854775808 ≤ x ∧ x ≤ 9223372036854775807
def WinC : Prop := ∀ (f n m i j0 : Int) (c : Nat), MayP f n m i → IsWin f n m i j0 c → ∀ w : World, Kinds w → Calls Tryz.prog 80 #[.int .i64 f, .int .i64 n, .int .i64 m, .int .i64 i] w fun e w' => e = .returned (.tuple #[.int .i64 j0, .int .i64 (c : Int)]) ∧ Below w.heap.size w w'
theorem win_iff {f n m i j0 : Int} {c : Nat} (m0 : 1 ≤ m) (h : IsWin f n m i j0 c) (j : Int) : inW f n m i j = true ↔ j0 ≤ j ∧ j < j0 + c := by
  obtain ⟨h0, h1, h2, h3⟩ := h
  have ha : inW f n m i j0 = true := by have := h2 0 h0; simpa using this
  have hl : inW f n m i (j0 + (c - 1 : Nat)) = true := h2 (c - 1) (by omega)
  constructor
  · intro hj
    constructor
    · by_cases q : j0 ≤ j
      · exact q
      · have := inW_mid m0 (show j ≤ j0 - 1 by omega) (show j0 - 1 ≤ j0 by omega) hj ha
        rw [h1] at this; cases this
    · by_cases q : j < j0 + c
      · exact q
      · have := inW_mid m0 (show j0 + (c - 1 : Nat) ≤ j0 + (c : Int) by omega) (show j0 + (c : Int) ≤ j by omega) hl hj
        rw [h3] at this; cases this
  · rintro ⟨q0, q1⟩
    have := h2 (j - j0).toNat (by omega)
    rw [show j0 + ((j - j0).toNat : Int) = j by omega] at this
    exact this
end Go.Proofs.YtclgghhpiljgfaaGreatDoor

/- What each source sample weighs: the laws on names and on boxes, out of what the program's own calls answer. -/
namespace Go.Proofs.YtclgghhpiljgfaaGreatDoor
open Go.RowKit


def nameF (f : Int) : Value := if f = 0 then .string ⟨#[98, 111, 120]⟩ else if f = 1 then .string ⟨#[99, 117, 98, 105, 99]⟩ else if f = 2 then .string ⟨#[108, 97, 110, 99, 122, 111, 115]⟩ else .string ⟨#[]⟩
def NameC : Prop := ∀ f : Int, I64 f → ∀ w : World, Kinds w → Calls Tryz.prog 46 #[.int .i64 f] w fun e w' => e = .returned (nameF f) ∧ Below w.heap.size w w'
/-- Box's parts, and their sum. -/
def partB (n m i j : Int) : Int := min ((i + 1) * n) ((j + 1) * m) - max (i * n) (j * m)
theorem box_part {n m i j : Int} (n0 : 1 ≤ n) (n1 : n ≤ 65536) (m0 : 1 ≤ m) (h : inW 0 n m i j = true) : 1 ≤ partB n m i j ∧ partB n m i j ≤ n ∧ 0 ≤ weightR 0 n m i j ∧ weightR 0 n m i j ≤ 1073741824 ∧ -n ≤ 2 * (n * weightR 0 n m i j) - 2147483648 * partB n m i j ∧ 2 * (n * weightR 0 n m i j) - 2147483648 * partB n m i j ≤ n := by
  rw [inW_box] at h
  have s5 : (i + 1) * n = i * n + n := by rw [Int.add_mul, Int.one_mul]
  have s2 : (j + 1) * m = j * m + m := by rw [Int.add_mul, Int.one_mul]
  have p : 1 ≤ partB n m i j ∧ partB n m i j ≤ n := by unfold partB; omega
  have e : weightR 0 n m i j = divF (partB n m i j * 1073741824) n := if_pos rfl
  have q := near_in (X := partB n m i j * 1073741824) (d := n) (m := 1073741824) (by omega) (by omega) (by omega)
  have r := near_err (X := partB n m i j * 1073741824) (d := n) (by omega)
  rw [divF_of (by omega), holdI_in (by omega) (by omega)] at e
  rw [e]
  omega
end Go.Proofs.YtclgghhpiljgfaaGreatDoor
