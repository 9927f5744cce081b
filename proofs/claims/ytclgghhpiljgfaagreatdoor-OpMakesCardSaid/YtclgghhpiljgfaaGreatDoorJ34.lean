/- Parts, joined. -/
import Derived.Test.YtclgghhpiljgfaaGreatDoorJ33
import Derived.Test.YtclgghhpiljgfaaGreatDoorJ23
import Derived.Test.YtclgghhpiljgfaaGreatDoorJ29
import Derived.Deep.LoopGhost
/- Operations: the kinds' names: what the program's table holds, Name, and the law. Written by gen_XS12W.py. -/
namespace Go.Proofs.YtclgghhpiljgfaaGreatDoor
open Go.RowKit


abbrev oNGauss : ByteArray := ⟨#[103, 97, 117, 115, 115]⟩
abbrev oNBlur : ByteArray := ⟨#[98, 108, 117, 114]⟩
abbrev oNKernel : ByteArray := ⟨#[107, 101, 114, 110, 101, 108]⟩
abbrev oNResize : ByteArray := ⟨#[114, 101, 115, 105, 122, 101]⟩
/-- What the program's table of kinds' names holds. -/
def NamesO (w : World) : Prop :=
  w.cell? ⟨0, 0, none⟩ = some (.string oNGauss) ∧ w.cell? ⟨0, 1, none⟩ = some (.string oNBlur) ∧ w.cell? ⟨0, 2, none⟩ = some (.string oNKernel) ∧ w.cell? ⟨0, 3, none⟩ = some (.string oNResize)
theorem namesO_below {w w1 : World} (h : NamesO w) (b : Below w.heap.size w w1) : NamesO w1 := by
  obtain ⟨c0, c1, c2, c3⟩ := h
  have lc := cell_ltL c0
  exact ⟨cb b lc c0, cb b lc c1, cb b lc c2, cb b lc c3⟩
def nameO (k : Int) : Value := if k = 0 then .string oNGauss else if k = 1 then .string oNBlur else if k = 2 then .string oNKernel else if k = 3 then .string oNResize else .string ⟨#[]⟩
theorem nameO_any (k : Int) (w : World) (hk : NamesO w) :
    Calls Tryz.prog 23 #[.int .i64 k] w fun e w' => e = .returned (nameO k) ∧ w = w' := by
  obtain ⟨k0, k1, k2, k3⟩ := hk
  by_cases h0 : k = 0
  · subst h0
    have C := fun w => oknown_yes 0 (by omega) (by omega) w
    go_enter Tryz.func23, Tryz.ntmps23
    go_wp2_with (go_at_call 25; (with_reducible refine (C _).mono ?_); rintro e w1 ⟨rfl, rfl⟩)
    go_ret
    exact ⟨rfl, rfl⟩
  by_cases h1 : k = 1
  · subst h1
    have C := fun w => oknown_yes 1 (by omega) (by omega) w
    go_enter Tryz.func23, Tryz.ntmps23
    go_wp2_with (go_at_call 25; (with_reducible refine (C _).mono ?_); rintro e w1 ⟨rfl, rfl⟩)
    go_ret
    exact ⟨rfl, rfl⟩
  by_cases h2 : k = 2
  · subst h2
    have C := fun w => oknown_yes 2 (by omega) (by omega) w
    go_enter Tryz.func23, Tryz.ntmps23
    go_wp2_with (go_at_call 25; (with_reducible refine (C _).mono ?_); rintro e w1 ⟨rfl, rfl⟩)
    go_ret
    exact ⟨rfl, rfl⟩
  by_cases h3 : k = 3
  · subst h3
    have C := fun w => oknown_yes 3 (by omega) (by omega) w
    go_enter Tryz.func23, Tryz.ntmps23
    go_wp2_with (go_at_call 25; (with_reducible refine (C _).mono ?_); rintro e w1 ⟨rfl, rfl⟩)
    go_ret
    exact ⟨rfl, rfl⟩
  have C := fun w => oknown_no k (by omega) w
  rw [show nameO k = .string ⟨#[]⟩ by unfold nameO; rw [if_neg h0, if_neg h1, if_neg h2, if_neg h3]]
  clear h0 h1 h2 h3 k0 k1 k2 k3
  go_enter Tryz.func23, Tryz.ntmps23
  go_wp2_with (go_at_call 25; (with_reducible refine (C _).mono ?_); rintro e w1 ⟨rfl, rfl⟩)
  go_ret
  exact ⟨rfl, rfl⟩
set_option maxHeartbeats 1000000 in
theorem names_law12 (k : Int) (w : World) (hk : OpK w) (ho : NamesO w) (_ : -9223372036854775808 ≤ k ∧ k ≤ 9223372036854775807) :
    Calls Tryz.prog 7 #[.int .i64 k] w fun e w' => e = .returned (.bool true) ∧ Below w.heap.size w w' := by
  have CL := olives opk_below (fun _ h => h.1) omake_any w hk
  have CN := fun w' (hk : NamesO w') => nameO_any k w' hk
  have HO := hide (fun w' (b : Below w.heap.size w w') => namesO_below ho b)
  clear hk ho
  by_cases h0 : k = 0
  · subst h0
    rw [show nameO 0 = .string oNGauss from rfl] at CN
    go_enter Tryz.func7, Tryz.ntmps7
    go_wp2_with (first
      | (go_at_call 8; (with_reducible refine CL.mono ?_); rintro e w1 ⟨rfl, b1⟩)
      | (go_at_call 23; (with_reducible refine (CN _ (HO.out _ (ba b1 _))).mono ?_); rintro e w2 ⟨rfl, rfl⟩))
    go_ret
    exact ⟨rfl, ba b1 _⟩
  by_cases h1 : k = 1
  · subst h1
    rw [show nameO 1 = .string oNBlur from rfl] at CN
    go_enter Tryz.func7, Tryz.ntmps7
    go_wp2_with (first
      | (go_at_call 8; (with_reducible refine CL.mono ?_); rintro e w1 ⟨rfl, b1⟩)
      | (go_at_call 23; (with_reducible refine (CN _ (HO.out _ (ba b1 _))).mono ?_); rintro e w2 ⟨rfl, rfl⟩))
    go_ret
    exact ⟨rfl, ba b1 _⟩
  by_cases h2 : k = 2
  · subst h2
    rw [show nameO 2 = .string oNKernel from rfl] at CN
    go_enter Tryz.func7, Tryz.ntmps7
    go_wp2_with (first
      | (go_at_call 8; (with_reducible refine CL.mono ?_); rintro e w1 ⟨rfl, b1⟩)
      | (go_at_call 23; (with_reducible refine (CN _ (HO.out _ (ba b1 _))).mono ?_); rintro e w2 ⟨rfl, rfl⟩))
    go_ret
    exact ⟨rfl, ba b1 _⟩
  by_cases h3 : k = 3
  · subst h3
    rw [show nameO 3 = .string oNResize from rfl] at CN
    go_enter Tryz.func7, Tryz.ntmps7
    go_wp2_with (first
      | (go_at_call 8; (with_reducible refine CL.mono ?_); rintro e w1 ⟨rfl, b1⟩)
      | (go_at_call 23; (with_reducible refine (CN _ (HO.out _ (ba b1 _))).mono ?_); rintro e w2 ⟨rfl, rfl⟩))
    go_ret
    exact ⟨rfl, ba b1 _⟩
  rw [show nameO k = .string ⟨#[]⟩ by unfold nameO; rw [if_neg h0, if_neg h1, if_neg h2, if_neg h3]] at CN
  rcases (show (k < 0) ∨ (0 ≤ k ∧ 4 ≤ k) by omega) with g | ⟨g, g2⟩
  all_goals
    clear h0 h1 h2 h3
    go_enter Tryz.func7, Tryz.ntmps7
    go_wp2_with (first
      | (go_at_call 8; (with_reducible refine CL.mono ?_); rintro e w1 ⟨rfl, b1⟩)
      | (go_at_call 23; (with_reducible refine (CN _ (HO.out _ b1)).mono ?_); rintro e w2 ⟨rfl, rfl⟩))
    go_ret
    exact ⟨rfl, b1⟩
end Go.Proofs.YtclgghhpiljgfaaGreatDoor

/- Operations: what makes each sample stay itself: the law. -/
namespace Go.Proofs.YtclgghhpiljgfaaGreatDoor
open Go.RowKit


def blurO : Opr := ⟨1, 1, 0, 0, [], [], 0, 0, 0⟩
def boxO (x y : Int) : Opr := ⟨3, 0, 0, 0, [], [], 0, x, y⟩
def twoO (x y : Int) : List Opr := [blurO, boxO x y]
theorem user_one : blurOut 0 = [1073741824] ∧ appCode [1073741824] = 0 ∧ appR [1073741824] = [16384] := by decide +kernel
theorem lines_same {n : Int} (n0 : 1 ≤ n) (n1 : n ≤ 65536) : linesTo 0 n n n.toNat = sameTo n.toNat := by
  unfold linesTo sameTo
  exact List.map_congr_left fun i _ => (res_box n0 n1).2 i
theorem fil_same (k : Nat) : filTo [1073741824] k = sameTo k := by
  unfold filTo sameTo
  refine List.map_congr_left fun i _ => ?_
  show ((i : Int) - ((1 / 2 : Nat) : Int), appR [1073741824]) = ((i : Int), [16384])
  rw [user_one.2.2, show ((1 / 2 : Nat) : Int) = 0 from rfl, Int.sub_zero]
theorem fil_zero {n : Int} (n0 : 1 ≤ n) (n1 : n ≤ 65536) : filCode [1073741824] n = 0 := by
  unfold filCode
  rw [if_pos ((sideB_iff n).2 ⟨n0, n1⟩), if_neg (by decide), user_one.2.1]
theorem two_make {x y : Int} (x0 : 1 ≤ x) (x1 : x ≤ 65536) (y0 : 1 ≤ y) (y1 : y ≤ 65536) {k : Nat} (hk : k < 2) :
    opCode (opAt (twoO x y) k) x y = 0 ∧ (stgOf (opAt (twoO x y) k) x y).lx = sameTo x.toNat ∧ (stgOf (opAt (twoO x y) k) x y).ly = sameTo y.toNat ∧ (stgOf (opAt (twoO x y) k) x y).fx = x ∧ (stgOf (opAt (twoO x y) k) x y).fy = y ∧ OpFits (opAt (twoO x y) k) := by
  rcases (show k = 0 ∨ k = 1 by omega) with rfl | rfl
  · show opCode blurO x y = 0 ∧ (stgOf blurO x y).lx = _ ∧ (stgOf blurO x y).ly = _ ∧ x = x ∧ y = y ∧ OpFits blurO
    have ho : okO blurO x y = true := (okO_iff blurO x y).2 ⟨by decide, by decide, ⟨x0, x1⟩, ⟨y0, y1⟩, fun q => by cases q⟩
    have hx : wX blurO = [1073741824] := user_one.1
    have hy : wY blurO = [1073741824] := user_one.1
    refine ⟨?_, ?_, ?_, rfl, rfl, ?_⟩
    · unfold opCode xCode yCode
      rw [ho, hx, hy, if_neg (by decide), if_neg (show ¬ (blurO.kd ≠ 3 ∧ wCode blurO ≠ 0) by decide), if_neg (show ¬ blurO.kd = 3 by decide), if_neg (show ¬ blurO.kd = 3 by decide), fil_zero x0 x1, fil_zero y0 y1]
      rfl
    · show xLines blurO x = _
      unfold xLines
      rw [if_neg (show ¬ blurO.kd = 3 by decide), hx, fil_same]
    · show yLines blurO y = _
      unfold yLines
      rw [if_neg (show ¬ blurO.kd = 3 by decide), hy, fil_same]
    · refine ⟨?_, ?_, ?_, ?_, ?_, ?_, ?_, (fun n hn => by cases hn), (fun n hn => by cases hn), Nat.zero_le _, Nat.zero_le _⟩ <;> (unfold In64 blurO; simp)
  · show opCode (boxO x y) x y = 0 ∧ (stgOf (boxO x y) x y).lx = _ ∧ (stgOf (boxO x y) x y).ly = _ ∧ x = x ∧ y = y ∧ OpFits (boxO x y)
    have ho : okO (boxO x y) x y = true := (okO_iff (boxO x y) x y).2 ⟨⟨by show (0 : Int) ≤ 3; decide, by show (3 : Int) ≤ 3; decide⟩, ⟨by show (0 : Int) ≤ 0; decide, by show (0 : Int) ≤ 2; decide⟩, ⟨x0, x1⟩, ⟨y0, y1⟩, fun _ => ⟨⟨x0, x1⟩, ⟨y0, y1⟩, by show (0 : Int) ≤ 0; decide, by show (0 : Int) ≤ 2; decide⟩⟩
    have k3 : (boxO x y).kd = 3 := rfl
    refine ⟨?_, ?_, ?_, rfl, rfl, ?_⟩
    · unfold opCode xCode yCode
      rw [ho, if_neg (by decide), if_neg (fun q => q.1 k3), if_pos k3, if_pos k3, show (boxO x y).fl = 0 from rfl, show (boxO x y).wd = x from rfl, show (boxO x y).ht = y from rfl, (res_box x0 x1).1, (res_box y0 y1).1]
      rfl
    · show xLines (boxO x y) x = _
      unfold xLines
      rw [if_pos k3, show (boxO x y).fl = 0 from rfl, show (boxO x y).wd = x from rfl, lines_same x0 x1]
    · show yLines (boxO x y) y = _
      unfold yLines
      rw [if_pos k3, show (boxO x y).fl = 0 from rfl, show (boxO x y).ht = y from rfl, lines_same y0 y1]
    · refine ⟨?_, ?_, ?_, ?_, ?_, ?_, ?_, (fun n hn => by cases hn), (fun n hn => by cases hn), Nat.zero_le _, Nat.zero_le _⟩ <;> (unfold In64 boxO; simp <;> omega)
/-- The literal of the two. -/
theorem two_lit (w : World) (T : TypeId) (x y : Int) : OpsAt (w.alloc (.cells #[.int .i64 1, .int .i64 1, .int .i64 0, .int .i64 0, .slice none 0 0, .slice none 0 0, .int .i64 0, .int .i64 0, .int .i64 0, .int .i64 3, .int .i64 0, .int .i64 0, .int .i64 0, .slice none 0 0, .slice none 0 0, .int .i64 0, .int .i64 x, .int .i64 y] T)) (some ⟨w.heap.size, 0, none⟩) (twoO x y) := by
  refine .inr ⟨w.heap.size, 0, rfl, fun j hj => ?_⟩
  have A : ∀ (W : World), OpAt W blurO none 0 none 0 ∧ OpAt W (boxO x y) none 0 none 0 := fun W => ⟨⟨.inl rfl, .inl rfl, fun _ => rfl, fun _ => rfl⟩, .inl rfl, .inl rfl, fun _ => rfl, fun _ => rfl⟩
  rcases (show j = 0 ∨ j = 1 by simp [twoO] at hj; omega) with rfl | rfl
  · show OpIn _ _ _ blurO
    refine ⟨?_, ?_, ?_, ?_, ?_, ?_, ?_, none, 0, none, 0, ?_, ?_, (A _).1⟩ <;> simp [blurO]
  · show OpIn _ _ _ (boxO x y)
    refine ⟨?_, ?_, ?_, ?_, ?_, ?_, ?_, none, 0, none, 0, ?_, ?_, (A _).2⟩ <;> simp [boxO]
set_option maxHeartbeats 4000000 in
set_option maxRecDepth 100000 in
theorem law_OpSame (a b : Int) (w : World) (hk : OpK w) (ha : 0 ≤ a ∧ a ≤ 255) (hb : 0 ≤ b ∧ b ≤ 255) :
    Calls Tryz.prog 3 #[.int .u8 a, .int .u8 b] w fun e w' => e = .returned (.bool true) ∧ Below w.heap.size w w' := by
  have CL := olives opk_below (fun _ h => h.1) omake_any w hk
  obtain ⟨a0, a1⟩ := ha
  obtain ⟨b0, b1⟩ := hb
  obtain ⟨x, hx⟩ : ∃ x : Int, 1 + a % 30 = x := ⟨_, rfl⟩
  obtain ⟨y, hy⟩ : ∃ y : Int, 1 + b % 30 = y := ⟨_, rfl⟩
  have x0 : 1 ≤ x := by omega
  have x1 : x ≤ 30 := by omega
  have y0 : 1 ≤ y := by omega
  have y1 : y ≤ 30 := by omega
  have ra : 0 ≤ a % 30 ∧ a % 30 < 30 := by omega
  have rb : 0 ≤ b % 30 ∧ b % 30 < 30 := by omega
  have CM : ∀ (k : Nat), k < 2 → ∀ (ax : Option Addr) (cx : Nat) (ay : Option Addr) (cy : Nat) (w' : World), Below w.heap.size w w' → OpAt w' (opAt (twoO x y) k) ax cx ay cy →
      Calls Tryz.prog 9 #[opV (opAt (twoO x y) k) ax cx ay cy, .int .i64 x, .int .i64 y] w' fun e w'' => (∃ gx gy sb, e = .returned (.tuple #[.agg #[.pointer (some gx), .pointer (some gy), .int .i64 sb], .int .i64 0]) ∧ Tab w'' (.pointer (some gx)) x (sameTo x.toNat) ∧ Tab w'' (.pointer (some gy)) y (sameTo y.toNat)) ∧ Below w'.heap.size w' w'' := by
    intro k hk2 ax cx ay cy w' b' hA
    obtain ⟨h1, h2, h3, h4, h5, hF⟩ := two_make x0 (by omega : x ≤ 65536) y0 (by omega : y ≤ 65536) hk2
    refine (omake_any _ ax cx ay cy x y w' (opk_below _ _ hk b') hA hF (by unfold In64; omega) (by unfold In64; omega)).mono ?_
    rintro e w'' ⟨hA, hB⟩
    rw [h1] at hA
    rcases hA with ⟨q, _⟩ | ⟨_, u, v, he, tx, ty⟩
    · exact absurd rfl q
    · rw [h2, h4] at tx
      rw [h3, h5] at ty
      obtain ⟨gx, rfl⟩ := tx.ptr
      obtain ⟨gy, rfl⟩ := ty.ptr
      exact ⟨⟨gx, gy, _, he, tx, ty⟩, hB⟩
  have HCM := hide CM
  obtain ⟨n, hn⟩ : ∃ n : Nat, x.toNat = n := ⟨_, rfl⟩
  obtain ⟨m, hmm⟩ : ∃ m : Nat, y.toNat = m := ⟨_, rfl⟩
  have hxn : x = (n : Int) := by omega
  have n1 : n ≤ 30 := by omega
  have n0 : 1 ≤ n := by omega
  have m0 : 1 ≤ m := by omega
  rw [hn, hmm] at HCM
  subst hxn
  clear CM hk hn hmm
  go_enter Tryz.func3, Tryz.ntmps3
  go_wp2_with (go_at_call 8; (with_reducible refine CL.mono ?_); rintro e w1 ⟨rfl, bL⟩)
  have HL := hide (two_lit w1 28 (n : Int) y)
  have HB := hide (ba bL (.cells #[.int .i64 1, .int .i64 1, .int .i64 0, .int .i64 0, .slice none 0 0, .slice none 0 0, .int .i64 0, .int .i64 0, .int .i64 0, .int .i64 3, .int .i64 0, .int .i64 0, .int .i64 0, .slice none 0 0, .slice none 0 0, .int .i64 0, .int .i64 (n : Int), .int .i64 y] 28))
  clear CL bL
  obtain ⟨W1, hW1⟩ : ∃ W1, w1.alloc (.cells #[.int .i64 1, .int .i64 1, .int .i64 0, .int .i64 0, .slice none 0 0, .slice none 0 0, .int .i64 0, .int .i64 0, .int .i64 0, .int .i64 3, .int .i64 0, .int .i64 0, .int .i64 0, .slice none 0 0, .slice none 0 0, .int .i64 0, .int .i64 (n : Int), .int .i64 y] 28) = W1 := ⟨_, rfl⟩
  rw [hW1] at HL HB
  simp only [hW1]
  clear hW1
  go_loopg [29] 2 (fun r i wr => ∃ k : Nat, k + r = 2 ∧ i = .int .i64 (k : Int) ∧ Below W1.heap.size W1 wr)
  case atStart => exact ⟨0, by omega, rfl, Below.refl _ _⟩
  case round =>
    obtain ⟨k, hj, rfl, hb⟩ := hrel
    obtain ⟨G, hG⟩ : ∃ G, G = gk := ⟨_, rfl⟩
    subst hG
    obtain ⟨W, hW⟩ : ∃ W, W = wr := ⟨_, rfl⟩
    subst hW
    have HJ := hide hj
    have HBR := hide hb
    have hop := HL.out.below hb
    clear hb hj
    by_cases hlt : k < 2
    · obtain ⟨bl, off, hadr, g0, g1, g2, g3, g6, g7, g8, ax, cx, ay, cy, g4, g5, ga⟩ := hop.get (show k < (twoO (n : Int) y).length from hlt)
      obtain ⟨rfl, rfl⟩ : w1.heap.size = bl ∧ 0 = off := by simpa using hadr
      rw [Nat.zero_add] at g0 g1 g2 g3 g4 g5 g6 g7 g8
      have CM := fun w' (b' : Below W.heap.size W w') => HCM.out k hlt ax cx ay cy w' (bt (bt HB.out HBR.out) b') (ga.below b')
      unfold opV at CM
      clear ga hop hadr
      generalize opAt (twoO (n : Int) y) k = o at *
      obtain ⟨kd, bo, sg, rd, xs, ys, fl, wd, ht⟩ := o
      simp only at *
      generalize xs.length = nx at *
      generalize ys.length = ny at *
      have q1 : ∀ (g : Addr) (w : World), (binOp .eql 30 (.pointer (some g)) (.pointer none)).run Tryz.prog w = .ok (.bool false) w := fun g w => by kernel_rfl
      go_wp2_with (first
        | (go_at_call 9; (with_reducible refine (CM _ (below1 _ _)).mono ?_); rintro e w2 ⟨⟨gx, gy, sb, rfl, tx, ty⟩, b2⟩; have TX := hide tx; have TY := hide ty; clear tx ty; have X0 := hide (S3new w2 32 (.pointer (some gx)) (.pointer (some gy)) (.int .i64 sb)); have HM1 := (fun (W' : World) (b' : Below w2.heap.size w2 W') => (show Calls Tryz.prog 10 #[.pointer (some gx)] W' fun e w'' => e = .returned (.int .i64 1) ∧ Below W'.heap.size W' w'' by have := tab_most (TX.out.below b'); rw [most_same n n0] at this; exact this)); have HM2 := (fun (W' : World) (b' : Below w2.heap.size w2 W') => (show Calls Tryz.prog 10 #[.pointer (some gy)] W' fun e w'' => e = .returned (.int .i64 1) ∧ Below W'.heap.size W' w'' by have := tab_most (TY.out.below b'); rw [most_same m m0] at this; exact this)); have qx := q1 gx; have qy := q1 gy)
        | (go_at_call 10; (with_reducible refine (HM1 _ (below1 _ _)).mono ?_); rintro e w3 ⟨rfl, b3⟩; have HX3 := hide (t3_below X0.out b3); obtain ⟨x0', x1', x2'⟩ := t3_below X0.out b3)
        | (go_at_call 10; (with_reducible refine (HM2 _ (bt (below1 _ _) b3)).mono ?_); rintro e w4 ⟨rfl, b4⟩; have HX4 := hide (t3_below HX3.out b4); obtain ⟨z0, z1, z2⟩ := t3_below HX3.out b4))
      have T4 := hide ((TX.out.below (below1 w2 (.cells #[.pointer (some gx), .pointer (some gy), .int .i64 sb] 32))).below (bt b3 b4))
      have B4 := hide (bt (bt (ba (bt (below1 W (.cells #[.int .i64 kd, .int .i64 bo, .int .i64 sg, .int .i64 rd, .slice ax nx cx, .slice ay ny cy, .int .i64 fl, .int .i64 wd, .int .i64 ht] 28)) b2) (.cells #[.pointer (some gx), .pointer (some gy), .int .i64 sb] 32)) b3) b4)
      have HN := hide (sameTo_len n)
      have X1 : ∀ (w' : World), Below w4.heap.size w4 w' → ∀ j : Nat, j < n → Calls Tryz.prog 11 #[.pointer (some gx), .int .i64 (j : Int)] w' fun e w'' => ∃ u, e = .returned (.agg #[.int .i64 (j : Int), u]) ∧ OwnI .i64 2 w'' w'.heap.size u [16384] ∧ Below w'.heap.size w' w'' := by
        intro w' b j hj
        have := tab_line (T4.out.below b) j (by rw [HN.out]; exact hj)
        rw [sameTo_at hj] at this
        exact this
      clear TX TY X0 HM1 HM2 HX3 b2 b3 b4 x0' x1' x2' CM g0 g1 g2 g3 g4 g5 g6 g7 g8
      go_loopg [65] n (fun r i wr => ∃ q : Nat, q + r = n ∧ i = .int .i64 (q : Int) ∧ Below w4.heap.size w4 wr)
      case atStart => exact ⟨0, by omega, rfl, Below.refl _ _⟩
      case round =>
        obtain ⟨q, hq, rfl, hb⟩ := hrel
        have HQ := hide hq
        have HBI := hide hb
        by_cases hlq : q < n
        · obtain ⟨u0, u1, u2⟩ := t3_below HX4.out hb
          clear hb hq z0 z1 z2
          go_wp2_with (go_at_call 11; (with_reducible refine (X1 _ (by first | exact HBI.out | exact bt HBI.out (Below.refl _ _)) q hlq).mono ?_); rintro e w7 ⟨u, rfl, ou, b7⟩; obtain ⟨d0, p0, rfl, r0, _⟩ := ou.formn (show [(16384 : Int)].length = 1 from rfl); obtain ⟨d1, o1, rfl, rc⟩ := r0.get (show 0 < [(16384 : Int)].length by decide); replace rc : w7.cell? ⟨d1, o1, none⟩ = some (.int .i64 16384) := rc; have rd7 := ca (ob := .cells #[.int .i64 (q : Int), .slice (some ⟨d1, o1, none⟩) 1 p0] 38) (cell_ltL rc) rc)
          go_roundg (gk - 1)
          case rel => exact ⟨q + 1, by have := HQ.out; omega, by go_num, ba (bt HBI.out b7) _⟩
          case measure => have := HQ.out; omega
        · obtain rfl : q = n := by have := HQ.out; omega
          clear hb hq z0 z1 z2
          go_wp2
          go_roundg (G - 1)
          case rel => exact ⟨k + 1, by have := HJ.out; omega, by go_num, bt (bt HBR.out B4.out) HBI.out⟩
          case measure => have := HJ.out; omega
    · obtain rfl : k = 2 := by have := HJ.out; omega
      clear hop
      go_wp2
      go_ret
      exact ⟨rfl, bt HB.out HBR.out⟩
end Go.Proofs.YtclgghhpiljgfaaGreatDoor
