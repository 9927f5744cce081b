/- Parts, joined. -/
import Derived.Test.YtdpkigdfhfippaaGreatDoorJ13
import Derived.Test.YtdpkigdfhfippaaGreatDoorJ15
import Derived.Test.YtdpkigdfhfippaaGreatDoorJ01
import Derived.Test.YtdpkigdfhfippaaGreatDoorJ04
import Derived.Test.YtdpkigdfhfippaaGreatDoorJ05
import Derived.Test.YtdpkigdfhfippaaGreatDoorJ09
import Derived.Deep.RegionHeld3
import Derived.Laws.FloatArith
import Derived.RowKit
/- Lines of a table in memory. No number of the program but that of int64 stands in it. -/
namespace Go.Proofs.YtdpkigdfhfippaaGreatDoor
open Go.RowKit


/-- The block holds these lines. -/
def LinesAt (w : World) (g : Nat) (L : List (Int × List Int)) : Prop :=
  ∀ j, j < L.length → w.cell? ⟨g, j * 2, none⟩ = some (.int .i64 (lnAt L j).1) ∧ ∃ u, w.cell? ⟨g, j * 2 + 1, none⟩ = some u ∧ Ret .i64 (lnAt L j).2 w u
theorem LinesAt.below {w w' : World} {g : Nat} {L : List (Int × List Int)} (h : LinesAt w g L) (hb : Below w.heap.size w w') : LinesAt w' g L := by
  intro j hj
  obtain ⟨h1, u, h2, h3⟩ := h j hj
  exact ⟨cb hb (cell_ltL h1) h1, u, cb hb (cell_ltL h2) h2, h3.below hb⟩
/-- The cells of lines. -/
def lcells : List (Int × List Int) → List Value → List Value
  | x :: L, u :: us => .int .i64 x.1 :: u :: lcells L us
  | _, _ => []
theorem lcells_snoc {L : List (Int × List Int)} {us : List Value} (h : us.length = L.length) (x : Int × List Int) (u : Value) : lcells (L ++ [x]) (us ++ [u]) = lcells L us ++ [.int .i64 x.1, u] := by
  induction L generalizing us with
  | nil => rw [List.eq_nil_of_length_eq_zero h]; rfl
  | cons y L ih =>
    cases us with
    | nil => simp at h
    | cons v us =>
      show _ :: _ :: lcells (L ++ [x]) (us ++ [u]) = _
      rw [ih (by simpa using h)]; rfl
theorem lcells_get {L : List (Int × List Int)} {us : List Value} (h : us.length = L.length) {j : Nat} (hj : j < L.length) : (lcells L us)[2 * j]? = some (.int .i64 (lnAt L j).1) ∧ (lcells L us)[2 * j + 1]? = some (us.getD j undef) := by
  induction L generalizing us j with
  | nil => simp at hj
  | cons y L ih =>
    cases us with
    | nil => simp at h
    | cons v us =>
      cases j with
      | zero => exact ⟨rfl, rfl⟩
      | succ j =>
        have := ih (us := us) (by simpa using h) (j := j) (by simpa using hj)
        show (Value.int .i64 y.1 :: v :: lcells L us)[2 * (j + 1)]? = _ ∧ (Value.int .i64 y.1 :: v :: lcells L us)[2 * (j + 1) + 1]? = _
        rw [show 2 * (j + 1) = 2 * j + 1 + 1 by omega]
        exact this
theorem getD_old {us : List Value} {u : Value} {j : Nat} (h : j < us.length) : (us ++ [u]).getD j undef = us.getD j undef := by
  rw [List.getD_eq_getElem?_getD, List.getD_eq_getElem?_getD, List.getElem?_append_left h]
theorem getD_new (us : List Value) (u : Value) : (us ++ [u]).getD us.length undef = u := by
  rw [List.getD_eq_getElem?_getD, List.getElem?_append_right (Nat.le_refl _), Nat.sub_self]; rfl
/-- Lines that the call itself made, with taps that it made. -/
def OwnLs (T : TypeId) (w : World) (base : Nat) (v : Value) (L : List (Int × List Int)) : Prop :=
  ∃ us : List Value, us.length = L.length ∧ w.ownsRow base T 2 v L.length (lcells L us) ∧ ∀ j, j < L.length → OwnI .i64 2 w base (us.getD j undef) (lnAt L j).2
theorem OwnLs.nil (T : TypeId) (w : World) (base : Nat) : OwnLs T w base (.slice none 0 0) [] := ⟨[], rfl, World.ownsRow_nil _ _ _ _, fun _ h => absurd h (Nat.not_lt_zero _)⟩
theorem row_kept {T : TypeId} {w w' : World} {base k : Nat} {v : Value} {n : Nat} {xs : List Value} (h : w.ownsRow base T k v n xs) (hb : Below w.heap.size w w') : w'.ownsRow base T k v n xs := by
  refine ⟨h.1, ?_⟩
  rcases h.2 with h2 | ⟨g, cap, cur, hv, hB, hg, r⟩
  · exact .inl h2
  · refine .inr ⟨g, cap, cur, hv, hB, ?_, r⟩
    have hlt : g < w.heap.size := by
      rcases Nat.lt_or_ge g w.heap.size with hlt | hge
      · exact hlt
      · rw [Array.getElem?_eq_none hge] at hg; cases hg
    rw [hb.block g hlt]; exact hg
theorem OwnLs.below {T : TypeId} {w w' : World} {base : Nat} {v : Value} {L : List (Int × List Int)} (h : OwnLs T w base v L) (hb : Below w.heap.size w w') : OwnLs T w' base v L := by
  obtain ⟨us, h1, h2, h3⟩ := h
  exact ⟨us, h1, row_kept h2 hb, fun j hj => (h3 j hj).below hb⟩
theorem own_apart {T T' : TypeId} (hne : T ≠ T') {w : World} {base base' k k' : Nat} {v v' : Value} {n n' : Nat} {xs xs' : List Value} (h : w.ownsRow base T k v n xs) (h' : w.ownsRow base' T' k' v' n' xs') : Apart v v' := by
  intro g hg hg'
  rcases h.2 with ⟨hv, _⟩ | ⟨b, cap, cur, hv, _, hb, _⟩
  · subst hv; cases hg
  · rcases h'.2 with ⟨hv', _⟩ | ⟨b', cap', cur', hv', _, hb', _⟩
    · subst hv'; cases hg'
    · subst hv; subst hv'
      obtain rfl := Option.some.inj hg
      obtain rfl := Option.some.inj hg'
      rw [hb] at hb'
      injection hb' with hb'
      injection hb' with _ ht
      exact hne ht
/-- One line is appended. -/
theorem OwnLs.more {T : TypeId} (hT : 2 ≠ T) {w0 wc w2 : World} {v v' u : Value} {L : List (Int × List Int)} {x : Int × List Int} {o : Obj} (hb : Below w0.heap.size w0 wc) {us : List Value} (hu : us.length = L.length)
    (hown : wc.ownsRow w0.heap.size T 2 v L.length (lcells L us)) (hin : ∀ j, j < L.length → OwnI .i64 2 wc w0.heap.size (us.getD j undef) (lnAt L j).2) (hx : OwnI .i64 2 wc w0.heap.size u x.2)
    (hown' : w2.ownsRow w0.heap.size T 2 v' (L.length + 1) (lcells L us ++ [.int .i64 x.1, u])) (hgrow : (wc.alloc o).grownBy w2 v.ownBlock) :
    OwnLs T w2 w0.heap.size v' (L ++ [x]) ∧ Below w0.heap.size w0 w2 := by
  have hs := hb.size
  refine ⟨⟨us ++ [u], by rw [List.length_append, List.length_append, hu]; rfl, ?_, ?_⟩, (hb.alloc (by omega) o).grown hgrow (by simp; omega) (fun j hj => (World.ownsRow.lt hown j hj).1)⟩
  · rw [lcells_snoc hu, List.length_append]; exact hown'
  · intro j hj
    have K : ∀ {y : Value} {xs : List Int}, OwnI .i64 2 wc w0.heap.size y xs → OwnI .i64 2 w2 w0.heap.size y xs := fun {y xs} hy => OwnI.kept (hy.alloc o) hgrow (own_apart hT (hy.alloc o) (World.ownsRow.alloc hown o))
    rw [List.length_append, List.length_singleton] at hj
    by_cases e : j = L.length
    · subst e
      rw [lnAt_new, show (us ++ [u]).getD L.length undef = u by rw [← hu]; exact getD_new us u]
      exact K hx
    · rw [lnAt_old x (by omega), getD_old (by omega)]
      exact K (hin j (by omega))
/-- As lines that can be read. -/
theorem OwnLs.read {T : TypeId} {w : World} {base : Nat} {v : Value} {L : List (Int × List Int)} (h : OwnLs T w base v L) (h0 : L ≠ []) : ∃ g cap, v = .slice (some ⟨g, 0, none⟩) L.length cap ∧ g < w.heap.size ∧ LinesAt w g L := by
  obtain ⟨us, h1, h2, h3⟩ := h
  have hl : 0 < L.length := List.length_pos_iff.2 h0
  obtain ⟨g, cap, hv, hlt⟩ : ∃ g cap, v = .slice (some ⟨g, 0, none⟩) L.length cap ∧ g < w.heap.size := by
    rcases h2.2 with ⟨_, h0⟩ | ⟨g, cap, cur, hv, _, hg, _⟩
    · omega
    · refine ⟨g, cap, hv, ?_⟩
      rcases Nat.lt_or_ge g w.heap.size with hlt | hge
      · exact hlt
      · rw [Array.getElem?_eq_none hge] at hg; cases hg
  subst hv
  refine ⟨g, cap, rfl, hlt, fun j hj => ?_⟩
  obtain ⟨c1, c2⟩ := lcells_get h1 hj
  have e1 := World.ownsRow.cells h2 (g := g) rfl _ _ c1
  have e2 := World.ownsRow.cells h2 (g := g) rfl _ _ c2
  rw [addr_add, Nat.zero_add] at e1 e2
  rw [Nat.mul_comm 2 j] at e1 e2
  exact ⟨e1, _, e2, (h3 j hj).ret⟩
end Go.Proofs.YtdpkigdfhfippaaGreatDoor

/- Weights that come to one: the examples, and the law on taps, out of what the program's own calls answer. -/
namespace Go.Proofs.YtdpkigdfhfippaaGreatDoor
open Go.RowKit


theorem lit3 (w : World) (a b c : Int) (t : TypeId) : RowAt .i64 (w.alloc (.cells #[.int .i64 a, .int .i64 b, .int .i64 c] t)) (some ⟨w.heap.size, 0, none⟩) [a, b, c] := by
  refine Or.inr ⟨w.heap.size, 0, rfl, fun j hj => ?_⟩
  match j, hj with
  | 0, _ => simp
  | 1, _ => simp
  | 2, _ => simp
theorem all64_ex : All64 [536870912, 536870912, 536870912] := by
  intro j hj
  match j, hj with
  | 0, _ => decide
  | 1, _ => decide
  | 2, _ => decide
theorem app_ex : appCode [536870912, 536870912, 536870912] = 0 ∧ appOut [536870912, 536870912, 536870912] = [5462, 5461, 5461] := by decide +kernel
theorem gau_ex : gauCode 65536 = 0 ∧ (gauOut 65536).length = 7 := by
  refine ⟨by decide, ?_⟩
  unfold gauOut
  rw [if_pos (by omega)]
  unfold gaussR
  rw [gaussTo_len]
  decide
theorem tlives {K : World → Prop} (hKB : ∀ w w', K w → Below w.heap.size w w' → K w') (CA : AppC K) (CG : GauC K) (w : World) (hk : K w) :
    Calls Tryz.prog 55 #[] w fun e w' => e = .returned (.bool true) ∧ Below w.heap.size w w' := by
  have C1 := fun (w : World) hk hr => CA [536870912, 536870912, 536870912] (some ⟨w.heap.size, 0, none⟩) 3 (w.alloc (.cells #[.int .i64 536870912, .int .i64 536870912, .int .i64 536870912] 2)) hk hr all64_ex (by decide)
  rw [show [(536870912 : Int), 536870912, 536870912].length = 3 from rfl] at C1
  have C2 := fun w hk => CG 65536 w hk (by omega) (by omega)
  obtain ⟨e1, e2⟩ := app_ex
  obtain ⟨e3, e4⟩ := gau_ex
  rw [e1, e2] at C1
  rw [e3] at C2
  obtain ⟨gs, hgs⟩ : ∃ gs, gauOut 65536 = gs := ⟨_, rfl⟩
  rw [hgs] at C2 e4
  have HE4 := hide e4
  clear e1 e2 e3 hgs CA CG
  go_enter Tryz.func55, Tryz.ntmps55
  go_wp2_with (first
    | (go_at_call 66; (with_reducible refine (C1 _ (hKB _ _ hk (below1 _ _)) (lit3 _ _ _ _ _)).mono ?_); rintro e w1 ⟨v, rfl, ⟨ad, cap, rfl, hr⟩, b1⟩)
    | (go_at_call 68; (with_reducible refine (C2 _ (hKB _ _ hk (bt (below1 _ _) b1))).mono ?_); rintro e w2 ⟨v, rfl, ⟨ad2, cap2, rfl, hr2⟩, b2⟩)
    | (go_at_call 56; (with_reducible refine (same_n 3 [5462, 5461, 5461] rfl _ _ _ _ _ ((hr.below b2).below (below1 _ _)) (lit3 _ _ _ _ _) (by omega)).mono ?_); rintro e w3 ⟨rfl, b3⟩))
  go_ret
  exact ⟨rfl, bt (ba (bt (bt (below1 _ _) b1) b2) _) b3⟩
end Go.Proofs.YtdpkigdfhfippaaGreatDoor

/- Lines of a table: what the document's calls answer. -/
namespace Go.Proofs.YtdpkigdfhfippaaGreatDoor
open Go.RowKit


set_option maxHeartbeats 1000000 in
theorem refreach_any (L : List (Int × List Int)) (hL : LinesOk L) (hl : L.length ≤ 1048576) (g cap : Nat) (i k : Int) (w : World) (hr : LinesAt w g L) :
    Calls Tryz.prog 30 #[.slice (some ⟨g, 0, none⟩) L.length cap, .int .i64 i, .int .i64 k] w fun e w' => e = .returned (.tuple #[.int .i64 (reachF L i k).1, .int .i64 (reachF L i k).2.1, .bool (reachF L i k).2.2]) ∧ Below w.heap.size w w' := by
  have HR := hide hr
  have HL := hide hL
  obtain ⟨R, hR⟩ : ∃ R, R = reachTo L i k L.length := ⟨_, rfl⟩
  rw [show reachF L i k = R from hR.symm]
  obtain ⟨n, hn⟩ : ∃ n, L.length = n := ⟨_, rfl⟩
  have HN := hide hn
  rw [hn] at hl hR ⊢
  have HF := hide hR
  clear hR
  clear hr hL hn
  go_enter Tryz.func30, Tryz.ntmps30
  go_wp2
  go_loopw [9, 10, 11, 18] (fun a b c i' wr => ∃ o : Nat, o ≤ n ∧ i' = .int .i64 (o : Int) ∧ a = .int .i64 (reachTo L i k o).1 ∧ b = .int .i64 (reachTo L i k o).2.1 ∧ c = .bool (reachTo L i k o).2.2 ∧ Below w.heap.size w wr) (fun _ _ _ i' _ => n - (intOf i').toNat)
  case atStart => exact ⟨0, by omega, rfl, rfl, rfl, rfl, Below.refl _ _⟩
  case round =>
    obtain ⟨o, ho, rfl, rfl, rfl, rfl, hb⟩ := hrel
    have HB := hide hb
    clear hb
    by_cases hlt : o < n
    · obtain ⟨c1, u, c2, ad, cp, rfl, hrow⟩ := (HR.out.below HB.out) o (by rw [HN.out]; exact hlt)
      obtain ⟨f0, f1, t0, t1, _⟩ := HL.out o (by rw [HN.out]; exact hlt)
      obtain ⟨f, hf⟩ : ∃ f, (lnAt L o).1 = f := ⟨_, rfl⟩
      obtain ⟨m, hm⟩ : ∃ m, (lnAt L o).2.length = m := ⟨_, rfl⟩
      rw [hf] at c1 f0 f1
      rw [hm] at c2 t0 t1
      have HFF := hide hf
      have HMM := hide hm
      clear hf hm
      have HS1 := hide (show reachTo L i k (o + 1) = if (o : Int) < i ∨ k ≤ (o : Int) then reachTo L i k o else reachStep (reachTo L i k o) (lnAt L o).1 (lnAt L o).2.length from rfl)
      have HI := hide (reachTo_in HL.out i k o (by rw [HN.out]; omega))
      have hc : ((o : Int) < i) ∨ (i ≤ (o : Int) ∧ k ≤ (o : Int)) ∨ (i ≤ (o : Int) ∧ (o : Int) < k) := by omega
      rcases hc with q | ⟨q1, q2⟩ | ⟨q1, q2⟩
      · have e := HS1.out
        rw [if_pos (Or.inl q)] at e
        have HE := hide e
        clear e HS1
        generalize reachTo L i k o = s at *
        go_wp2
        go_roundw
        case rel => exact ⟨o + 1, by omega, by go_num, by rw [HE.out], by rw [HE.out], by rw [HE.out], ba HB.out _⟩
        case measure => simp [intOf]; omega
      · have e := HS1.out
        rw [if_pos (Or.inr q2)] at e
        have HE := hide e
        clear e HS1
        generalize reachTo L i k o = s at *
        go_wp2
        go_roundw
        case rel => exact ⟨o + 1, by omega, by go_num, by rw [HE.out], by rw [HE.out], by rw [HE.out], ba HB.out _⟩
        case measure => simp [intOf]; omega
      · have e := HS1.out
        obtain ⟨m', rfl⟩ : ∃ m', m = m' + 1 := ⟨m - 1, by omega⟩
        rw [if_neg (by omega), HFF.out, HMM.out, ← reachTap_at] at e
        have HE := hide e
        clear e HS1 HFF HMM
        generalize reachTo L i k o = s at *
        go_wp2
        go_loop [9, 10, 11, 34] (fun a b c i' => ∃ t : Nat, t ≤ m' + 1 ∧ i' = .int .i64 (t : Int) ∧ a = .int .i64 (reachTap s f t).1 ∧ b = .int .i64 (reachTap s f t).2.1 ∧ c = .bool (reachTap s f t).2.2) (fun _ _ _ i' => m' + 1 - (intOf i').toNat)
        case atStart => exact ⟨0, by omega, rfl, rfl, rfl, rfl⟩
        case round =>
          obtain ⟨t, ht, rfl, rfl, rfl, rfl⟩ := hrel
          by_cases hlt2 : t < m' + 1
          · have J := reachTap_in HI.out f0 f1 t (by omega)
            obtain ⟨⟨a, b, c⟩, hx⟩ : ∃ x, reachTap s f t = x := ⟨_, rfl⟩
            rw [hx] at J ⊢
            obtain ⟨j0, j1, j2, j3, _⟩ := J
            have j0 : -1099511627776 ≤ a := j0
            have j1 : a ≤ 1099511627776 := j1
            have j2 : -1099511627776 ≤ b := j2
            have j3 : b ≤ 1099512676352 := j3
            cases c
            · have E := hide (reachTap_first s f t a b hx)
              clear hx
              go_wp2
              go_round
              case rel => exact ⟨t + 1, by omega, by go_num, by rw [E.out], by rw [E.out], by rw [E.out]⟩
              case measure => simp [intOf]; omega
            · have e1 := reachTap_next s f t a b hx
              clear hx
              by_cases u1 : f + (t : Int) < a
              · by_cases u2 : b < f + (t : Int) + 1
                · rw [show min a (f + (t : Int)) = f + (t : Int) by omega, show max b (f + (t : Int) + 1) = f + (t : Int) + 1 by omega] at e1
                  have E := hide e1
                  clear e1
                  go_wp2
                  go_round
                  case rel => exact ⟨t + 1, by omega, by go_num, by rw [E.out], by rw [E.out], by rw [E.out]⟩
                  case measure => simp [intOf]; omega
                · rw [show min a (f + (t : Int)) = f + (t : Int) by omega, show max b (f + (t : Int) + 1) = b by omega] at e1
                  have E := hide e1
                  clear e1
                  go_wp2
                  go_round
                  case rel => exact ⟨t + 1, by omega, by go_num, by rw [E.out], by rw [E.out], by rw [E.out]⟩
                  case measure => simp [intOf]; omega
              · by_cases u2 : b < f + (t : Int) + 1
                · rw [show min a (f + (t : Int)) = a by omega, show max b (f + (t : Int) + 1) = f + (t : Int) + 1 by omega] at e1
                  have E := hide e1
                  clear e1
                  go_wp2
                  go_round
                  case rel => exact ⟨t + 1, by omega, by go_num, by rw [E.out], by rw [E.out], by rw [E.out]⟩
                  case measure => simp [intOf]; omega
                · rw [show min a (f + (t : Int)) = a by omega, show max b (f + (t : Int) + 1) = b by omega] at e1
                  have E := hide e1
                  clear e1
                  go_wp2
                  go_round
                  case rel => exact ⟨t + 1, by omega, by go_num, by rw [E.out], by rw [E.out], by rw [E.out]⟩
                  case measure => simp [intOf]; omega
          · obtain rfl : t = m' + 1 := by omega
            clear hlt2 ht
            go_wp2
            go_roundw
            case rel => exact ⟨o + 1, by omega, by go_num, by rw [HE.out], by rw [HE.out], by rw [HE.out], ba HB.out _⟩
            case measure => simp [intOf]; omega
    · obtain rfl : o = n := by omega
      rw [← HF.out]
      clear HF
      go_wp2
      exact bodyPost_ret (v := .tuple #[.int .i64 R.1, .int .i64 R.2.1, .bool R.2.2]) (by simp [results, Tryz.results30, go_sem]) rfl ⟨rfl, HB.out⟩
/-! ### The tables that the document makes -/
/-- What a resize answers: its code, and its lines. -/
def sideB (n : Int) : Bool := decide (1 ≤ n) && decide (n ≤ 65536)
theorem sideB_iff (n : Int) : sideB n = true ↔ 1 ≤ n ∧ n ≤ 65536 := by unfold sideB; simp
theorem refside_yes (n : Int) (h0 : 1 ≤ n) (h1 : n ≤ 65536) (w : World) :
    Calls Tryz.prog 57 #[.int .i64 n] w fun e w' => e = .returned (.bool true) ∧ w = w' := by
  go_enter Tryz.func57, Tryz.ntmps57
  go_wp2
  go_ret
  first | exact ⟨rfl, rfl⟩ | exact ⟨ret_bool (decide_eq_true (by omega)), rfl⟩
theorem refside_no (n : Int) (h : n < 1 ∨ 65536 < n) (w : World) :
    Calls Tryz.prog 57 #[.int .i64 n] w fun e w' => e = .returned (.bool false) ∧ w = w' := by
  rcases h with h | h
  all_goals
    go_enter Tryz.func57, Tryz.ntmps57
    go_wp2
    go_ret
    first | exact ⟨rfl, rfl⟩ | exact ⟨ret_bool (decide_eq_false (by omega)), rfl⟩
theorem infoLnR : (Tryz.prog.info? 101).map (fun i => (i.zero, i.size, i.bytes)) = some (some (.agg #[.int .i64 0, .slice none 0 0]), 2, 32) := by kernel_rfl
theorem app_own (xs : List Int) (ad : Option Addr) (cap : Nat) (w : World) (hr : RowAt .i64 w ad xs) (hx : All64 xs) (hl : xs.length ≤ 9223372036854775807) :
    Calls Tryz.prog 59 #[.slice ad xs.length cap] w fun e w' => ∃ v, e = .returned (.tuple #[v, .int .i64 (appCode xs)]) ∧ (appCode xs = 0 → OwnI .i64 2 w' w.heap.size v (appR xs)) ∧ Below w.heap.size w w' := by
  by_cases hf : Fits xs
  · rw [appCode_fits.2 hf]
    refine (refapp_fits xs ad cap w hr hx hf).mono ?_
    rintro e w1 ⟨v, rfl, o, b⟩
    exact ⟨v, rfl, fun _ => o, b⟩
  · refine (refapp_any xs ad cap w hr hx hl).mono ?_
    rintro e w1 ⟨v, rfl, _, b⟩
    exact ⟨v, rfl, (fun g => absurd (appCode_fits.1 g) hf), b⟩
end Go.Proofs.YtdpkigdfhfippaaGreatDoor

/- The sine, divided by what it is of, in integers: plain arithmetic. -/
namespace Go.Proofs.YtdpkigdfhfippaaGreatDoor
open Go.RowKit


/-- The i-th divisor, for i = k + 1. -/
def divS (k : Nat) : Int := 2 * ((k : Int) + 1) * (2 * ((k : Int) + 1) + 1) * 1099511627776
/-- The terms, and their sum, with signs in turn. -/
def termS (u : Int) : Nat → Int
  | 0 => 1099511627776
  | n + 1 => divF (termS u n * u) (divS n)
def sumS (u : Int) : Nat → Int
  | 0 => 1099511627776
  | n + 1 => if n % 2 = 0 then sumS u n - termS u (n + 1) else sumS u n + termS u (n + 1)
/-- Above the terms. -/
def topS : Nat → Int
  | 0 => 1099511627776
  | n + 1 => topS n * 173627916808752 / divS n + 1
def uF (p q : Int) : Int := divF (divF (10851744800547 * p) q * p) q
def mayF (p q : Int) : Bool := decide (1 ≤ q) && decide (q ≤ 1048576) && decide (-4 * q ≤ p) && decide (p ≤ 4 * q)
def seriesF (p q : Int) : Int := sumS (uF (absI p) q) 30
def lanczosF (p q : Int) : Int := if mayF p q = true ∧ -3 * q < p ∧ p < 3 * q then shiftF (mulShiftF (seriesF p q) (seriesF p (3 * q)) 40) 10 else 0
theorem divS_in : ∀ k < 30, 6 * 1099511627776 ≤ divS k ∧ divS k ≤ 3660 * 1099511627776 := by decide
theorem mulS_in : ∀ k : Nat, k < 30 → 6 ≤ 2 * ((k : Int) + 1) * (2 * ((k : Int) + 1) + 1) ∧ 2 * ((k : Int) + 1) * (2 * ((k : Int) + 1) + 1) ≤ 3660 := by decide
theorem topS_in : ∀ k < 31, 1 ≤ topS k ∧ topS k ≤ 4503599627370496 := by decide +kernel
theorem termS_in {u : Int} (h0 : 0 ≤ u) (h1 : u ≤ 173627916808752) (n : Nat) (hn : n < 31) : 0 ≤ termS u n ∧ termS u n ≤ topS n := by
  induction n with
  | zero => simp [termS, topS]
  | succ n ih =>
    obtain ⟨a0, a1⟩ := ih (by omega)
    obtain ⟨d0, d1⟩ := divS_in n (by omega)
    obtain ⟨t0, t1⟩ := topS_in n (by omega)
    obtain ⟨_, t3⟩ := topS_in (n + 1) hn
    have p0 : 0 ≤ termS u n * u := Int.mul_nonneg a0 h0
    have p1 : termS u n * u ≤ topS n * 173627916808752 := Int.mul_le_mul a1 h1 h0 (by omega)
    have p2 : topS n * 173627916808752 < (topS n * 173627916808752 / divS n + 1) * divS n := Int.lt_mul_of_ediv_lt (by omega) (by omega)
    have q := near_in (X := termS u n * u) (d := divS n) (m := topS (n + 1)) (by omega) p0 (by
      show _ ≤ (topS n * 173627916808752 / divS n + 1) * divS n
      omega)
    show 0 ≤ divF _ _ ∧ divF _ _ ≤ _
    rw [divF_of (by omega), holdI_in (by omega) (by omega)]
    exact q
theorem termS_all {u : Int} (h0 : 0 ≤ u) (h1 : u ≤ 173627916808752) (n : Nat) (hn : n < 31) : 0 ≤ termS u n ∧ termS u n ≤ 4503599627370496 := by
  obtain ⟨a, b⟩ := termS_in h0 h1 n hn
  obtain ⟨_, d⟩ := topS_in n hn
  exact ⟨a, by omega⟩
theorem sumS_in {u : Int} (h0 : 0 ≤ u) (h1 : u ≤ 173627916808752) (n : Nat) (hn : n < 31) : -(((n : Int) + 1) * 4503599627370496) ≤ sumS u n ∧ sumS u n ≤ ((n : Int) + 1) * 4503599627370496 := by
  induction n with
  | zero => simp [sumS]
  | succ n ih =>
    have t := termS_all h0 h1 (n + 1) hn
    have := ih (by omega)
    unfold sumS
    split <;> omega
/-- The two steps ahead of the terms. -/
theorem uF_in {p q : Int} (hq : 0 < q) (h0 : 0 ≤ p) (h1 : p ≤ 4 * q) : 0 ≤ divF (10851744800547 * p) q ∧ divF (10851744800547 * p) q ≤ 43406979202188 ∧ 0 ≤ uF p q ∧ uF p q ≤ 173627916808752 := by
  have a := near_in (X := 10851744800547 * p) (d := q) (m := 43406979202188) hq (by omega) (by omega)
  have e1 : divF (10851744800547 * p) q = nearQ (10851744800547 * p) q := by rw [divF_of (by omega), holdI_in (by omega) (by omega)]
  unfold uF
  rw [e1]
  generalize nearQ (10851744800547 * p) q = v at *
  obtain ⟨a0, a1⟩ := a
  have p0 : 0 ≤ v * p := Int.mul_nonneg a0 h0
  have p1 : v * p ≤ 43406979202188 * (4 * q) := Int.mul_le_mul a1 h1 h0 (by omega)
  have b := near_in (X := v * p) (d := q) (m := 173627916808752) hq p0 (by omega)
  rw [divF_of (by omega), holdI_in (by omega) (by omega)]
  exact ⟨a0, a1, b⟩
theorem abs_small {p q : Int} (h0 : -(4 * q) ≤ p) (h1 : p ≤ 4 * q) : 0 ≤ absI p ∧ absI p ≤ 4 * q := by
  unfold absI; split <;> omega
theorem seriesF_in {p q : Int} (hq : 0 < q) (h0 : -(4 * q) ≤ p) (h1 : p ≤ 4 * q) : -139611588448485376 ≤ seriesF p q ∧ seriesF p q ≤ 139611588448485376 := by
  obtain ⟨a0, a1⟩ := abs_small h0 h1
  obtain ⟨_, _, u0, u1⟩ := uF_in hq a0 a1
  have := sumS_in u0 u1 30 (by omega)
  unfold seriesF
  omega
theorem mayF_at (p q : Int) : (mayF p q = true ∧ 1 ≤ q ∧ q ≤ 1048576 ∧ -4 * q ≤ p ∧ p ≤ 4 * q) ∨ (mayF p q = false ∧ (q < 1 ∨ 1048576 < q ∨ p < -4 * q ∨ 4 * q < p)) := by
  unfold mayF
  by_cases a : 1 ≤ q <;> by_cases b : q ≤ 1048576 <;> by_cases c : -4 * q ≤ p <;> by_cases d : p ≤ 4 * q <;> simp [a, b, c, d] <;> omega
end Go.Proofs.YtdpkigdfhfippaaGreatDoor

/- The sine's series in integers, and the polynomial that it stands for. -/
namespace Go.Proofs.YtdpkigdfhfippaaGreatDoor
open Go.RowKit


theorem near_err {X d : Int} (hd : 0 < d) : -d ≤ 2 * (d * nearQ X d) - 2 * X ∧ 2 * (d * nearQ X d) - 2 * X ≤ d := by
  unfold nearQ
  rw [if_neg (by omega)]
  have e := Int.mul_ediv_add_emod (2 * X + d) (2 * d)
  have r0 := Int.emod_nonneg (2 * X + d) (show 2 * d ≠ 0 by omega)
  have r1 := Int.emod_lt_of_pos (2 * X + d) (show 0 < 2 * d by omega)
  rw [Int.mul_assoc] at e
  omega
end Go.Proofs.YtdpkigdfhfippaaGreatDoor
