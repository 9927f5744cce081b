/- Weights that come to one: the examples, and the law on taps, out of what the program's own calls answer. -/
import Derived.Test.YtcfbpilhgnofpaaS06F
import Derived.Deep.RegionHeld3
namespace Go.Proofs.Ytcfbpilhgnofpaa
open Go.RowKit


theorem same_n (n : Nat) (xs : List Int) (hn : xs.length = n) (ad bd : Option Addr) (cap cap' : Nat) (w : World) (hr : RowAt .i64 w ad xs) (hq : RowAt .i64 w bd xs) (hl : n ≤ 9223372036854775807) :
    Calls Try.prog 11 #[.slice ad n cap, .slice bd n cap'] w fun e w' => e = .returned (.bool true) ∧ Below w.heap.size w w' := by
  subst hn
  exact same_yes xs ad bd cap cap' w hr hq hl
theorem lit3 (w : World) (a b c : Int) (t : TypeId) : RowAt .i64 (w.alloc (.cells #[.int .i64 a, .int .i64 b, .int .i64 c] t)) (some ⟨w.heap.size, 0, none⟩) [a, b, c] := by
  refine Or.inr ⟨w.heap.size, 0, rfl, fun j hj => ?_⟩
  match j, hj with
  | 0, _ => simp
  | 1, _ => simp
  | 2, _ => simp
theorem all64_ex : All64 [536870912, 536870912, 536870912] := by
  intro j hj
  match j, hj with
  | 0, _ => decide
  | 1, _ => decide
  | 2, _ => decide
theorem app_ex : appCode [536870912, 536870912, 536870912] = 0 ∧ appOut [536870912, 536870912, 536870912] = [5462, 5461, 5461] := by decide +kernel
theorem gau_ex : gauCode 65536 = 0 ∧ (gauOut 65536).length = 7 := by
  refine ⟨by decide, ?_⟩
  unfold gauOut
  rw [if_pos (by omega)]
  unfold gaussR
  rw [gaussTo_len]
  decide
theorem tlives {K : World → Prop} (hKB : ∀ w w', K w → Below w.heap.size w w' → K w') (CA : AppC K) (CG : GauC K) (w : World) (hk : K w) :
    Calls Try.prog 9 #[] w fun e w' => e = .returned (.bool true) ∧ Below w.heap.size w w' := by
  have C1 := fun (w : World) hk hr => CA [536870912, 536870912, 536870912] (some ⟨w.heap.size, 0, none⟩) 3 (w.alloc (.cells #[.int .i64 536870912, .int .i64 536870912, .int .i64 536870912] 2)) hk hr all64_ex (by decide)
  rw [show [(536870912 : Int), 536870912, 536870912].length = 3 from rfl] at C1
  have C2 := fun w hk => CG 65536 w hk (by omega) (by omega)
  obtain ⟨e1, e2⟩ := app_ex
  obtain ⟨e3, e4⟩ := gau_ex
  rw [e1, e2] at C1
  rw [e3] at C2
  obtain ⟨gs, hgs⟩ : ∃ gs, gauOut 65536 = gs := ⟨_, rfl⟩
  rw [hgs] at C2 e4
  have HE4 := hide e4
  clear e1 e2 e3 hgs CA CG
  go_enter Try.func9, Try.ntmps9
  go_wp2_with (first
    | (go_at_call 10; (with_reducible refine (C1 _ (hKB _ _ hk (below1 _ _)) (lit3 _ _ _ _ _)).mono ?_); rintro e w1 ⟨v, rfl, ⟨ad, cap, rfl, hr⟩, b1⟩)
    | (go_at_call 19; (with_reducible refine (C2 _ (hKB _ _ hk (bt (below1 _ _) b1))).mono ?_); rintro e w2 ⟨v, rfl, ⟨ad2, cap2, rfl, hr2⟩, b2⟩)
    | (go_at_call 11; (with_reducible refine (same_n 3 [5462, 5461, 5461] rfl _ _ _ _ _ ((hr.below b2).below (below1 _ _)) (lit3 _ _ _ _ _) (by omega)).mono ?_); rintro e w3 ⟨rfl, b3⟩))
  go_ret
  exact ⟨rfl, bt (ba (bt (bt (below1 _ _) b1) b2) _) b3⟩
end Go.Proofs.Ytcfbpilhgnofpaa
