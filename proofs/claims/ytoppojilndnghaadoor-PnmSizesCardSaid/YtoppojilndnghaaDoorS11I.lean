/- Images as bytes: the example; the law on sizes. -/
import Derived.Test.YtoppojilndnghaaDoorS11H
import Derived.Test.YtoppojilndnghaaDoorS11F
import Derived.Test.YtoppojilndnghaaDoorS09I
import Derived.Test.YtoppojilndnghaaDoorS10L
namespace Go.Proofs.YtoppojilndnghaaDoor
open Go.RowKit


def exE : List Int := [80, 53, 10, 50, 32, 49, 10, 50, 53, 53, 10, 7, 8]
theorem ex_enc : encF ⟨2, 1, 1, 255, [7, 8]⟩ = exE := by decide +kernel
theorem ex_len : (encF ⟨2, 1, 1, 255, [7, 8]⟩).length = 13 := by rw [ex_enc]; rfl
theorem ex_str : strOfNums exE = { data := #[80, 53, 10, 50, 32, 49, 10, 50, 53, 53, 10, 7, 8] } := by
  apply ByteArray.ext
  rfl
theorem ex_ok : codeF 2 1 1 255 = 0 := by decide
theorem lit78 (w : World) (t : TypeId) : RowAt .u16 (w.alloc (.cells #[.int .u16 7, .int .u16 8] t)) (some ⟨w.heap.size, 0, none⟩) [7, 8] := by
  refine Or.inr ⟨w.heap.size, 0, rfl, fun j hj => ?_⟩
  match j, hj with
  | 0, _ => simp
  | 1, _ => simp
set_option maxHeartbeats 1000000 in
theorem plives {K : World → Prop} (hKB : KB K) (CP : HParseC K) (CT : HTextC K) (w : World) (hk : K w) : Calls Tryd.prog 8 #[] w fun e w' => e = .returned (.bool true) ∧ Below w.heap.size w w' := by
  have CL := fun w hk => hlives hKB CP w hk
  have CE := fun {w : World} {g h : Nat} {I : Im} (H : ImgAt w g h I) hk => pencode_any hKB CT H hk
  have hKB : ∀ w w', K w → Below w.heap.size w w' → K w' := hKB
  have CO := fun (w : World) => of_yes 2 1 1 255 ex_ok [7, 8] 2 rfl (some ⟨w.heap.size, 0, none⟩) 2 (by decide) (by decide) (by decide) (w.alloc (.cells #[.int .u16 7, .int .u16 8] 36)) (lit78 w 36)
  have q1 : ∀ (g : Nat) (w : World), (binOp .neq 24 (.pointer (some ⟨g, 0, none⟩)) (.pointer none)).run Tryd.prog w = .ok (.bool true) w := fun g w => by kernel_rfl
  clear CP CT
  go_enter Tryd.func8, Tryd.ntmps8
  go_wp2_with (first
    | (go_at_call 22; (with_reducible refine (CO _).mono ?_); rintro e w1 ⟨v, rfl, ⟨g, h, rfl, gB, hB, hi⟩, b1⟩; have HI := hide hi; clear hi; have B1 := bt (below1 w _) b1)
    | (go_at_call 23; (with_reducible refine (rlives9 _).mono ?_); rintro e w2 ⟨rfl, b2⟩; have B2 := bt B1 b2)
    | (go_at_call 24; (with_reducible refine (CL _ (hKB _ _ hk B2)).mono ?_); rintro e w3 ⟨rfl, b3⟩; have B3 := bt B2 b3)
    | (go_at_call 14; (with_reducible refine (CE (HI.out.below (bt b2 b3)) (hKB _ _ hk B3)).mono ?_); rintro e w4 ⟨v4, rfl, own4, b4⟩; obtain ⟨ad4, cap4, rfl, hr4, hz4⟩ := own4.formn (n := 13) ex_len; have cv := conv_run cap4 ex_len hr4; rw [ex_enc, ex_str] at cv; have B4 := bt B3 b4))
  go_ret
  exact ⟨rfl, B4⟩
set_option maxHeartbeats 1000000 in
theorem of_PnmSizes {K : World → Prop} (hKB : KB K) (CP : HParseC K) (CT : HTextC K) (h : Hd) (w : World) (hk : K w) :
    Calls Tryd.prog 7 #[hdV h] w fun e w' => e = .returned (.bool true) ∧ Below w.heap.size w w' := by
  have CL := fun w hk => plives hKB CP CT w hk
  have hKB : ∀ w w', K w → Below w.heap.size w w' → K w' := hKB
  have CS := fun w => psize_any h w
  have CW := fun w => pwidth_any h.ht w
  have CC := fun w => dcode_any h.hw h.hh h.hc h.ht w
  unfold hdV at CS ⊢
  unfold pnmF at CS
  generalize h.hc = c at *
  generalize h.hw = a at *
  generalize h.hh = b at *
  generalize h.ht = t at *
  generalize h.hs = z at *
  have HW : (t ≤ 255 ∧ widthF t = 1) ∨ (255 < t ∧ widthF t = 2) := by
    by_cases ht : t ≤ 255
    · exact .inl ⟨ht, widthF_one ht⟩
    · exact .inr ⟨by omega, widthF_two ht⟩
  obtain ⟨k, hcd⟩ : ∃ k, codeF a b c t = k := ⟨_, rfl⟩
  clear CP CT
  by_cases hk0 : k = 0
  · subst hk0
    obtain ⟨t0, t1, a0, a1, b0, b1, hc, hm⟩ := codeF_zero hcd
    obtain ⟨m10, m11⟩ := side_mul a0 a1 b0 b1
    obtain ⟨m20, m21⟩ := side_mul3 a0 a1 b0 b1 hc
    rw [if_pos hcd] at CS
    rw [hcd] at CC
    clear hcd hc
    rcases HW with ⟨ht, hw⟩ | ⟨ht, hw⟩
    all_goals
      rw [hw] at CS CW
      go_enter Tryd.func7, Tryd.ntmps7
      go_wp2_with (first
        | (go_at_call 8; (with_reducible refine (CL _ (hKB _ _ hk (below1 _ _))).mono ?_); rintro e w1 ⟨rfl, b1'⟩; have p0 := cb b1' (b := w.heap.size) (o := 0) (v := .int .i64 c) (by simp) (by simp); have p1 := cb b1' (b := w.heap.size) (o := 1) (v := .int .i64 a) (by simp) (by simp); have p2 := cb b1' (b := w.heap.size) (o := 2) (v := .int .i64 b) (by simp) (by simp); have p3 := cb b1' (b := w.heap.size) (o := 3) (v := .int .i64 t) (by simp) (by simp); have p4 := cb b1' (b := w.heap.size) (o := 4) (v := .int .i64 z) (by simp) (by simp))
        | (go_at_call 19; (with_reducible refine (CC _).mono ?_); rintro e w2 ⟨rfl, rfl⟩)
        | (go_at_call 20; (with_reducible refine (CW _).mono ?_); rintro e w3 ⟨rfl, rfl⟩)
        | (go_at_call 21; (with_reducible refine (CS _).mono ?_); rintro e w4 ⟨rfl, b4⟩))
      go_ret
      exact ⟨rfl, bt (bt (below1 _ _) b1') b4⟩
  · have hkz : (k == 0) = false := beq_eq_false_iff_ne.2 hk0
    rw [if_neg (by rw [hcd]; exact hk0)] at CS
    rw [hcd] at CC
    clear hcd
    rcases HW with ⟨ht, hw⟩ | ⟨ht, hw⟩
    all_goals
      rw [hw] at CW
      go_enter Tryd.func7, Tryd.ntmps7
      go_wp2_with (first
        | (go_at_call 8; (with_reducible refine (CL _ (hKB _ _ hk (below1 _ _))).mono ?_); rintro e w1 ⟨rfl, b1'⟩; have p0 := cb b1' (b := w.heap.size) (o := 0) (v := .int .i64 c) (by simp) (by simp); have p1 := cb b1' (b := w.heap.size) (o := 1) (v := .int .i64 a) (by simp) (by simp); have p2 := cb b1' (b := w.heap.size) (o := 2) (v := .int .i64 b) (by simp) (by simp); have p3 := cb b1' (b := w.heap.size) (o := 3) (v := .int .i64 t) (by simp) (by simp); have p4 := cb b1' (b := w.heap.size) (o := 4) (v := .int .i64 z) (by simp) (by simp))
        | (go_at_call 19; (with_reducible refine (CC _).mono ?_); rintro e w2 ⟨rfl, rfl⟩)
        | (go_at_call 20; (with_reducible refine (CW _).mono ?_); rintro e w3 ⟨rfl, rfl⟩)
        | (go_at_call 21; (with_reducible refine (CS _).mono ?_); rintro e w4 ⟨rfl, b4⟩))
      go_ret
      exact ⟨rfl, bt (bt (below1 _ _) b1') b4⟩
end Go.Proofs.YtoppojilndnghaaDoor
