/- Images as bytes: the document's text. -/
import Derived.Test.YtoppojilndnghaaDoorS11D
import Derived.Test.YtoppojilndnghaaDoorS09O
namespace Go.Proofs.YtoppojilndnghaaDoor
open Go.RowKit


set_option maxHeartbeats 4000000 in
set_option maxRecDepth 100000 in
theorem dtext11_any (I : Im) (hI : ImOk I) (b cap : Nat) (w : World) (hr : RowAt .u16 w (some ⟨b, 0, none⟩) I.il) : Calls Tryd.prog 15 #[imV I b I.il.length cap] w fun e w' => ∃ t, e = .returned (.string t) ∧ byt t = encF I ∧ Below w.heap.size w w' := by
  have CX := fun w => dtext_any ⟨I.ic, I.iw, I.ih, I.it, 0⟩ (imOk_in hI) w
  have hT := textF_len2 (imOk_in hI)
  obtain ⟨l0, l1⟩ := imOk_len hI
  unfold imV
  unfold hdV at CX
  have lb := cell_ltL (hr.at l0)
  obtain ⟨n, hn⟩ : ∃ n, I.il.length = n := ⟨_, rfl⟩
  have HN := hide hn
  have HP := hide (fun (k : Nat) (hk : k ≤ n) => show (packF I.it (I.il.take k)).length ≤ k * 2 by
    rw [packF_len, List.length_take, hn, show min k n = k by omega]
    exact Nat.mul_le_mul (Nat.le_refl _) (widthN_in I.it).2)
  have HX := hide (fun (k : Nat) (hk : k < n) => imOk_at hI (show k < I.il.length by rw [hn]; exact hk))
  obtain ⟨T, hTT⟩ : ∃ T, textF ⟨I.ic, I.iw, I.ih, I.it, 0⟩ = T := ⟨_, rfl⟩
  have HE := hide (show encF I = T ++ packF I.it I.il by unfold encF; rw [hTT])
  have HIN := hide (packF_in I.it I.il (fun v hv => by
    obtain ⟨j, hj, rfl⟩ := List.mem_iff_getElem.1 hv
    have := imOk_at hI hj
    rw [List.getD_eq_getElem?_getD, List.getElem?_eq_getElem hj] at this
    exact ⟨this.1, this.2.2⟩))
  rw [hTT] at CX hT
  have HTL := hide hT
  have HR := hide hr
  rw [hn] at l0 l1 ⊢
  obtain ⟨i0, hi0, hz0, hz1, hz2⟩ := info_parts infoU8
  clear hI hn hTT hT hr
  generalize I.iw = a at *
  generalize I.ih = b2 at *
  generalize I.ic = c at *
  generalize I.it = t at *
  go_enter Tryd.func15, Tryd.ntmps15
  go_wp2_with (go_at_call 33; (with_reducible refine (CX _).mono ?_); rintro e w2 ⟨s, rfl, hs, bb⟩; have p3 := cb bb (b := w.heap.size) (o := 3) (v := .int .i64 t) (by simp) (by simp); have p4 := cb bb (b := w.heap.size) (o := 4) (v := .slice (some ⟨b, 0, none⟩) n cap) (by simp) (by simp); have lR2 : w.heap.size < w2.heap.size := (by have := bb.size; simp at this; omega); have hm : s.size ≤ 70 := (by rw [← byt_len, hs]; exact HTL.out))
  have hrow := HR.out.below (bt (below1 w _) bb)
  have HE0 := hide (show EncAt 5 w.heap.size b t I.il w w2 (.slice none 0 0) (packF t (I.il.take 0)) from ⟨by
      rw [List.take_zero]
      exact OwnI.nil _ _ _ _, (fun e => by cases e), (fun e => by cases e), p3, hrow, cell_ltL (hrow.at (show 0 < I.il.length by rw [HN.out]; exact l0)), bt (below1 w _) bb⟩)
  have HS := hide hs
  clear hrow hs bb p3 p4 CX lR2
  go_loopw [4, 20] (fun v i wr => ∃ k : Nat, k ≤ n ∧ i = .int .i64 (k : Int) ∧ EncAt 5 w.heap.size b t I.il w wr v (packF t (I.il.take k))) (fun _ i _ => n - (intOf i).toNat)
  case atStart => exact ⟨0, by omega, rfl, HE0.out⟩
  case round =>
    clear HE0
    obtain ⟨k, hk, rfl, he⟩ := hrel
    have HEA := hide he
    by_cases hlt : k < n
    · obtain ⟨e1, _, _, e4, e5, e6, e7⟩ := he
      have hc := e5.at (show k < I.il.length by rw [HN.out]; exact hlt)
      rw [Nat.zero_add] at hc
      have hx := HX.out k hlt
      have hlen := HP.out k (by omega)
      have tk := take_step I.il (show k < I.il.length by rw [HN.out]; exact hlt)
      have HTK := hide tk
      have s6 := e7.size
      obtain ⟨x0, x1, x2⟩ := hx
      clear e5 e6 tk
      generalize I.il.getD k 0 = u at *
      obtain ⟨L, hLL⟩ : ∃ L, packF t (I.il.take k) = L := ⟨_, rfl⟩
      rw [hLL] at e1 HEA hlen
      by_cases ht : t ≤ 255
      · have HLL := hide (show packF t (I.il.take (k + 1)) = L ++ [u] by
          rw [HTK.out, packF_more, hLL]
          unfold oneF
          rw [if_pos ht, show u % 256 = u by omega])
        have m1 : u % 256 = u := by omega
        have m2 : u.tmod 256 = u := by rw [Int.tmod_eq_emod_of_nonneg (by omega)]; exact m1
        have hd : decide (255 < t) = false := decide_eq_false (by omega)
        clear hLL HP HX HTK
        go_wp2_with (at_builtin; refine wpList_append_apart _ rfl _ _ 22 rfl w.heap.size 5 i0 (.int .u8 0) 1 1 Tryd.underlying22 hi0 hz0 hz1 hz2 rfl (by decide) _ _ _ rfl (e1.alloc _) ⟨wr.heap.size, 0, none⟩ 1 1 [.int .u8 u] rfl rfl (new_one _ _ _) (one_int _ _) (by unfold maxLen; omega) (by omega) (by simp; omega) ?_; intro v3 w3 own3 grow3 ap3)
        go_roundw
        case rel => exact ⟨k + 1, by omega, by go_num, by rw [HLL.out]; exact HEA.out.more own3 grow3 ap3⟩
        case measure => simp [intOf]; omega
      · obtain ⟨q, hq, q0, q1⟩ : ∃ q : Int, u / 256 = q ∧ 0 ≤ q ∧ q ≤ 255 := ⟨_, rfl, by omega, by omega⟩
        obtain ⟨r, hr, r0, r1⟩ : ∃ r : Int, u % 256 = r ∧ 0 ≤ r ∧ r ≤ 255 := ⟨_, rfl, by omega, by omega⟩
        have HLL := hide (show packF t (I.il.take (k + 1)) = L ++ [q] ++ [r] by
          rw [HTK.out, packF_more, hLL]
          unfold oneF
          rw [if_neg ht, hq, hr, List.append_assoc]
          rfl)
        have m1 : u.tdiv 256 = q := by rw [Int.tdiv_eq_ediv_of_nonneg (by omega)]; exact hq
        have m2 : u.tmod 256 = r := by rw [Int.tmod_eq_emod_of_nonneg (by omega)]; exact hr
        have hd : decide (255 < t) = true := decide_eq_true (by omega)
        clear hLL HP HX HTK
        go_wp2_with (first
          | (at_builtin; refine wpList_append_apart _ rfl (.tmp 27) _ 22 rfl w.heap.size 5 i0 (.int .u8 0) 1 1 Tryd.underlying22 hi0 hz0 hz1 hz2 rfl (by decide) _ _ _ rfl (e1.alloc _) ⟨wr.heap.size, 0, none⟩ 1 1 [.int .u8 q] rfl rfl (new_one _ _ _) (one_int _ _) (by unfold maxLen; omega) (by omega) (by simp; omega) ?_; intro v3 w3 own3 grow3 ap3; have E3 := HEA.out.more own3 grow3 ap3; have HE3 := hide E3; have s7 := E3.2.2.2.2.2.2.size; have e3 := E3.1; clear E3)
          | (at_builtin; refine wpList_append_apart _ rfl (.tmp 33) _ 22 rfl w.heap.size 5 i0 (.int .u8 0) 1 1 Tryd.underlying22 hi0 hz0 hz1 hz2 rfl (by decide) _ _ _ rfl (e3.alloc _) ⟨w3.heap.size, 0, none⟩ 1 1 [.int .u8 r] rfl rfl (new_one _ _ _) (one_int _ _) (by rw [List.length_append]; unfold maxLen; simp; omega) (by rw [List.length_append]; simp; omega) (by simp; omega) ?_; intro v4 w4 own4 grow4 ap4))
        go_roundw
        case rel => exact ⟨k + 1, by omega, by go_num, by rw [HLL.out]; exact HE3.out.more own4 grow4 ap4⟩
        case measure => simp [intOf]; omega
    · obtain rfl : k = n := by omega
      have hlen := HP.out k (by omega)
      rw [List.take_of_length_le (by rw [HN.out]; exact Nat.le_refl _)] at HEA hlen
      obtain ⟨ml, hml⟩ : ∃ ml, (packF t I.il).length = ml := ⟨_, rfl⟩
      obtain ⟨ad3, cap3, rfl, hr3, _⟩ := HEA.out.1.formn hml
      have cv := conv_run cap3 hml hr3
      have hb := byt_nums HIN.out
      have hsz : (strOfNums (packF t I.il)).size = ml := by rw [← byt_len, hb, hml]
      rw [hml] at hlen
      have HBW := hide HEA.out.2.2.2.2.2.2
      have HEE := hide (show byt (s ++ strOfNums (packF t I.il)) = encF I by rw [byt_add, HS.out, hb, HE.out])
      generalize strOfNums (packF t I.il) = q at *
      have g1 : ¬ (9223372036854775807 < s.size + q.size) := by omega
      clear he HEA hb hr3 hml
      go_wp2
      go_ret
      exact ⟨_, rfl, HEE.out, HBW.out⟩
end Go.Proofs.YtoppojilndnghaaDoor
