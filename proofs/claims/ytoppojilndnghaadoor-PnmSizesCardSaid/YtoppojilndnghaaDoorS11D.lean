/- Images as bytes: the program's Encode, given what Text answers. -/
import Derived.Test.YtoppojilndnghaaDoorS11C
import Derived.Test.YtoppojilndnghaaDoorS10J
import Derived.Lib.AppendStr
namespace Go.Proofs.YtoppojilndnghaaDoor
open Go.RowKit


theorem strCells_byt (s : ByteArray) : Go.Lib.strCells s = (byt s).map (Value.int .u8) := by
  unfold Go.Lib.strCells byt
  rw [List.map_map]
  rfl
/-- Bytes so far, beside a record and a row of samples. -/
def EncAt (T : TypeId) (R h : Nat) (t : Int) (xs : List Int) (w0 w : World) (v : Value) (L : List Int) : Prop :=
  OwnI .u8 T w w0.heap.size v L ∧ v.ownBlock ≠ some R ∧ v.ownBlock ≠ some h ∧ w.cell? ⟨R, 3, none⟩ = some (.int .i64 t) ∧ RowAt .u16 w (some ⟨h, 0, none⟩) xs ∧ h < w.heap.size ∧ Below w0.heap.size w0 w
theorem EncAt.more {T : TypeId} {R h : Nat} {t : Int} {xs : List Int} {w0 w w3 : World} {v v' : Value} {L : List Int} {x : Int} {o : Obj} (E : EncAt T R h t xs w0 w v L)
    (own : w3.ownsRow w0.heap.size T 1 v' (L.length + 1) (L.map (Value.int .u8) ++ [Value.int .u8 x])) (grow : (w.alloc o).grownBy w3 v.ownBlock) (ap : v'.ownBlock = v.ownBlock ∨ ∀ g, v'.ownBlock = some g → (w.alloc o).heap.size ≤ g) :
    EncAt T R h t xs w0 w3 v' (L ++ [x]) := by
  obtain ⟨e1, e2, e3, e4, e5, e6, e7⟩ := E
  have r := own_more e7 e1 own grow
  have s : (w.alloc o).heap.size = w.heap.size + 1 := by simp
  have lR := cell_ltL e4
  have sg := grow.size
  refine ⟨r.1, ?_, ?_, cg grow e2.symm (cb (below1 w o) lR e4), (e5.below (below1 w o)).grown grow e3.symm, by omega, r.2⟩
  · rcases ap with ap | ap
    · rw [ap]; exact e2
    · intro e
      have := ap _ e
      omega
  · rcases ap with ap | ap
    · rw [ap]; exact e3
    · intro e
      have := ap _ e
      omega
theorem grown_fresh {a w1 w2 : World} {g : Nat} (hb : Below a.heap.size a w1) (hg : w1.grownBy w2 (some g)) (h : a.heap.size ≤ g) : Below a.heap.size a w2 :=
  hb.grown hg hb.size (fun k hk => by obtain rfl := Option.some.inj hk; exact h)
theorem make8 (n : Nat) (L : Int) (hL : L = (n : Int)) (h : n ≤ 1073741824) : ∃ zs : Array Value, (∀ w : World, (Instr.makeSlice 22 (.int .i64 0) (.int .i64 L)).run Tryd.prog w = .ok (.slice (some ⟨w.heap.size, 0, none⟩) 0 n) (w.alloc (.cells zs 5))) ∧ (∀ (w : World) (B : Nat), B ≤ w.heap.size → OwnI .u8 5 (w.alloc (.cells zs 5)) B (.slice (some ⟨w.heap.size, 0, none⟩) 0 n) []) := by
  subst hL
  obtain ⟨i0, hi, hz0, hz1, hz2⟩ := info_parts infoU8
  have hm : (n : Int) ≤ 9223372036854775807 := by omega
  refine ⟨madeCells (Value.int .u8 0).cells (n * i0.size), fun w => ?_, fun w B hB => ?_⟩
  · have hr := run_make (P := Tryd.prog) w 22 5 i0 (.int .u8 0) Tryd.underlying22 hi hz0 .i64 .i64 0 n (by omega) (by omega) (by rw [hz2]; omega) hm
    rw [Int.toNat_natCast] at hr
    exact hr
  · rw [hz1, Nat.mul_one]
    refine ⟨rfl, .inr ⟨w.heap.size, n, _, rfl, hB, heap_alloc_new w _, Nat.zero_le _, by unfold maxLen; omega, by rw [size_madeCells, Nat.mul_one], rfl⟩⟩
theorem imOk_in {I : Im} (h : ImOk I) : HdIn ⟨I.ic, I.iw, I.ih, I.it, 0⟩ := by
  obtain ⟨a0, a1, b0, b1, hc, t0, t1, hm, _⟩ := h
  exact ⟨⟨by show -9223372036854775808 ≤ I.iw; omega, by show I.iw ≤ 9223372036854775807; omega⟩, ⟨by show -9223372036854775808 ≤ I.ih; omega, by show I.ih ≤ 9223372036854775807; omega⟩, ⟨by show -9223372036854775808 ≤ I.it; omega, by show I.it ≤ 9223372036854775807; omega⟩⟩
theorem pnmF_of {I : Im} (h : ImOk I) : pnmF I.iw I.ih I.ic I.it = ((I.il.length * widthN I.it : Nat) : Int) := by
  have hk := imOk_code h
  obtain ⟨n, hn, _, _, hs, _⟩ := size_in hk
  obtain ⟨_, _, _, _, _, _, _, _, hl, _⟩ := h
  unfold pnmF
  rw [if_pos hk, hs]
  congr 2
  omega
set_option maxHeartbeats 4000000 in
set_option maxRecDepth 100000 in
theorem pencode_any {K : World → Prop} (hKB : KB K) (CT : HTextC K) {w : World} {g h : Nat} {I : Im} (H : ImgAt w g h I) (hk : K w) : Calls Tryd.prog 14 #[.pointer (some ⟨g, 0, none⟩)] w fun e w' => ∃ v, e = .returned v ∧ OwnI .u8 5 w' w.heap.size v (encF I) ∧ Below w.heap.size w w' := by
  have hKB : ∀ w w', K w → Below w.heap.size w w' → K w' := hKB
  have hok := H.ok
  have CX := fun w hk => CT ⟨I.ic, I.iw, I.ih, I.it, 0⟩ (imOk_in hok) w hk
  have CS := fun w => psize_any ⟨I.ic, I.iw, I.ih, I.it, 0⟩ w
  have CW := fun w => pwidth_any I.it w
  have hT := textF_len2 (imOk_in hok)
  have hpn := pnmF_of hok
  obtain ⟨l0, l1⟩ := imOk_len hok
  obtain ⟨s0, s1⟩ := widthN_in I.it
  have hsz : I.il.length * widthN I.it ≤ 536870912 := by
    have := Nat.mul_le_mul l1 s1
    omega
  rw [show pnmF (Hd.mk I.ic I.iw I.ih I.it 0).hw (Hd.mk I.ic I.iw I.ih I.it 0).hh (Hd.mk I.ic I.iw I.ih I.it 0).hc (Hd.mk I.ic I.iw I.ih I.it 0).ht = _ from hpn] at CS
  unfold hdV at CX CS
  have CA := img_width H
  have CB := img_height H
  have CC := img_channels H
  have CD := img_most H
  have CI := fun (w' : World) (b : Below w.heap.size w w') => img_samples (H.below b)
  obtain ⟨n, hn⟩ : ∃ n, I.il.length = n := ⟨_, rfl⟩
  have HN := hide hn
  have HP := hide (fun (k : Nat) (hk : k ≤ n) => show (packF I.it (I.il.take k)).length ≤ k * 2 by
    rw [packF_len, List.length_take, hn, show min k n = k by omega]
    exact Nat.mul_le_mul (Nat.le_refl _) s1)
  have HX := hide (fun (k : Nat) (hk : k < n) => imOk_at hok (show k < I.il.length by rw [hn]; exact hk))
  obtain ⟨T, hTT⟩ : ∃ T, textF ⟨I.ic, I.iw, I.ih, I.it, 0⟩ = T := ⟨_, rfl⟩
  have HE := hide (show encF I = T ++ packF I.it I.il by unfold encF; rw [hTT])
  rw [hTT] at CX hT
  have HTL := hide hT
  rw [hn] at CS l0 l1 hsz
  obtain ⟨z, hz⟩ : ∃ z, n * widthN I.it = z := ⟨_, rfl⟩
  rw [hz] at CS hsz
  have MK := fun (k : Nat) (hk : k ≤ 70) => make8 (k + z) ((k : Int) + (z : Int)) (by omega) (by omega)
  obtain ⟨i0, hi0, hz0, hz1, hz2⟩ := info_parts infoU8
  clear H hok hn hTT hT hpn hz s0 s1 CT
  generalize I.iw = a at *
  generalize I.ih = b at *
  generalize I.ic = c at *
  generalize I.it = t at *
  go_enter Tryd.func14, Tryd.ntmps14
  go_wp2_with (first
    | (go_at_call 29; (with_reducible refine CA.mono ?_); rintro e w1 ⟨rfl, rfl⟩)
    | (go_at_call 30; (with_reducible refine CB.mono ?_); rintro e w1 ⟨rfl, rfl⟩)
    | (go_at_call 31; (with_reducible refine CC.mono ?_); rintro e w1 ⟨rfl, rfl⟩)
    | (go_at_call 17; (with_reducible refine CD.mono ?_); rintro e w1 ⟨rfl, rfl⟩)
    | (go_at_call 32; (with_reducible refine (CX _ (hKB _ _ hk (below1 _ _))).mono ?_); rintro e w2 ⟨s, rfl, hs, b2⟩; have p0 := cb b2 (b := w.heap.size) (o := 0) (v := .int .i64 c) (by simp) (by simp); have p1 := cb b2 (b := w.heap.size) (o := 1) (v := .int .i64 a) (by simp) (by simp); have p2 := cb b2 (b := w.heap.size) (o := 2) (v := .int .i64 b) (by simp) (by simp); have p3 := cb b2 (b := w.heap.size) (o := 3) (v := .int .i64 t) (by simp) (by simp); have p4 := cb b2 (b := w.heap.size) (o := 4) (v := .int .i64 0) (by simp) (by simp); have lR2 : w.heap.size < w2.heap.size := (by have := b2.size; simp at this; omega); have hm : s.size ≤ 70 := (by rw [← byt_len, hs]; exact HTL.out); obtain ⟨zs, mk, mo⟩ := MK s.size hm; have HMO := hide mo; clear mo)
    | (go_at_call 21; (with_reducible refine (CS _).mono ?_); rintro e w3 ⟨rfl, b3⟩; replace p3 := cb b3 lR2 p3; have lR3 : w.heap.size < w3.heap.size := Nat.lt_of_lt_of_le lR2 b3.size)
    | (at_builtin; refine Go.Lib.wpList_append_own_string _ rfl _ _ 22 9 rfl w3.heap.size 5 i0 Tryd.underlying22 Tryd.underlying9 hi0 hz0 hz1 hz2 (.slice (some ⟨w3.heap.size, 0, none⟩) 0 (s.size + z)) 0 [] rfl (HMO.out w3 w3.heap.size (Nat.le_refl _)) s rfl (by unfold maxLen; omega) (by omega) (by simp) ?_; intro v5 w5 own5 grow5 _)
    | (go_at_call 18; (with_reducible refine (CI _ (grown_fresh (ba (bt (bt (below1 w _) b2) b3) _) grow5 (Nat.le_of_lt lR3))).mono ?_); rintro e w6 ⟨vs, rfl, owns, b6⟩; obtain ⟨h2, cp, rfl, hg, hlt, hrow, hcp, _⟩ := own_row owns HN.out l0))
  have lt5 := own5.lt
  have O5 : OwnI .u8 5 w5 w3.heap.size v5 T := by
    unfold OwnI
    rw [← hs, byt_len, ← strCells_byt]
    simpa using own5
  have s3 := b3.size
  have b5 : Below w.heap.size w w5 := grown_fresh (ba (bt (bt (below1 w _) b2) b3) _) grow5 (Nat.le_of_lt lR3)
  have HE0 := hide (show EncAt 5 w.heap.size h2 t I.il w w6 v5 (T ++ packF t (I.il.take 0)) from ⟨by
      rw [List.take_zero]
      show OwnI _ _ _ _ _ (T ++ [])
      rw [List.append_nil]
      exact (O5.mono (by omega)).below b6, by
      intro e
      have := (lt5 _ e).1
      omega, by
      intro e
      have := (lt5 _ e).2
      omega, by
      have e3 : w5.cell? ⟨w.heap.size, 3, none⟩ = some (.int .i64 t) := cg grow5 (fun e => Nat.ne_of_lt lR3 (Option.some.inj e)) (cb (below1 w3 _) lR3 p3)
      exact cb b6 (cell_ltL e3) e3, hrow, hlt, bt b5 b6⟩)
  clear lt5 O5 own5 grow5 b5 owns hrow hlt hcp hg b6 b2 b3 p0 p1 p2 p3 p4 lR2 lR3 hs hm HMO MK mk CX CS CA CB CC CD CI s3
  go_loopw [5, 31] (fun v i wr => ∃ k : Nat, k ≤ n ∧ i = .int .i64 (k : Int) ∧ EncAt 5 w.heap.size h2 t I.il w wr v (T ++ packF t (I.il.take k))) (fun _ i _ => n - (intOf i).toNat)
  case atStart => exact ⟨0, by omega, rfl, HE0.out⟩
  case round =>
    clear HE0
    obtain ⟨k, hk, rfl, he⟩ := hrel
    have HEA := hide he
    by_cases hlt : k < n
    · obtain ⟨e1, _, _, e4, e5, e6, e7⟩ := he
      have hc := e5.at (show k < I.il.length by rw [HN.out]; exact hlt)
      rw [Nat.zero_add] at hc
      have hx := HX.out k hlt
      have hL := HP.out k (by omega)
      have tk := take_step I.il (show k < I.il.length by rw [HN.out]; exact hlt)
      have HTK := hide tk
      have hlen : (T ++ packF t (I.il.take k)).length ≤ 70 + k * 2 := by rw [List.length_append]; have := HTL.out; omega
      have s6 := e7.size
      obtain ⟨x0, x1, x2⟩ := hx
      clear e5 e6 tk
      generalize I.il.getD k 0 = u at *
      obtain ⟨L, hLL⟩ : ∃ L, T ++ packF t (I.il.take k) = L := ⟨_, rfl⟩
      rw [hLL] at e1 HEA hlen
      by_cases ht : t ≤ 255
      · rw [widthF_one ht] at CW
        have HLL := hide (show T ++ packF t (I.il.take (k + 1)) = L ++ [u] by
          rw [HTK.out, packF_more, ← List.append_assoc, hLL]
          unfold oneF
          rw [if_pos ht, show u % 256 = u by omega])
        clear hLL HP HX HTK hL
        go_wp2_with (first
          | (go_at_call 20; (with_reducible refine (CW _).mono ?_); rintro e w7 ⟨rfl, rfl⟩)
          | (at_builtin; refine wpList_append_apart _ rfl _ _ 22 rfl w.heap.size 5 i0 (.int .u8 0) 1 1 Tryd.underlying22 hi0 hz0 hz1 hz2 rfl (by decide) _ _ _ rfl (e1.alloc _) ⟨wr.heap.size, 0, none⟩ 1 1 [.int .u8 u] rfl rfl (new_one _ _ _) (one_int _ _) (by unfold maxLen; omega) (by omega) (by simp; omega) ?_; intro v3 w3 own3 grow3 ap3))
        go_roundw
        case rel => exact ⟨k + 1, by omega, by go_num, by rw [HLL.out]; exact HEA.out.more own3 grow3 ap3⟩
        case measure => simp [intOf]; omega
      · rw [widthF_two ht] at CW
        obtain ⟨q, hq, q0, q1⟩ : ∃ q : Int, u / 256 = q ∧ 0 ≤ q ∧ q ≤ 255 := ⟨_, rfl, by omega, by omega⟩
        obtain ⟨r, hr, r0, r1⟩ : ∃ r : Int, u % 256 = r ∧ 0 ≤ r ∧ r ≤ 255 := ⟨_, rfl, by omega, by omega⟩
        have HLL := hide (show T ++ packF t (I.il.take (k + 1)) = L ++ [q] ++ [r] by
          rw [HTK.out, packF_more, ← List.append_assoc, hLL]
          unfold oneF
          rw [if_neg ht, hq, hr, List.append_assoc]
          rfl)
        clear hLL HP HX HTK hL
        go_wp2_with (first
          | (go_at_call 20; (with_reducible refine (CW _).mono ?_); rintro e w7 ⟨rfl, rfl⟩)
          | (at_builtin; refine wpList_append_apart _ rfl (.tmp 39) _ 22 rfl w.heap.size 5 i0 (.int .u8 0) 1 1 Tryd.underlying22 hi0 hz0 hz1 hz2 rfl (by decide) _ _ _ rfl (e1.alloc _) ⟨wr.heap.size, 0, none⟩ 1 1 [.int .u8 q] rfl rfl (new_one _ _ _) (one_int _ _) (by unfold maxLen; omega) (by omega) (by simp; omega) ?_; intro v3 w3 own3 grow3 ap3; have E3 := HEA.out.more own3 grow3 ap3; have HE3 := hide E3; have s7 := E3.2.2.2.2.2.2.size; have e3 := E3.1; clear E3)
          | (at_builtin; refine wpList_append_apart _ rfl (.tmp 45) _ 22 rfl w.heap.size 5 i0 (.int .u8 0) 1 1 Tryd.underlying22 hi0 hz0 hz1 hz2 rfl (by decide) _ _ _ rfl (e3.alloc _) ⟨w3.heap.size, 0, none⟩ 1 1 [.int .u8 r] rfl rfl (new_one _ _ _) (one_int _ _) (by rw [List.length_append]; unfold maxLen; simp; omega) (by rw [List.length_append]; simp; omega) (by simp; omega) ?_; intro v4 w4 own4 grow4 ap4))
        go_roundw
        case rel => exact ⟨k + 1, by omega, by go_num, by rw [HLL.out]; exact HE3.out.more own4 grow4 ap4⟩
        case measure => simp [intOf]; omega
    · obtain rfl : k = n := by omega
      rw [List.take_of_length_le (by rw [HN.out]; exact Nat.le_refl _), ← HE.out] at HEA
      clear he
      go_wp2
      go_ret
      exact ⟨_, rfl, HEA.out.1, HEA.out.2.2.2.2.2.2⟩
end Go.Proofs.YtoppojilndnghaaDoor
