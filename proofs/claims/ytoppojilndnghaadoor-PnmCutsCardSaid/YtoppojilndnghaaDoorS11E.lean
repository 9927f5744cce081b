/- Images as bytes: the program's Decode, given what Parse answers. -/
import Derived.Test.YtoppojilndnghaaDoorS11C
import Derived.Test.YtoppojilndnghaaDoorS10F
namespace Go.Proofs.YtoppojilndnghaaDoor
open Go.RowKit


theorem psamples_any (t : Int) (xs : List Int) (n m : Nat) (hn : xs.length = m) (hm : m = n * widthN t) (h0 : 1 ≤ n) (h1 : n ≤ 268435456) (hx : ∀ x ∈ xs, 0 ≤ x ∧ x ≤ 255) (b off cap : Nat) (hcap : m ≤ cap) (w : World) (hr : RowAt .u8 w (some ⟨b, off, none⟩) xs) :
    Calls Tryd.prog 26 #[.slice (some ⟨b, off, none⟩) m cap, .int .i64 (widthF t)] w fun e w' => ∃ v, e = .returned v ∧ OwnI .u16 36 w' w.heap.size v (unpackF t xs) ∧ Below w.heap.size w w' := by
  by_cases ht : t ≤ 255
  · rw [widthF_one ht, unpack_one ht]
    rw [widthN_one ht, Nat.mul_one] at hm
    subst hm
    exact samples_one xs m hn h0 h1 hx b off cap hcap w hr
  · rw [widthF_two ht, show unpackF t xs = pairsF xs from if_neg ht]
    rw [widthN_two ht] at hm
    exact samples_two xs n m hn hm h0 h1 hx b off cap hcap w hr
/-- What Decode answers. -/
def DecAns (B : Nat) (e : Ending) (w' : World) (r : Im × Int) : Prop :=
  (r.2 ≠ 0 ∧ e = .returned (.tuple #[.pointer none, .int .i64 r.2])) ∨ (r.2 = 0 ∧ ∃ v, e = .returned (.tuple #[v, .int .i64 0]) ∧ ImgNew B w' v r.1)
theorem s5_below {w w' : World} {R : Nat} {y0 y1 y2 y3 y4 : Value} (h : w.cell? ⟨R, 0, none⟩ = some y0 ∧ w.cell? ⟨R, 1, none⟩ = some y1 ∧ w.cell? ⟨R, 2, none⟩ = some y2 ∧ w.cell? ⟨R, 3, none⟩ = some y3 ∧ w.cell? ⟨R, 4, none⟩ = some y4) (hb : Below w.heap.size w w') :
    w'.cell? ⟨R, 0, none⟩ = some y0 ∧ w'.cell? ⟨R, 1, none⟩ = some y1 ∧ w'.cell? ⟨R, 2, none⟩ = some y2 ∧ w'.cell? ⟨R, 3, none⟩ = some y3 ∧ w'.cell? ⟨R, 4, none⟩ = some y4 := by
  obtain ⟨a, b, c, d, e⟩ := h
  exact ⟨cb hb (cell_ltL a) a, cb hb (cell_ltL b) b, cb hb (cell_ltL c) c, cb hb (cell_ltL d) d, cb hb (cell_ltL e) e⟩
theorem decode_bad {K : World → Prop} (CP : HParseC K) (xs : List Int) (n : Nat) (hn : xs.length = n) (hn2 : n ≤ 1048576) (hx : ∀ x ∈ xs, 0 ≤ x ∧ x ≤ 255) (ad : Option Addr) (cap : Nat) (w : World) (hk : K w) (hr : RowAt .u8 w ad xs) (hz : ad = none → cap = 0) (hp : (parseF xs).2 ≠ 0) :
    Calls Tryd.prog 9 #[.slice ad n cap] w fun e w' => DecAns w.heap.size e w' (decodeF xs) ∧ Below w.heap.size w w' := by
  have C1 := fun w hk hr => CP xs n ad cap w hk hn hn2 hx hr hz
  rw [decode_no hp]
  obtain ⟨⟨⟨a, b, c, d, s⟩, k⟩, hP⟩ : ∃ r, parseF xs = r := ⟨_, rfl⟩
  rw [hP] at C1 hp ⊢
  simp only at C1 hp ⊢
  unfold hdV at C1
  have HR := hide hr
  have HD := hide (fun (w' : World) => show DecAns w.heap.size (.returned (.tuple #[.pointer none, .int .i64 k])) w' (im0, k) from .inl ⟨hp, rfl⟩)
  have hk0 : (k != 0) = true := bne_iff_ne.2 hp
  clear CP hn hn2 hx hr hz hP hp
  go_enter Tryd.func9, Tryd.ntmps9
  go_wp2_with (go_at_call 25; (with_reducible refine (C1 _ hk HR.out).mono ?_); rintro e w1 ⟨rfl, b1⟩)
  exact bodyPost_ret (v := .tuple #[.pointer none, .int .i64 k]) (by simp [results, Tryd.results9, go_sem]) rfl ⟨HD.out _, ba b1 _⟩
theorem ImgNew.mono {B B' : Nat} {w : World} {v : Value} {I : Im} (h : ImgNew B w v I) (hb : B' ≤ B) : ImgNew B' w v I := by
  obtain ⟨g, k, e, a, b, c⟩ := h
  exact ⟨g, k, e, Nat.le_trans hb a, Nat.le_trans hb b, c⟩
set_option maxHeartbeats 4000000 in
theorem decode_good {K : World → Prop} (CP : HParseC K) (xs : List Int) (n : Nat) (hn : xs.length = n) (hn2 : n ≤ 1048576) (hx : ∀ x ∈ xs, 0 ≤ x ∧ x ≤ 255) (bl off : Nat) (cap : Nat) (hcap : n ≤ cap) (w : World) (hk : K w) (hr : RowAt .u8 w (some ⟨bl, off, none⟩) xs) (hp : (parseF xs).2 = 0) :
    Calls Tryd.prog 9 #[.slice (some ⟨bl, off, none⟩) n cap] w fun e w' => DecAns w.heap.size e w' (decodeF xs) ∧ Below w.heap.size w w' := by
  have C1 := fun w hk hr => CP xs n (some ⟨bl, off, none⟩) cap w hk hn hn2 hx hr (fun e => by cases e)
  obtain ⟨hcd, hs0, hs1⟩ := parse_zero hp
  have hdec := decode_yes hp
  have CS := fun w => psize_any (parseF xs).1 w
  obtain ⟨⟨⟨c, a, b, t, s'⟩, k⟩, hP⟩ : ∃ r, parseF xs = r := ⟨_, rfl⟩
  rw [hP] at C1 hp hcd hs0 hs1 hdec CS
  simp only at C1 hp hcd hs0 hs1 hdec CS
  subst hp
  obtain ⟨s, rfl⟩ : ∃ s : Nat, s' = (s : Int) := ⟨s'.toNat, by omega⟩
  rw [hn] at hs1
  rw [Int.toNat_natCast] at hdec
  obtain ⟨N, hN, N0, N1, hzz, hzn⟩ := size_in hcd
  have hpz : pnmF a b c t = ((N * widthN t : Nat) : Int) := by unfold pnmF; rw [if_pos hcd, hzz]
  rw [hpz] at CS
  have hz2 : N * widthN t ≤ 536870912 := by
    have := Nat.mul_le_mul N1 (widthN_in t).2
    omega
  unfold hdV at C1 CS
  have HR := hide hr
  have hsl : (xs.drop s).length = n - s := by rw [List.length_drop, hn]
  unfold bodyI at hdec
  simp only at hdec
  rw [hzz, hsl, Int.toNat_natCast] at hdec
  obtain ⟨z, hz⟩ : ∃ z, N * widthN t = z := ⟨_, rfl⟩
  rw [hz] at CS hz2 hdec
  have hsn : s ≤ n := by omega
  obtain ⟨m, hm⟩ : ∃ m, n - s = m := ⟨_, rfl⟩
  rw [hm] at hdec
  have hmi : (n : Int) - (s : Int) = (m : Int) := by omega
  by_cases hshort : m < z
  · rw [if_pos (by omega)] at hdec
    rw [hdec]
    have HD := hide (fun (w' : World) => show DecAns w.heap.size (.returned (.tuple #[.pointer none, .int .i64 3])) w' (im0, 3) from .inl ⟨by decide, rfl⟩)
    clear CP hn hn2 hx hr hP hdec hcd hN N0 N1 hzz hzn hpz hz hsl
    go_enter Tryd.func9, Tryd.ntmps9
    go_wp2_with (first
      | (go_at_call 25; (with_reducible refine (C1 _ hk HR.out).mono ?_); rintro e w1 ⟨rfl, b1⟩)
      | (go_at_call 21; (with_reducible refine (CS _).mono ?_); rintro e w2 ⟨rfl, b2⟩))
    all_goals exact bodyPost_ret (v := .tuple #[.pointer none, .int .i64 3]) (by simp [results, Tryd.results9, go_sem]) rfl ⟨HD.out _, bt (ba b1 _) b2⟩
  · rw [if_neg (by omega)] at hdec
    have z1 : 1 ≤ z := by
      have := Nat.mul_le_mul N0 (widthN_in t).1
      omega
    have hsc : s < cap := by omega
    have hcs : ¬ cap = s := by omega
    have hzm : z ≤ m := by omega
    have hzc : z ≤ cap - s := by omega
    have hrow := hr.part s z (by omega)
    have hlen : ((xs.drop s).take z).length = z := by rw [List.length_take, hsl]; omega
    have hin : ∀ x ∈ (xs.drop s).take z, 0 ≤ x ∧ x ≤ 255 := fun x hx' => hx x (List.mem_of_mem_drop (List.mem_of_mem_take hx'))
    have CT := fun w hr => psamples_any t ((xs.drop s).take z) N z hlen hz.symm N0 N1 hin bl (off + s) (cap - s) hzc w hr
    have HROW := hide hrow
    have hun := unpackF_len (t := t) (n := N) (l := (xs.drop s).take z) (by rw [hlen, hz])
    have huin := unpackF_in (t := t) hin
    have CW := fun w => pwidth_any t w
    generalize unpackF t ((xs.drop s).take z) = U at *
    have hmxa := mx_all (xs := U) (t := t) (by omega)
    rw [hun] at hmxa
    have HUN := hide hun
    by_cases hall : ∀ x ∈ U, x ≤ t
    · rw [if_pos hall] at hdec
      rw [hdec]
      have CO := fun ad cap w hr => of_yes a b c t hcd U N hun ad cap hN huin (hmxa.2 hall) w hr
      have HD := hide (fun (w' : World) (v : Value) (q : ImgNew w.heap.size w' v ⟨a, b, c, t, U⟩) => show DecAns w.heap.size (.returned (.tuple #[v, .int .i64 0])) w' (⟨a, b, c, t, U⟩, 0) from .inr ⟨rfl, v, rfl, q⟩)
      clear CP hn hn2 hx hr hP hdec hcd hN hzz hzn hpz hz hsl hrow hlen hin hun huin hmxa hall
      go_enter Tryd.func9, Tryd.ntmps9
      go_upto_region 7 with (first
        | (go_at_call 25; (with_reducible refine (C1 _ hk HR.out).mono ?_); rintro e w1 ⟨rfl, b1⟩)
        | (go_at_call 21; (with_reducible refine (CS _).mono ?_); rintro e w2 ⟨rfl, b2⟩))
      have p5 := s5_below (w := w1.alloc (.cells #[.int .i64 c, .int .i64 a, .int .i64 b, .int .i64 t, .int .i64 (s : Int)] 47)) (R := w1.heap.size) (y0 := .int .i64 c) (y1 := .int .i64 a) (y2 := .int .i64 b) (y3 := .int .i64 t) (y4 := .int .i64 (s : Int)) ⟨by simp, by simp, by simp, by simp, by simp⟩ (bd b2)
      have HB2 := hide (bt (ba b1 (.cells #[.int .i64 c, .int .i64 a, .int .i64 b, .int .i64 t, .int .i64 (s : Int)] 47)) (bd b2))
      generalize w1.heap.size = R at *
      clear b1 b2 C1
      go_region_held3 (fun w' => w'.cell? ⟨R, 0, none⟩ = some (.int .i64 c) ∧ w'.cell? ⟨R, 1, none⟩ = some (.int .i64 a) ∧ w'.cell? ⟨R, 2, none⟩ = some (.int .i64 b) ∧ w'.cell? ⟨R, 3, none⟩ = some (.int .i64 t) ∧ w'.cell? ⟨R, 4, none⟩ = some (.int .i64 (s : Int))) (first | assumption | go_keep)
        (first
          | (go_at_call 21; (with_reducible refine (CS _).mono ?_); rintro e w3 ⟨rfl, b3⟩; have q5 := s5_below p5 b3)
          | (go_at_call 20; (with_reducible refine (CW _).mono ?_); rintro e w7 ⟨rfl, rfl⟩)
          | (go_at_call 26; (with_reducible refine (CT _ (HROW.out.below (bt HB2.out b3))).mono ?_); rintro e w4 ⟨v4, rfl, own4, b4⟩; have r5 := s5_below q5 b4; obtain ⟨g4, cp4, rfl, hg4, hl4, hr4, hc4, _⟩ := own_row own4 HUN.out N0)
          | (go_at_call 22; (with_reducible refine (CO _ _ _ hr4).mono ?_); rintro e w5 ⟨v5, rfl, hi5, b5⟩; have t5 := s5_below r5 b5))
      go_wp2
      have sB := HB2.out.size
      have s3 := b3.size
      have s4 := b4.size
      exact bodyPost_ret (v := .tuple #[v5, .int .i64 0]) (by simp [results, Tryd.results9, go_sem]) rfl ⟨HD.out _ _ (hi5.mono (by omega)), bt (bt (bt HB2.out b3) b4) b5⟩
    · rw [if_neg hall] at hdec
      rw [hdec]
      have CO := fun ad cap w hr => of_no3 a b c t hcd U N hun ad cap hN huin (Int.not_le.1 (fun q => hall (hmxa.1 q))) w hr
      have HD := hide (fun (w' : World) => show DecAns w.heap.size (.returned (.tuple #[.pointer none, .int .i64 4])) w' (im0, 4) from .inl ⟨by decide, rfl⟩)
      clear CP hn hn2 hx hr hP hdec hcd hN hzz hzn hpz hz hsl hrow hlen hin hun huin hmxa hall
      go_enter Tryd.func9, Tryd.ntmps9
      go_upto_region 7 with (first
        | (go_at_call 25; (with_reducible refine (C1 _ hk HR.out).mono ?_); rintro e w1 ⟨rfl, b1⟩)
        | (go_at_call 21; (with_reducible refine (CS _).mono ?_); rintro e w2 ⟨rfl, b2⟩))
      have p5 := s5_below (w := w1.alloc (.cells #[.int .i64 c, .int .i64 a, .int .i64 b, .int .i64 t, .int .i64 (s : Int)] 47)) (R := w1.heap.size) (y0 := .int .i64 c) (y1 := .int .i64 a) (y2 := .int .i64 b) (y3 := .int .i64 t) (y4 := .int .i64 (s : Int)) ⟨by simp, by simp, by simp, by simp, by simp⟩ (bd b2)
      have HB2 := hide (bt (ba b1 (.cells #[.int .i64 c, .int .i64 a, .int .i64 b, .int .i64 t, .int .i64 (s : Int)] 47)) (bd b2))
      generalize w1.heap.size = R at *
      clear b1 b2 C1
      go_region_held3 (fun w' => w'.cell? ⟨R, 0, none⟩ = some (.int .i64 c) ∧ w'.cell? ⟨R, 1, none⟩ = some (.int .i64 a) ∧ w'.cell? ⟨R, 2, none⟩ = some (.int .i64 b) ∧ w'.cell? ⟨R, 3, none⟩ = some (.int .i64 t) ∧ w'.cell? ⟨R, 4, none⟩ = some (.int .i64 (s : Int))) (first | assumption | go_keep)
        (first
          | (go_at_call 21; (with_reducible refine (CS _).mono ?_); rintro e w3 ⟨rfl, b3⟩; have q5 := s5_below p5 b3)
          | (go_at_call 20; (with_reducible refine (CW _).mono ?_); rintro e w7 ⟨rfl, rfl⟩)
          | (go_at_call 26; (with_reducible refine (CT _ (HROW.out.below (bt HB2.out b3))).mono ?_); rintro e w4 ⟨v4, rfl, own4, b4⟩; have r5 := s5_below q5 b4; obtain ⟨g4, cp4, rfl, hg4, hl4, hr4, hc4, _⟩ := own_row own4 HUN.out N0)
          | (go_at_call 22; (with_reducible refine (CO _ _ _ hr4).mono ?_); rintro e w5 ⟨rfl, rfl⟩))
      go_wp2
      exact bodyPost_ret (v := .tuple #[.pointer none, .int .i64 4]) (by simp [results, Tryd.results9, go_sem]) rfl ⟨HD.out _, bt (bt HB2.out b3) b4⟩
theorem pdecode_any {K : World → Prop} (CP : HParseC K) (xs : List Int) (n : Nat) (hn : xs.length = n) (hn2 : n ≤ 1048576) (hx : ∀ x ∈ xs, 0 ≤ x ∧ x ≤ 255) (ad : Option Addr) (cap : Nat) (hcap : n ≤ cap) (w : World) (hk : K w) (hr : RowAt .u8 w ad xs) (hz : ad = none → cap = 0) :
    Calls Tryd.prog 9 #[.slice ad n cap] w fun e w' => DecAns w.heap.size e w' (decodeF xs) ∧ Below w.heap.size w w' := by
  by_cases hp : (parseF xs).2 = 0
  · have h2 : xs ≠ [] := by
      intro e
      subst e
      revert hp
      decide
    rcases hr with hr | ⟨b, off, rfl, hr⟩
    · exact absurd hr h2
    · exact decode_good CP xs n hn hn2 hx b off cap hcap w hk (.inr ⟨b, off, rfl, hr⟩) hp
  · exact decode_bad CP xs n hn hn2 hx ad cap w hk hr hz hp
end Go.Proofs.YtoppojilndnghaaDoor
