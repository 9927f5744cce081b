/- Images as bytes: the law on there and back. -/
import Derived.Test.YtoppojilndnghaaDoorS11K
namespace Go.Proofs.YtoppojilndnghaaDoor
open Go.RowKit


set_option maxHeartbeats 4000000 in
set_option maxRecDepth 100000 in
theorem back_main {K : World → Prop} (hKB : KB K) (CP : HParseC K) (CT : HTextC K) (a b c t : Int) (xs : List Int) (ad : Option Addr) (cap : Nat) (ys : List Int) (m : Nat) (hm : ys.length = m) (h100 : m ≤ 100) (ad2 : Option Addr) (cap2 : Nat) (w : World) (hk : K w) (a0 : 0 ≤ a) (b0 : 0 ≤ b) (c0 : 0 ≤ c) (t0 : 0 ≤ t) (t1 : t ≤ 65535) (hr : RowAt .u16 w ad xs) (hx : ∀ x ∈ xs, 0 ≤ x ∧ x ≤ 65535) (hl : xs.length ≤ maxLen)
    (hr2 : RowAt .u8 w ad2 ys) (hy : ∀ x ∈ ys, 0 ≤ x ∧ x ≤ 255) (hz2 : ad2 = none → cap2 = 0) :
    Calls Tryd.prog 4 #[.int .u16 a, .int .u16 b, .int .u16 c, .int .u16 t, .slice ad xs.length cap, .slice ad2 m cap2] w fun e w' => e = .returned (.bool true) ∧ Below w.heap.size w w' := by
  have CL := fun w hk => plives hKB CP CT w hk
  have CE := fun {w : World} {g h : Nat} {I : Im} (H : ImgAt w g h I) hk => pencode_any hKB CT H hk
  have CD := fun w hr => draw_any a b c t xs ad cap w a0 b0 c0 t0 t1 hr hx hl
  have hKB : ∀ w w', K w → Below w.heap.size w w' → K w' := hKB
  have HR := hide hr
  have HR2 := hide hr2
  have HM := hide hm
  have HZ2 := hide hz2
  obtain ⟨i0, hi0, hz0, hz1, hz2'⟩ := info_parts infoU8
  have q1 : ∀ (g : Nat) (w : World), (binOp .eql 24 (.pointer (some ⟨g, 0, none⟩)) (.pointer none)).run Tryd.prog w = .ok (.bool false) w := fun g w => by kernel_rfl
  have q2 : ∀ (g : Nat) (w : World), (binOp .neq 24 (.pointer (some ⟨g, 0, none⟩)) (.pointer none)).run Tryd.prog w = .ok (.bool true) w := fun g w => by kernel_rfl
  clear hr hx hl a0 b0 c0 t0 t1 CT hr2 hz2
  generalize xs.length = nl at *
  go_enter Tryd.func4, Tryd.ntmps4
  go_upto_region 7 with (first
    | (go_at_call 8; (with_reducible refine (CL _ hk).mono ?_); rintro e w1 ⟨rfl, b1⟩)
    | (go_at_call 13; (with_reducible refine (CD _ (HR.out.below b1)).mono ?_); rintro e w2 ⟨v, I, rfl, ⟨g, h, rfl, gB, hB, hi⟩, i20, j20, b2⟩; have HI := hide hi; clear hi)
    | (go_at_call 14; (with_reducible refine (CE HI.out (hKB _ _ hk (bt b1 b2))).mono ?_); rintro e w3 ⟨v3, rfl, own3, b3⟩))
  obtain ⟨n0, n1, _, _, hin⟩ := enc_small HI.out.ok i20 j20
  have hok := HI.out.ok
  have hdec := decode_enc hok ys
  have CRf := fun (W : World) (b : Below w3.heap.size w3 W) => dref_any ((HI.out.below b3).below b)
  have CTx := fun (b cap : Nat) (W : World) hr => dtext11_any I hok b cap W hr
  have CSm := fun (W : World) (g' h' : Nat) (b : Below w3.heap.size w3 W) (H : ImgAt W g' h' I) => img_same H ((HI.out.below b3).below b)
  rw [imSame_self] at CSm
  obtain ⟨E, hE⟩ : ∃ E, encF I = E := ⟨_, rfl⟩
  rw [hE] at n0 n1 hin hdec own3 CTx
  obtain ⟨n, hn⟩ : ∃ n, E.length = n := ⟨_, rfl⟩
  rw [hn] at n0 n1
  obtain ⟨g3, cap3, rfl, hg3, hl3, r3, hc3, _⟩ := own_row own3 hn (by omega)
  have CV := hide (fun (W : World) (b : Below w3.heap.size w3 W) => conv_run cap3 hn (r3.below b))
  have hq := byt_nums hin
  have HR3 := hide r3
  have HNN := hide hn
  generalize strOfNums E = q at *
  have HQ := hide hq
  have CDC := fun (ad : Option Addr) (cap : Nat) (W : World) (hc : n + m ≤ cap) (hk : K W) (hr : RowAt .u8 W ad (E ++ ys)) (hz : ad = none → cap = 0) => (pdecode_any CP (E ++ ys) (n + m) (by rw [List.length_append, hn, hm]) (by omega) (fun x hx => by
    rcases List.mem_append.1 hx with p | p
    · exact hin x p
    · exact hy x p) ad cap hc W hk hr hz).mono fun e w' (hA : DecAns W.heap.size e w' (decodeF (E ++ ys)) ∧ Below W.heap.size W w') => show (∃ g' h', e = .returned (.tuple #[.pointer (some ⟨g', 0, none⟩), .int .i64 0]) ∧ ImgAt w' g' h' I) ∧ Below W.heap.size W w' by
    rw [hdec] at hA
    obtain ⟨hA, hB⟩ := hA
    rcases hA with ⟨h0, _⟩ | ⟨_, v, he, g', h', rfl, _, _, hi⟩
    · exact absurd rfl h0
    · exact ⟨⟨g', h', he, hi⟩, hB⟩
  have HB3 := hide (bt (bt b1 b2) b3)
  unfold imV at CRf CTx
  clear hdec hin own3 r3 hq hn hE hok HI b1 b2 b3 CP CE CD CL hm hy HR i20 j20 hl3 hg3 gB hB
  have cv3 := CV.out w3.drew (bd (Below.refl _ _))
  go_region_held3 (fun w' => (convert 22 9 (.slice (some ⟨g3, 0, none⟩) n cap3)).run Tryd.prog w' = .ok (.string q) w') (first | assumption | go_keep)
    (first
      | (go_at_call 12; (with_reducible refine (CRf _ (bd (Below.refl _ _))).mono ?_); rintro e w7 ⟨rb7, cap7, rfl, hr7, _, _, _, b7⟩; have cv7 := CV.out _ (bt (bd (Below.refl _ _)) b7))
      | (go_at_call 15; (with_reducible refine (CTx _ _ _ hr7).mono ?_); rintro e w8 ⟨s, rfl, hs, b8⟩; have es := (byt_inj (hs.trans HQ.out.symm)).symm; subst es; have cv8 := CV.out _ (bt (bt (bd (Below.refl _ _)) b7) b8)))
  have B38 := bt (bt (bd (Below.refl _ w3)) b7) b8
  have HB38 := hide B38
  have HB8 := hide (bt HB3.out B38)
  have hr8 := HR3.out.below B38
  have HR8 := hide hr8
  have HY8 := hide (HR2.out.below HB8.out)
  clear B38 hr8 cv3 cv7 cv8 CV CRf CTx HR3 HR2 b7 b8
  go_wp2_with (first
    | (at_builtin; refine wpList_append_row .u8 _ rfl (.tmp 42) _ 22 rfl w8.heap.size 5 i0 (.int .u8 0) 1 Tryd.underlying22 hi0 hz0 hz1 hz2' rfl (.slice (some ⟨w8.heap.size, 0, none⟩) 0 0) [] rfl (own_lit0 _ _ _ _ (Nat.le_refl _)) (some ⟨g3, 0, none⟩) n cap3 E rfl HNN.out (HR8.out.below (below1 _ _)) (fun e => by cases e) (by simp; unfold maxLen; omega) (by simp; omega) (by simp) ?_; intro v9 w9 own9 grow9 _; have b9 := grown_lit (Below.refl _ _) grow9; rw [List.nil_append] at own9; have fr9 := own_fresh own9; have s9 := b9.size)
    | (at_builtin; refine wpList_append_row .u8 _ rfl (.tmp 44) _ 22 rfl w8.heap.size 5 i0 (.int .u8 0) 1 Tryd.underlying22 hi0 hz0 hz1 hz2' rfl v9 E rfl own9 ad2 m cap2 ys rfl HM.out (HY8.out.below b9) HZ2.out (by rw [HNN.out]; unfold maxLen; omega) (by rw [HNN.out]; omega) s9 ?_; intro v10 w10 own10 grow10 _; have b10 := b9.grown grow10 s9 fr9; have hl10 : (E ++ ys).length = n + m := (by rw [List.length_append, HNN.out, HM.out]); obtain ⟨ad10, cap10, rfl, hr10, hz10, _, hc10⟩ := own10.form; rw [hl10] at hc10 ⊢; have HR10 := hide hr10; have HZ10 := hide (fun e => (hz10 e).2); have HB10 := hide (bt HB8.out b10))
    | (go_at_call 9; (with_reducible refine (CDC _ _ _ hc10 (hKB _ _ hk HB10.out) HR10.out HZ10.out).mono ?_); rintro e w11 ⟨⟨g', h', rfl, hi⟩, b11⟩; have HI11 := hide hi; clear hi)
    | (go_at_call 16; (with_reducible refine (CSm _ _ _ (bt (bt HB38.out b10) b11) HI11.out).mono ?_); rintro e w12 ⟨rfl, d12⟩))
  go_ret
  exact ⟨rfl, bt (bt HB10.out b11) d12.below⟩
end Go.Proofs.YtoppojilndnghaaDoor
