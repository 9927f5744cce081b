/- The program's heads: texts; the laws on texts. -/
import Derived.Test.YtoppojilndnghaaDoorLI
import Derived.Test.YtoppojilndnghaaDoorS10Q
import Derived.Test.YtoppojilndnghaaDoorS10J
import Derived.Test.YtoppojilndnghaaDoorS10L
namespace Go.Proofs.YtoppojilndnghaaDoor
open Go.RowKit


/-- What a head's text is begun with. -/
theorem p10_alloc {w : World} (h : Pow10 w) (o : Obj) : Pow10 (w.alloc o) := pow10_below w _ h (below1 w o)
theorem p10_drew {w : World} (h : Pow10 w) : Pow10 w.drew := pow10_below w _ h (bd (Below.refl _ w))
theorem s3p_below {w w' : World} {R : Nat} {y1 y2 y3 : Value} (h : w.cell? ⟨R, 1, none⟩ = some y1 ∧ w.cell? ⟨R, 2, none⟩ = some y2 ∧ w.cell? ⟨R, 3, none⟩ = some y3) (hb : Below w.heap.size w w') :
    w'.cell? ⟨R, 1, none⟩ = some y1 ∧ w'.cell? ⟨R, 2, none⟩ = some y2 ∧ w'.cell? ⟨R, 3, none⟩ = some y3 := s3_below h hb
set_option maxHeartbeats 1000000 in
theorem htext_any : HTextC Pow10 := by
  intro h hin w hk
  rw [textF_eq]
  unfold hdV
  obtain ⟨⟨x0, x1⟩, ⟨y0, y1⟩, ⟨z0, z1⟩⟩ := hin
  have C1 := fun w hk => itoa_any h.hw x0 x1 w hk
  have C2 := fun w hk => itoa_any h.hh y0 y1 w hk
  have C3 := fun w hk => itoa_any h.ht z0 z1 w hk
  have HK := hide hk
  clear x0 x1 y0 y1 z0 z1 hk
  by_cases h3 : h.hc = 3
  · have hb : (h.hc == 3) = true := beq_iff_eq.2 h3
    rw [if_pos h3]
    clear h3
    generalize intF h.hw = L1 at *
    generalize intF h.hh = L2 at *
    generalize intF h.ht = L3 at *
    generalize h.hc = c at *
    generalize h.hw = a at *
    generalize h.hh = b at *
    generalize h.ht = t at *
    generalize h.hs = z at *
    go_enter Tryd.func32, Tryd.ntmps32
    go_upto_region 4 with fail
    have q1 : (w.alloc (.cells #[.int .i64 c, .int .i64 a, .int .i64 b, .int .i64 t, .int .i64 z] 47)).cell? ⟨w.heap.size, 1, none⟩ = some (.int .i64 a) := by simp
    have q2 : (w.alloc (.cells #[.int .i64 c, .int .i64 a, .int .i64 b, .int .i64 t, .int .i64 z] 47)).cell? ⟨w.heap.size, 2, none⟩ = some (.int .i64 b) := by simp
    have q3 : (w.alloc (.cells #[.int .i64 c, .int .i64 a, .int .i64 b, .int .i64 t, .int .i64 z] 47)).cell? ⟨w.heap.size, 3, none⟩ = some (.int .i64 t) := by simp
    have HB := hide (below1 w (.cells #[.int .i64 c, .int .i64 a, .int .i64 b, .int .i64 t, .int .i64 z] 47))
    have HK1 := hide (p10_drew (p10_alloc HK.out (.cells #[.int .i64 c, .int .i64 a, .int .i64 b, .int .i64 t, .int .i64 z] 47)))
    generalize w.alloc (.cells #[.int .i64 c, .int .i64 a, .int .i64 b, .int .i64 t, .int .i64 z] 47) = w1 at *
    obtain ⟨R, hR⟩ : ∃ R, w.heap.size = R := ⟨_, rfl⟩
    have HR := hide hR
    rw [hR] at q1 q2 q3
    simp only [hR]
    clear hR
    have lR := cell_ltL q1
    have hs1 : w1.drew.cell? ⟨R, 1, none⟩ = some (.int .i64 a) ∧ w1.drew.cell? ⟨R, 2, none⟩ = some (.int .i64 b) ∧ w1.drew.cell? ⟨R, 3, none⟩ = some (.int .i64 t) := ⟨q1, q2, q3⟩
    clear q1 q2 q3
    go_region_held3 (fun w' => w'.cell? ⟨R, 1, none⟩ = some (.int .i64 a) ∧ w'.cell? ⟨R, 2, none⟩ = some (.int .i64 b) ∧ w'.cell? ⟨R, 3, none⟩ = some (.int .i64 t)) (first | assumption | go_keep)
      (first
        | (go_at_call 49; (with_reducible refine (C1 _ HK1.out).mono ?_); rintro e w2 ⟨t1, rfl, ht1, hz1, b2⟩; have hs2 := s3p_below hs1 b2; have HK2 := hide (pow10_below _ _ HK1.out b2); have g1 : ¬ (9223372036854775807 < 3 + t1.size) := (by omega); have g1' : ¬ (9223372036854775807 < 3 + t1.size + 1) := (by omega))
        | (go_at_call 49; (with_reducible refine (C2 _ HK2.out).mono ?_); rintro e w3 ⟨t2, rfl, ht2, hz2, b3⟩; have hs3 := s3p_below hs2 b3; have HK3 := hide (pow10_below _ _ HK2.out b3); have g2 : ¬ (9223372036854775807 < 3 + t1.size + 1 + t2.size) := (by omega); have g2' : ¬ (9223372036854775807 < 3 + t1.size + 1 + t2.size + 1) := (by omega))
        | (go_at_call 49; (with_reducible refine (C3 _ HK3.out).mono ?_); rintro e w4 ⟨t3, rfl, ht3, hz3, b4⟩; have hs4 := s3p_below hs3 b4; have g3 : ¬ (9223372036854775807 < 3 + t1.size + 1 + t2.size + 1 + t3.size) := (by omega); have g3' : ¬ (9223372036854775807 < 3 + t1.size + 1 + t2.size + 1 + t3.size + 1) := (by omega)))
    go_wp2
    go_ret
    refine ⟨_, rfl, ?_, bt (bt (bt (bd HB.out) b2) b3) b4⟩
    simp only [byt_add, ht1, ht2, ht3]
    rfl
  · have hb : (h.hc == 3) = false := beq_eq_false_iff_ne.2 h3
    rw [if_neg h3]
    clear h3
    generalize intF h.hw = L1 at *
    generalize intF h.hh = L2 at *
    generalize intF h.ht = L3 at *
    generalize h.hc = c at *
    generalize h.hw = a at *
    generalize h.hh = b at *
    generalize h.ht = t at *
    generalize h.hs = z at *
    go_enter Tryd.func32, Tryd.ntmps32
    go_upto_region 4 with fail
    have q1 : (w.alloc (.cells #[.int .i64 c, .int .i64 a, .int .i64 b, .int .i64 t, .int .i64 z] 47)).cell? ⟨w.heap.size, 1, none⟩ = some (.int .i64 a) := by simp
    have q2 : (w.alloc (.cells #[.int .i64 c, .int .i64 a, .int .i64 b, .int .i64 t, .int .i64 z] 47)).cell? ⟨w.heap.size, 2, none⟩ = some (.int .i64 b) := by simp
    have q3 : (w.alloc (.cells #[.int .i64 c, .int .i64 a, .int .i64 b, .int .i64 t, .int .i64 z] 47)).cell? ⟨w.heap.size, 3, none⟩ = some (.int .i64 t) := by simp
    have HB := hide (below1 w (.cells #[.int .i64 c, .int .i64 a, .int .i64 b, .int .i64 t, .int .i64 z] 47))
    have HK1 := hide (p10_drew (p10_alloc HK.out (.cells #[.int .i64 c, .int .i64 a, .int .i64 b, .int .i64 t, .int .i64 z] 47)))
    generalize w.alloc (.cells #[.int .i64 c, .int .i64 a, .int .i64 b, .int .i64 t, .int .i64 z] 47) = w1 at *
    obtain ⟨R, hR⟩ : ∃ R, w.heap.size = R := ⟨_, rfl⟩
    have HR := hide hR
    rw [hR] at q1 q2 q3
    simp only [hR]
    clear hR
    have lR := cell_ltL q1
    have hs1 : w1.drew.cell? ⟨R, 1, none⟩ = some (.int .i64 a) ∧ w1.drew.cell? ⟨R, 2, none⟩ = some (.int .i64 b) ∧ w1.drew.cell? ⟨R, 3, none⟩ = some (.int .i64 t) := ⟨q1, q2, q3⟩
    clear q1 q2 q3
    go_region_held3 (fun w' => w'.cell? ⟨R, 1, none⟩ = some (.int .i64 a) ∧ w'.cell? ⟨R, 2, none⟩ = some (.int .i64 b) ∧ w'.cell? ⟨R, 3, none⟩ = some (.int .i64 t)) (first | assumption | go_keep)
      (first
        | (go_at_call 49; (with_reducible refine (C1 _ HK1.out).mono ?_); rintro e w2 ⟨t1, rfl, ht1, hz1, b2⟩; have hs2 := s3p_below hs1 b2; have HK2 := hide (pow10_below _ _ HK1.out b2); have g1 : ¬ (9223372036854775807 < 3 + t1.size) := (by omega); have g1' : ¬ (9223372036854775807 < 3 + t1.size + 1) := (by omega))
        | (go_at_call 49; (with_reducible refine (C2 _ HK2.out).mono ?_); rintro e w3 ⟨t2, rfl, ht2, hz2, b3⟩; have hs3 := s3p_below hs2 b3; have HK3 := hide (pow10_below _ _ HK2.out b3); have g2 : ¬ (9223372036854775807 < 3 + t1.size + 1 + t2.size) := (by omega); have g2' : ¬ (9223372036854775807 < 3 + t1.size + 1 + t2.size + 1) := (by omega))
        | (go_at_call 49; (with_reducible refine (C3 _ HK3.out).mono ?_); rintro e w4 ⟨t3, rfl, ht3, hz3, b4⟩; have hs4 := s3p_below hs3 b4; have g3 : ¬ (9223372036854775807 < 3 + t1.size + 1 + t2.size + 1 + t3.size) := (by omega); have g3' : ¬ (9223372036854775807 < 3 + t1.size + 1 + t2.size + 1 + t3.size + 1) := (by omega)))
    go_wp2
    go_ret
    refine ⟨_, rfl, ?_, bt (bt (bt (bd HB.out) b2) b3) b4⟩
    simp only [byt_add, ht1, ht2, ht3]
    rfl
theorem hparse_k (K : World → Prop) : HParseC K := fun xs n ad cap w _ a b c d e => hparse_any xs n ad cap w trivial a b c d e
end Go.Proofs.YtoppojilndnghaaDoor
