/- The program's images: New, Of. -/
import Derived.Test.YtoppojilndnghaaDoorS09D
namespace Go.Proofs.YtoppojilndnghaaDoor
open Go.RowKit


theorem rep_ok {a b c t : Int} (h : codeF a b c t = 0) : ImOk ⟨a, b, c, t, List.replicate (a * b * c).toNat 0⟩ ∧ (((a * b * c).toNat : Nat) : Int) = a * b * c ∧ (a * b * c).toNat ≤ 268435456 := by
  obtain ⟨t0, t1, a0, a1, b0, b1, hc, hm⟩ := codeF_zero h
  have := side_mul3 a0 a1 b0 b1 hc
  refine ⟨⟨a0, a1, b0, b1, hc, t0, t1, hm, ?_, fun x hx => ?_⟩, by omega, by omega⟩
  · show ((List.replicate (a * b * c).toNat (0 : Int)).length : Int) = a * b * c
    rw [List.length_replicate]; omega
  · show 0 ≤ x ∧ x ≤ t
    obtain ⟨_, rfl⟩ := List.mem_replicate.1 hx
    omega
theorem new_yes (a b c t : Int) (h : codeF a b c t = 0) (w : World) :
    Calls Tryd.prog 40 #[.int .i64 a, .int .i64 b, .int .i64 c, .int .i64 t] w fun e w' => ∃ v, e = .returned (.tuple #[v, .int .i64 0]) ∧ ImgNew w.heap.size w' v ⟨a, b, c, t, List.replicate (a * b * c).toNat 0⟩ ∧ Below w.heap.size w w' := by
  obtain ⟨hok, hn, hl⟩ := rep_ok h
  obtain ⟨t0, t1, a0, a1, b0, b1, hc, hm⟩ := codeF_zero h
  obtain ⟨m0, m1⟩ := side_mul a0 a1 b0 b1
  obtain ⟨p0, p1⟩ := side_mul3 a0 a1 b0 b1 hc
  have CC := rcheck_any a b c t
  rw [h] at CC
  obtain ⟨zs, MK, MO⟩ := make16 (a * b * c).toNat hl
  have HMO := hide MO
  have HOK := hide hok
  rw [hn] at MK
  have n0 : 1 ≤ (a * b * c).toNat := by omega
  generalize (a * b * c).toNat = n at *
  have HL := hide (List.length_replicate (n := n) (a := (0 : Int)))
  clear MO hok hn hc h
  go_enter Tryd.func40, Tryd.ntmps40
  go_wp2_with (go_at_call 38; (with_reducible refine (CC _).mono ?_); rintro e w1 ⟨rfl, rfl⟩)
  obtain ⟨g, cp, hv, hg, hlt, hr, _, hz⟩ := own_row (HMO.out w w.heap.size (Nat.le_refl _)) HL.out n0
  simp only [Value.slice.injEq, Option.some.injEq, Addr.mk.injEq, and_true, true_and] at hv
  obtain ⟨rfl, rfl⟩ := hv
  have hi := ImgAt.new (T := 64) hr hz (by rw [HL.out]; exact Nat.le_refl _) HOK.out
  rw [HL.out] at hi
  have HI := hide hi
  clear hi hr hz
  exact bodyPost_ret (v := .tuple #[.pointer (some ⟨w.heap.size + 1, 0, none⟩), .int .i64 0]) (by simp [results, Tryd.results40, go_sem]) rfl ⟨_, rfl, ⟨w.heap.size + 1, w.heap.size, rfl, by omega, Nat.le_refl _, by simpa using HI.out⟩, ba (below1 _ _) _⟩
theorem of_no3 (a b c t : Int) (h : codeF a b c t = 0) (xs : List Int) (n : Nat) (hx : xs.length = n) (ad : Option Addr) (cap : Nat) (hn : (n : Int) = a * b * c) (hb : ∀ x ∈ xs, 0 ≤ x ∧ x ≤ 65535) (ht : t < mxTo xs n) (w : World) (hr : RowAt .u16 w ad xs) :
    Calls Tryd.prog 22 #[.int .i64 a, .int .i64 b, .int .i64 c, .int .i64 t, .slice ad n cap] w fun e w' => e = .returned (.tuple #[.pointer none, .int .i64 4]) ∧ w = w' := by
  obtain ⟨t0, t1, a0, a1, b0, b1, hc, hm⟩ := codeF_zero h
  obtain ⟨m0, m1⟩ := side_mul a0 a1 b0 b1
  obtain ⟨p0, p1⟩ := side_mul3 a0 a1 b0 b1 hc
  have CC := rcheck_any a b c t
  rw [h] at CC
  have hk : ((n : Int) != a * b * c) = false := by rw [hn]; simp
  have CM := fun w hr => max16 xs n hx ad cap (by omega) (by omega) hb w hr
  obtain ⟨x0, x1⟩ := mxTo_in hb (by omega) n (by omega)
  generalize mxTo xs n = x at *
  have HR := hide hr
  clear h hn hc hb hr hx
  go_enter Tryd.func22, Tryd.ntmps22
  go_wp2_with (first
    | (go_at_call 38; (with_reducible refine (CC _).mono ?_); rintro e w1 ⟨rfl, rfl⟩)
    | (go_at_call 39; (with_reducible refine (CM _ HR.out).mono ?_); rintro e w1 ⟨rfl, rfl⟩))
  exact bodyPost_ret (v := .tuple #[.pointer none, .int .i64 4]) (by simp [results, Tryd.results22, go_sem]) rfl ⟨rfl, rfl⟩
theorem of_yes (a b c t : Int) (h : codeF a b c t = 0) (xs : List Int) (n : Nat) (hx : xs.length = n) (ad : Option Addr) (cap : Nat) (hn : (n : Int) = a * b * c) (hb : ∀ x ∈ xs, 0 ≤ x ∧ x ≤ 65535) (ht : mxTo xs n ≤ t) (w : World) (hr : RowAt .u16 w ad xs) :
    Calls Tryd.prog 22 #[.int .i64 a, .int .i64 b, .int .i64 c, .int .i64 t, .slice ad n cap] w fun e w' => ∃ v, e = .returned (.tuple #[v, .int .i64 0]) ∧ ImgNew w.heap.size w' v ⟨a, b, c, t, xs⟩ ∧ Below w.heap.size w w' := by
  obtain ⟨t0, t1, a0, a1, b0, b1, hc, hm⟩ := codeF_zero h
  obtain ⟨m0, m1⟩ := side_mul a0 a1 b0 b1
  obtain ⟨p0, p1⟩ := side_mul3 a0 a1 b0 b1 hc
  have CC := rcheck_any a b c t
  rw [h] at CC
  have hk : ((n : Int) != a * b * c) = false := by rw [hn]; simp
  have CM := fun w hr => max16 xs n hx ad cap (by omega) (by omega) hb w hr
  obtain ⟨x0, x1⟩ := mxTo_in hb (by omega) n (by omega)
  have HOK := hide (show ImOk ⟨a, b, c, t, xs⟩ from ⟨a0, a1, b0, b1, hc, t0, t1, hm, by rw [hx]; exact hn, fun x hx' => ⟨(hb x hx').1, (mx_all (xs := xs) (by omega)).1 (by rw [hx]; exact ht) x hx'⟩⟩)
  have HR := hide hr
  have n0 : 1 ≤ n := by omega
  have n1 : n ≤ 268435456 := by omega
  have HX := hide hx
  obtain ⟨bl, off, rfl, _⟩ := hr.get (show 0 < xs.length by omega)
  have CD := fun w hr => clone16 xs n hx bl off cap n1 w hr
  generalize mxTo xs n = x at *
  clear h hn hc hb hr hx
  go_enter Tryd.func22, Tryd.ntmps22
  go_wp2_with (first
    | (go_at_call 38; (with_reducible refine (CC _).mono ?_); rintro e w1 ⟨rfl, rfl⟩)
    | (go_at_call 39; (with_reducible refine (CM _ HR.out).mono ?_); rintro e w1 ⟨rfl, rfl⟩)
    | (go_at_call 35; (with_reducible refine (CD _ HR.out).mono ?_); rintro e w2 ⟨v, rfl, own, b2⟩; obtain ⟨g, cp, rfl, hg, hlt, hr, hcp, hz⟩ := own_row own HX.out n0; clear own))
  have hi := ImgAt.new (T := 64) hr hz (by rw [HX.out]; exact hcp) HOK.out
  have s2 := b2.size
  replace hi : ImgAt (w2.alloc (.cells #[.int .i64 a, .int .i64 b, .int .i64 c, .int .i64 t, .slice (some ⟨g, 0, none⟩) xs.length cp] 64)) w2.heap.size g ⟨a, b, c, t, xs⟩ := hi
  rw [HX.out] at hi
  exact bodyPost_ret (v := .tuple #[.pointer (some ⟨w2.heap.size, 0, none⟩), .int .i64 0]) (by simp [results, Tryd.results22, go_sem]) rfl ⟨_, rfl, ⟨w2.heap.size, g, rfl, s2, hg, hi⟩, ba b2 _⟩
end Go.Proofs.YtoppojilndnghaaDoor
