/- A ring compared with the document's. -/
import Derived.Test.YtkkoemcciemloaaS16X
namespace Go.Proofs.Ytkkoemcciemloaa
open Go.RowKit
open Go.Maps (Keyed)
open Go.MapKept Go.ChangeMaps


set_option maxHeartbeats 8000000 in
set_option maxRecDepth 100000 in
theorem same16_any {w w0 : World} {r room width : Nat} {L : List (Int × List Int)} {n cap : Nat} {ad : Option Addr} (h : LawR w0 w r room width L) (hn : L.length = n) (hr : RdL w ad L) :
    Calls Try.prog 21 #[.pointer (some ⟨r, 0, none⟩), .agg #[.int .i64 (room : Int), .int .i64 (width : Int), .slice ad n cap]] w fun e w' => e = .returned (.bool true) ∧ Below w.heap.size w w' := by
  obtain ⟨base, S, R⟩ := h.at_
  have h1 := R.ok.len
  have h2 := R.ok.r2
  have h3 := R.ok.wd
  have hm := words_in h2 h3
  have hm0 : 0 ≤ (room : Int) * (width : Int) := Int.mul_nonneg (by omega) (by omega)
  have hwr : IntKind.i64.wrap ((room : Int) * (width : Int)) = (room : Int) * (width : Int) := by
    generalize (room : Int) * (width : Int) = p at *
    exact IntWalk.i64_in _ (by omega)
  rw [hn] at h1
  have HH := hide h
  have HR := hide R
  have HN := hide hn
  have HRD := hide hr
  have box := below1 w (.cells #[.int .i64 (room : Int), .int .i64 (width : Int), .slice ad n cap] 38)
  have CL := fun q => rlen_any ((R.below box).drewN q)
  rw [hn] at CL
  have CM := fun q => rroom_any ((R.below box).drewN q)
  have CW := fun q => rwidth_any ((R.below box).drewN q)
  have CO := fun q => rwords_any ((R.below box).drewN q)
  have CF := fun q => rfirst_any ((R.below box).drewN q)
  have HBX := hide box
  have qg : decide ((room : Int) < (n : Int)) = false := decide_eq_false (by omega)
  clear h R hr hm hm0 box
  by_cases hn0 : n = 0
  · subst hn0
    obtain rfl : L = [] := List.eq_nil_of_length_eq_zero hn
    have CF : ∀ q, Calls Try.prog 12 #[.pointer (some ⟨r, 0, none⟩)] _ fun e w' => e = .returned (.tuple #[.int .i64 0, .bool false]) ∧ _ = w' := CF
    clear hn
    go_enter Try.func21, Try.ntmps21
    go_wp2_with fail
    go_quiet ((first
      | (go_at_call 13; with_reducible exact calmE (CL _))
      | (go_at_call 23; with_reducible exact calmE (CM _))
      | (go_at_call 24; with_reducible exact calmE (CW _))
      | (go_at_call 25; with_reducible exact calmD (CO _))))
    go_wp2_with (go_at_call 12; (with_reducible refine (CF _).mono ?_); rintro e w4 ⟨rfl, rfl⟩)
    refine wp_loop_rounds 1 ?_
    rw [rounds_succ]
    go_wp2
    go_ret
    exact ⟨rfl, bdN HBX.out _⟩
  · have hp : 0 < L.length := by omega
    obtain ⟨f1, f2⟩ := first_at hp
    rw [f2] at CF
    obtain ⟨g, u, rfl, c0, _⟩ := HRD.out.get hp
    rw [← f1, Nat.zero_mul] at c0
    have d0 := ca (ob := .cells #[.int .i64 (room : Int), .int .i64 (width : Int), .slice (some ⟨g, 0, none⟩) n cap] 38) (cell_ltL c0) c0
    have hnp : 0 < n := by omega
    generalize firstJ L = f at *
    clear hn hp f1 f2 c0 hn0
    go_enter Try.func21, Try.ntmps21
    go_wp2_with fail
    go_quiet ((first
      | (go_at_call 13; with_reducible exact calmE (CL _))
      | (go_at_call 23; with_reducible exact calmE (CM _))
      | (go_at_call 24; with_reducible exact calmE (CW _))
      | (go_at_call 25; with_reducible exact calmD (CO _))))
    go_wp2_with (go_at_call 12; (with_reducible refine (CF _).mono ?_); rintro e w4 ⟨rfl, rfl⟩)
    go_loopw [82] (fun vk wr => ∃ k : Nat, k ≤ n ∧ vk = .int .i64 (k : Int) ∧ Below w.heap.size w wr) (fun vk _ => n - (intOf vk).toNat)
    case atStart => exact ⟨0, by omega, rfl, bdN HBX.out _⟩
    case round =>
      obtain ⟨k, hk, rfl, hb⟩ := hrel
      have HB := hide hb
      clear hb
      by_cases hlt : k < n
      · obtain ⟨g', u', he, c0, c1, hu⟩ := (HRD.out.below HB.out).get (k := k) (by rw [HN.out]; exact hlt)
        simp only [Option.some.injEq, Addr.mk.injEq, and_true] at he
        subst he
        obtain ⟨ad2, cap2, rfl, hrow⟩ := hu
        have hmem := lnAt_mem (L := L) (j := k) (by rw [HN.out]; exact hlt)
        obtain ⟨e1, e2⟩ := row_of HR.out.ok.rising hmem
        obtain ⟨rw1, rw2, rw3⟩ := HR.out.ok.rows _ hmem
        have RB := HR.out.below HB.out
        have xb := fun (o : Obj) => below1 wr o
        have CR := fun (o : Obj) => rrow_any (j := (lnAt L k).1) rw2 rw3 (RB.below (xb o))
        have CH := fun (W : World) (b : Below wr.heap.size wr W) => rhas_any (j := (lnAt L k).1) rw2 rw3 (RB.below b)
        rw [e1, e2] at CR
        rw [e1] at CH
        have HROW := hide hrow
        have HRW := hide rw1
        generalize hys : (lnAt L k).2 = ys at *
        generalize hz : (lnAt L k).1 = z at *
        obtain ⟨m, hml⟩ : ∃ m, ys.length = m := ⟨_, rfl⟩
        rw [hml] at c1
        have HML := hide hml
        have hm5 : m ≤ 262144 := by omega
        clear hmem e1 e2 rw1 RB xb hys hz hrow hml
        go_wp2_with (first
          | (go_at_call 14; (with_reducible refine (CR _).mono ?_); rintro e w6 ⟨v6, rfl, o6, b6⟩; have HB6 := hide (bt (below1 wr _) b6); have z0 := cb b6 (by simp) (show (wr.alloc (.cells #[.int .i64 z, .slice ad2 m cap2] 61)).cell? ⟨wr.heap.size, 0, none⟩ = some (.int .i64 z) by simp); have z1 := cb b6 (by simp) (show (wr.alloc (.cells #[.int .i64 z, .slice ad2 m cap2] 61)).cell? ⟨wr.heap.size, 1, none⟩ = some (.slice ad2 m cap2) by simp); obtain ⟨ad6, cap6, rfl, r6, _⟩ := o6.formn HML.out; have HR6 := hide r6; clear o6 b6 r6)
          | (go_at_call 26; (with_reducible refine (CH _ HB6.out).mono ?_); rintro e w7 ⟨rfl, rfl⟩)
          | (go_at_call 16; (with_reducible refine (same_n m ys HML.out _ _ _ _ _ HR6.out (HROW.out.below HB6.out) (by omega)).mono ?_); rintro e w8 ⟨rfl, b8⟩; have HB8 := hide (bt HB6.out b8); clear b8))
        go_roundw
        case rel => exact ⟨k + 1, by omega, by go_num, bt HB.out HB8.out⟩
        case measure => simp [intOf]; omega
      · obtain rfl : k = n := by omega
        go_wp2
        go_ret
        exact ⟨rfl, HB.out⟩
end Go.Proofs.Ytkkoemcciemloaa
