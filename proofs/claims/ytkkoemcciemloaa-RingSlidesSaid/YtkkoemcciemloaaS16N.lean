/- A row is put. -/
import Derived.Test.YtkkoemcciemloaaS16M
import Derived.BigQuiet
namespace Go.Proofs.Ytkkoemcciemloaa
open Go.RowKit
open Go.Maps (Keyed)
open Go.MapKept Go.ChangeMaps


theorem calmE {P : Program} {f : FuncId} {args : Array Value} {u : Value} {w : World} {n : Nat} (h : Calls P f args (w.drewN n) fun e w' => e = .returned u ∧ w.drewN n = w') :
    Calls P f args (w.drewN n) fun e w'' => e = .returned u ∧ ∃ m, w'' = w.drewN m := h.mono fun _ _ q => ⟨q.1, n, q.2.symm⟩
theorem OwnI.fresh {k : IntKind} {T : TypeId} {w : World} {base : Nat} {v : Value} {xs : List Int} (h : OwnI k T w base v xs) : ∀ g, v.ownBlock = some g → base ≤ g := own_fresh h
/-- What a Put leaves. -/
def PutEnd (w : World) (base r : Nat) (S : Nat → Prop) (room width : Nat) (L : List (Int × List Int)) (w' : World) : Prop := ∃ S', RingAt w' base r S' room width L ∧ Off S w w' ∧ ∀ k, S' k → S k ∨ w.heap.size ≤ k
theorem PutEnd.same {w : World} {base r : Nat} {S : Nat → Prop} {room width : Nat} {L : List (Int × List Int)} (R : RingAt w base r S room width L) : PutEnd w base r S room width L w := ⟨S, R, Off.refl _ _, fun _ h => Or.inl h⟩
theorem PutEnd.drew {w : World} {base r : Nat} {S : Nat → Prop} {room width : Nat} {L : List (Int × List Int)} (R : RingAt w base r S room width L) (n : Nat) : PutEnd w base r S room width L (w.drewN n) := ⟨S, R.drewN n, (Off.refl _ w).drewN n, fun _ h => Or.inl h⟩
set_option maxHeartbeats 4000000 in
theorem rput_any {w : World} {base r : Nat} {S : Nat → Prop} {room width : Nat} {L : List (Int × List Int)} {j : Int} {xs : List Int} {n cap : Nat} {ad : Option Addr} (j1 : -9223372036854775808 ≤ j) (j2 : j ≤ 9223372036854775807) (R : RingAt w base r S room width L) (hn : xs.length = n) (hb : n ≤ 9223372036854775807) (hr : RowAt .i64 w ad xs) (hz : ad = none → cap = 0) (hS : ∀ a, ad = some a → ¬ S a.block) :
    Calls Try.prog 10 #[.pointer (some ⟨r, 0, none⟩), .int .i64 j, .slice ad n cap] w fun e w' => e = .returned (.bool (putB room width L j n)) ∧ PutEnd w base r S room width (if putB room width L j n = true then putR room L (j, xs) else L) w' := by
  have c0 := R.c0
  have c1 := R.c1
  have CH := rhas_any j1 j2 R
  have hw := R.ok.wd
  have hrm := R.ok.r2
  have hlen := R.ok.len
  have HR := hide R
  have HRO := hide hr
  have HNL := hide hn
  have hz0 : ad = none → n = 0 ∧ cap = 0 := fun e => by
    refine ⟨?_, hz e⟩
    rcases hr with h | ⟨b, off, h, _⟩
    · rw [h] at hn
      exact hn.symm
    · rw [e] at h
      exact absurd h (by simp)
  have HZ := hide hz0
  have HS := hide hS
  have HJ := hide (And.intro j1 j2)
  obtain ⟨B, hB⟩ : ∃ B, putB room width L j n = B := ⟨_, rfl⟩
  rw [hB]
  have HB := hide hB
  unfold putB at hB
  clear R hr hz hz0 hS j1 j2 hn
  by_cases hnw : n = width
  · subst hnw
    have qn : ((n : Int) != (n : Int)) = false := by simp
    cases hj : hasJ L j
    · rw [hj] at CH
      by_cases hroom : L.length < room
      · obtain rfl : B = true := by
          rw [← hB, hj, decide_eq_true rfl, decide_eq_false (show ¬ L.length = room by omega)]; rfl
        have ql : decide ((L.length : Int) < (room : Int)) = true := decide_eq_true (by omega)
        have HJN := hide hj
        have HL := hide hroom
        have CL := fun q => rlen_any (HR.out.drewN q)
        have CC := fun q => clone64 xs n HNL.out ad cap (by omega) HZ.out (w.drewN q) (HRO.out.below (bdN (Below.refl _ _) q))
        have e0 : (if (true : Bool) = true then putR room L (j, xs) else L) = insR (j, xs) L := by
          rw [if_pos rfl]; unfold putR; rw [if_neg (by omega)]
        rw [e0]
        clear hj hB e0
        go_enter Try.func10, Try.ntmps10
        go_wp2_with (go_at_call 26; (with_reducible refine CH.mono ?_); rintro e w1 ⟨rfl, rfl⟩)
        go_quiet ((go_at_call 13; with_reducible exact calmE (CL _)))
        go_wp2_with (first
          | (go_at_call 28; (with_reducible refine (CC _).mono ?_); rintro e w2 ⟨u, rfl, o2, b2⟩; have HO2 := hide o2; have HB2 := hide b2; clear o2 b2)
          | (go_at_call 27; (with_reducible refine (rhold_any HJ.out.1 HJ.out.2 ((HR.out.drewN nq).below HB2.out) HL.out HJN.out HNL.out (HO2.out.mono (by have := HR.out.lo r HR.out.sr; have := HR.out.hi r HR.out.sr; simp; omega)) (fun g hg e => by have := HO2.out.fresh g hg; have := HR.out.hi g e; simp at *; omega)).mono ?_); rintro e w3 ⟨rfl, S', R3, o3, s3⟩; have HF := hide (And.intro R3 (And.intro o3 s3)); clear R3 o3 s3))
        go_ret
        obtain ⟨R3, o3, s3⟩ := HF.out
        have o2 : Off S w w2 := ((Off.refl S w).drewN nq).trans (Off.of_below (S := S) HB2.out) (fun _ _ e => e)
        refine ⟨rfl, S', R3, o2.trans o3 (fun _ _ e => e), fun k hk => ?_⟩
        have s2 := HB2.out.size
        rcases s3 k hk with q | q | q
        · exact Or.inl q
        · exact Or.inr (HO2.out.fresh k q)
        · exact Or.inr (Nat.le_trans s2 q)
      · have hfull : L.length = room := by omega
        have ql : decide ((L.length : Int) < (room : Int)) = false := decide_eq_false (by omega)
        have hr1 := HR.out.ok.r1
        cases L with
        | nil => simp at hfull; omega
        | cons y L =>
          obtain ⟨m, v, h, D, V, M⟩ := HR.out.mem
          have hl : h.length = L.length + 1 := by rw [M.perm.length_eq, List.length_map, List.length_cons]
          obtain ⟨b, cp, rfl, _, _, hrow, _⟩ := own_row M.nums hl (by omega)
          have hf : h.getD 0 0 = y.1 := heap_first M.perm M.heap HR.out.ok.rising (by simp)
          have cf := hrow.at (j := 0) (by omega)
          rw [hf, Nat.zero_add] at cf
          have c3 := M.c3
          have CL := fun q => rlen_any (HR.out.drewN q)
          have hy := HR.out.ok.rows y (List.mem_cons_self ..)
          clear M hf hrow hl
          have hfl : L.length + 1 = room := by simpa using hfull
          have qfl : decide ((L.length : Int) + 1 < (room : Int)) = false := decide_eq_false (by omega)
          by_cases hlow : j < y.1
          · obtain rfl : B = false := by
              rw [← hB, hj, decide_eq_true rfl, decide_eq_true hfull]
              show (true && !false && !(true && decide (j < y.1))) = false
              rw [decide_eq_true hlow]; rfl
            clear hj hB hfull hfl
            go_enter Try.func10, Try.ntmps10
            go_wp2_with (go_at_call 26; (with_reducible refine CH.mono ?_); rintro e w1 ⟨rfl, rfl⟩)
            go_quiet ((go_at_call 13; with_reducible exact calmE (CL _)))
            go_wp2
            go_ret
            exact ⟨rfl, PutEnd.drew HR.out nq⟩
          · obtain rfl : B = true := by
              rw [← hB, hj, decide_eq_true rfl, decide_eq_true hfull]
              show (true && !false && !(true && decide (j < y.1))) = true
              rw [decide_eq_false hlow]; rfl
            have e0 : (if (true : Bool) = true then putR room (y :: L) (j, xs) else (y :: L)) = insR (j, xs) L := by
              rw [if_pos rfl]; unfold putR; rw [if_pos hfull]; rfl
            rw [e0]
            have HT := hide (show hasJ L j = false by rw [hasJ_tail_at HR.out.ok.rising, hj]; rfl)
            have HLL := hide (show L.length < room by rw [List.length_cons] at hfull; omega)
            have CD := fun q => rdrop_any (HR.out.drewN q)
            have HY := hide hy.1
            have hju := Try.underlying26
            clear hj hB e0 hfull hfl
            go_enter Try.func10, Try.ntmps10
            go_wp2_with (go_at_call 26; (with_reducible refine CH.mono ?_); rintro e w1 ⟨rfl, rfl⟩)
            go_quiet ((go_at_call 13; with_reducible exact calmE (CL _)))
            go_wp2_with (first
              | (go_at_call 29; (with_reducible refine (CD _).mono ?_); rintro e w2 ⟨u, S2, rfl, R2, o2, u2, f2, s2⟩; have HR2 := hide R2; have HF2 := hide (And.intro u2 (And.intro f2 s2)); obtain ⟨w3, crun, o3, g3⟩ := run_copy_all 26 26 3 2 hju infoSz64 .i64 2 base u n y.2 xs o2 HY.out ad cap HNL.out (Off.row (((Off.refl S w).drewN nq).trans f2 (fun _ _ e => e)) HRO.out HS.out); have HO3 := hide o3; have HG3 := hide g3; clear R2 o2 u2 f2 s2 o3 g3)
              | (go_at_call 27; (with_reducible refine (rhold_any HJ.out.1 HJ.out.2 (HR2.out.off (Off.of_grownO HG3.out) (fun k hk e => absurd hk (HF2.out.1 k e.symm).2)) HLL.out HT.out HNL.out HO3.out (fun g hg => (HF2.out.1 g hg).2)).mono ?_); rintro e w4 ⟨rfl, S', R4, o4, s4⟩; have HF := hide (And.intro R4 (And.intro o4 s4)); clear R4 o4 s4))
            go_ret
            obtain ⟨R4, o4, s4⟩ := HF.out
            obtain ⟨u2, f2, s2⟩ := HF2.out
            have z2 : w.heap.size ≤ w2.heap.size := f2.size
            have z3 := HG3.out.size
            refine ⟨rfl, S', R4, ((((Off.refl S w).drewN nq).trans f2 (fun _ _ e => e)).trans (Off.of_grownO HG3.out) (fun k _ e => (u2 k e.symm).1)).trans o4 (fun k _ e => s2 k e), fun k hk => ?_⟩
            rcases s4 k hk with q | q | q
            · exact Or.inl (s2 k q)
            · exact Or.inl (u2 k q).1
            · exact Or.inr (by omega)
    · rw [hj] at CH
      obtain rfl : B = false := by rw [← hB, hj]; simp
      clear hj hB
      go_enter Try.func10, Try.ntmps10
      go_wp2_with (go_at_call 26; (with_reducible refine CH.mono ?_); rintro e w1 ⟨rfl, rfl⟩)
      go_ret
      exact ⟨rfl, PutEnd.same HR.out⟩
  · obtain rfl : B = false := by rw [← hB, decide_eq_false hnw]; rfl
    have qn : ((n : Int) != (width : Int)) = true := by simp; omega
    clear hB
    go_enter Try.func10, Try.ntmps10
    go_wp2
    go_ret
    exact ⟨rfl, PutEnd.same HR.out⟩
end Go.Proofs.Ytkkoemcciemloaa
