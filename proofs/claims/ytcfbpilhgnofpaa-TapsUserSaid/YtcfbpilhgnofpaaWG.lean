/- The library's long quotient (math/bits.Div64): exact, by two digits of 32 bits. -/
import Derived.Test.YtcfbpilhgnofpaaWB
import Derived.Test.YtcfbpilhgnofpaaWL
import Derived.Shelf.Small.Bits
import Derived.Deep.DeepCutAuto
import Derived.Deep.CutBlock
namespace Go.Proofs.Ytcfbpilhgnofpaa
open Go.RowKit


/-! ### The library's count of leading zeros, by the shelf's contract, laid here -/
def lays134r : Go.Shelf.Ren := ⟨fun | 129 => 87 | 134 => 88 | n => n, fun | 3 => 3 | 4 => 4 | 5 => 5 | 9 => 9 | 46 => 33 | 53 => 51 | n => n, fun | n => n⟩
theorem lays134 : Go.Proofs.Lays.n134 Try.prog lays134r := {
  mixed := by kernel_rfl
  f129 := Try.func87.trans (congrArg some (by kernel_rfl))
  f134 := Try.func88.trans (congrArg some (by kernel_rfl))
  t3 := Try.underlying3
  a3 := Try.isAgg3
  z3 := Try.sizeOf3
  v3 := Try.zeroValue3
  t4 := Try.underlying4
  a4 := Try.isAgg4
  z4 := Try.sizeOf4
  v4 := Try.zeroValue4
  t5 := Try.underlying5
  a5 := Try.isAgg5
  z5 := Try.sizeOf5
  v5 := Try.zeroValue5
  t9 := Try.underlying9
  a9 := Try.isAgg9
  z9 := Try.sizeOf9
  v9 := Try.zeroValue9
  t46 := Try.underlying33
  a46 := Try.isAgg33
  z46 := Try.sizeOf33
  v46 := Try.zeroValue33
  t53 := Try.underlying51
  a53 := Try.isAgg51
  z53 := Try.sizeOf51
  v53 := Try.zeroValue51 }
theorem zeros_any (x : Int) (s : Nat) (hs : 64 - (Lib.bitLen x.toNat : Int) = s) (h0 : 0 ≤ x) (h1 : x ≤ 18446744073709551615) (w : World) :
    Calls Try.prog 88 #[.int .u64 x] w fun e w' => e = .returned (.int .i64 s) ∧ w = w' := by
  rw [← hs]
  exact (Any.bits_LeadingZeros64 lays134 x w h0 h1).mono fun _ _ ⟨he, hw⟩ => ⟨he, hw.symm⟩
set_option maxRecDepth 100000 in
set_option maxHeartbeats 4000000 in
theorem div64_full (h l d : Int) (h0 : 0 < h) (hd : h < d) (l0 : 0 ≤ l) (l1 : l < 18446744073709551616) (d1 : d ≤ 18446744073709551615) : Div64At h l d := by
  intro w
  have e1 : (d == 0) = false := beq_eq_false_iff_ne.2 (by omega)
  have e2 : decide (d ≤ h) = false := decide_eq_false (by omega)
  have e3 : (h == 0) = false := beq_eq_false_iff_ne.2 (by omega)
  obtain ⟨s, hs, s1, n0, n1⟩ := norm_any d (by omega) d1
  have CZ := zeros_any d s hs (by omega) (by omega)
  obtain ⟨Y, a, c, U, t, v, v0, eY, ea, ec, eU, et, ev, ev0, C, ys, y1, u1, t0, w0, w1, fin⟩ := parts_any (s := s) (Int.le_of_lt h0) hd l0 l1 s1 n0 n1
  have FIN := hide fin
  have CC := hide C
  have YS := hide ys
  obtain ⟨D0, DR⟩ := Dig.first C
  obtain ⟨a0, a1, c0, c1, u0, u2, x0, x1⟩ := C
  have ane : a ≠ 0 := by omega
  clear hs fin ys n0 n1 u2
  go_enter Try.func74, Try.ntmps74
  go_upto_region 16 with (go_at_call 88; (with_reducible refine (CZ _).mono ?_); rintro e w' ⟨rfl, rfl⟩)
  have er : U - U / a * a = U % a := by have := D0.e; omega
  have pa0 : 0 ≤ U / a * a := Int.mul_nonneg (Int.ediv_nonneg u0 (by omega)) (by omega)
  have pa1 : U / a * a ≤ U := by have := D0.r0; omega
  generalize U % a = r at *
  generalize U / a = q at *
  have D0 := hide D0
  go_upto_block 0 with fail
  clear eY ea ec eU et ev ev0 er pa0 pa1
  go_cut [15] (fun sq wx => sq = .int .u64 (digQ a c U v) ∧ w = wx)
  case first =>
    go_wp2_with fail
    go_loop [15, 16] (fun q r => ∃ q' r' : Int, q = .int .u64 q' ∧ r = .int .u64 r' ∧ Dig a c U v q' r' ∧ r' < 4294967296) (fun q _ => (intOf q).toNat)
    case atStart => exact ⟨q, r, rfl, rfl, D0.out, DR⟩
    case round =>
      obtain ⟨q', r', rfl, rfl, hD, hr⟩ := hrel
      have HD := hide hD
      have q0 : 0 ≤ q' := by have := (dig_in CC.out).1; have := hD.lo; omega
      have q1 := hD.hi
      have r0 := hD.r0
      have pr := hD.prod CC.out
      have gt1 : 4294967296 ≤ q' → digQ a c U v < q' := fun h => by have := (dig_in CC.out).2.1; omega
      have gt2 := hD.above CC.out
      have st := hD.stop CC.out
      have be := hD.below CC.out
      clear hD
      by_cases hA : 4294967296 ≤ q'
      · have GT := hide (gt1 hA)
        have p1 : 1 ≤ q' := by have := (dig_in CC.out).1; have := GT.out; omega
        by_cases hB : 4294967296 ≤ r' + a
        · have E := hide (st GT.out hB)
          clear gt1 gt2 st be pr
          go_wp2_with fail
          go_meet
          exact ⟨by rw [E.out], rfl⟩
        · clear gt1 gt2 st be pr
          go_wp2_with fail
          go_round
          case rel => exact ⟨q' - 1, r' + a, rfl, rfl, HD.out.next CC.out GT.out, by omega⟩
          case measure => simp [intOf]; have := (dig_in CC.out).1; have := GT.out; omega
      · obtain ⟨m0, m1⟩ := pr (by omega)
        by_cases hC : 4294967296 * r' + v < q' * c
        · have dC : decide (4294967296 * r' + v < q' * c) = true := decide_eq_true hC
          have GT := hide (gt2 hC)
          have p1 : 1 ≤ q' := by have := (dig_in CC.out).1; have := GT.out; omega
          by_cases hB : 4294967296 ≤ r' + a
          · have E := hide (st GT.out hB)
            clear gt1 gt2 st be pr
            go_wp2_with fail
            go_meet
            exact ⟨by rw [E.out], rfl⟩
          · clear gt1 gt2 st be pr
            go_wp2_with fail
            go_round
            case rel => exact ⟨q' - 1, r' + a, rfl, rfl, HD.out.next CC.out GT.out, by omega⟩
            case measure => simp [intOf]; have := (dig_in CC.out).1; have := GT.out; omega
        · have dC : decide (4294967296 * r' + v < q' * c) = false := decide_eq_false hC
          have E := hide (be (by omega))
          clear gt1 gt2 st be hC
          go_wp2_with fail
          go_meet
          exact ⟨by rw [E.out], rfl⟩
  case rest =>
    obtain ⟨rfl, rfl⟩ := hcut
    clear D0 DR
    have DI := dig_in CC.out
    have DE := dig_eq a c U v
    rw [← YS.out] at DI DE
    generalize digQ a c U v = q1 at *
    generalize digR a c U v = R1 at *
    obtain ⟨q1a, q1b, R1a, R1b⟩ := DI
    have e21 : IntKind.u64.wrap (IntKind.u64.wrap (IntKind.u64.wrap (U * 4294967296) + v) - IntKind.u64.wrap (q1 * Y)) = R1 := by
      rw [Int.mul_comm q1 Y]; simp only [IntKind.wrap_u64]; omega
    have DE1 := hide DE
    have C2 := hide (show DigC a c R1 v0 from ⟨a0, a1, c0, c1, R1a, by have := YS.out; omega, w0, w1⟩)
    obtain ⟨D2, DS⟩ := Dig.first C2.out
    have er : R1 - R1 / a * a = R1 % a := by have := D2.e; omega
    have pa0 : 0 ≤ R1 / a * a := Int.mul_nonneg (Int.ediv_nonneg R1a (by omega)) (by omega)
    have pa1 : R1 / a * a ≤ R1 := by have := D2.r0; omega
    have D2 := hide D2
    clear DE CC
    go_upto_block 2 with fail
    clear er pa0 pa1 e21
    generalize R1 % a = rr at *
    generalize R1 / a = qq at *
    go_cut [18] (fun sq wx => sq = .int .u64 (digQ a c R1 v0) ∧ w = wx)
    case first =>
      go_wp2_with fail
      go_loop [18, 16] (fun q r => ∃ q' r' : Int, q = .int .u64 q' ∧ r = .int .u64 r' ∧ Dig a c R1 v0 q' r' ∧ r' < 4294967296) (fun q _ => (intOf q).toNat)
      case atStart => exact ⟨qq, rr, rfl, rfl, D2.out, DS⟩
      case round =>
        obtain ⟨q', r', rfl, rfl, hD, hr⟩ := hrel
        have HD := hide hD
        have q0 : 0 ≤ q' := by have := (dig_in C2.out).1; have := hD.lo; omega
        have q1 := hD.hi
        have r0 := hD.r0
        have pr := hD.prod C2.out
        have gt1 : 4294967296 ≤ q' → digQ a c R1 v0 < q' := fun h => by have := (dig_in C2.out).2.1; omega
        have gt2 := hD.above C2.out
        have st := hD.stop C2.out
        have be := hD.below C2.out
        clear hD
        by_cases hA : 4294967296 ≤ q'
        · have GT := hide (gt1 hA)
          have p1 : 1 ≤ q' := by have := (dig_in C2.out).1; have := GT.out; omega
          by_cases hB : 4294967296 ≤ r' + a
          · have E := hide (st GT.out hB)
            clear gt1 gt2 st be pr
            go_wp2_with fail
            go_meet
            exact ⟨by rw [E.out], rfl⟩
          · clear gt1 gt2 st be pr
            go_wp2_with fail
            go_round
            case rel => exact ⟨q' - 1, r' + a, rfl, rfl, HD.out.next C2.out GT.out, by omega⟩
            case measure => simp [intOf]; have := (dig_in C2.out).1; have := GT.out; omega
        · obtain ⟨m0, m1⟩ := pr (by omega)
          by_cases hC : 4294967296 * r' + v0 < q' * c
          · have dC : decide (4294967296 * r' + v0 < q' * c) = true := decide_eq_true hC
            have GT := hide (gt2 hC)
            have p1 : 1 ≤ q' := by have := (dig_in C2.out).1; have := GT.out; omega
            by_cases hB : 4294967296 ≤ r' + a
            · have E := hide (st GT.out hB)
              clear gt1 gt2 st be pr
              go_wp2_with fail
              go_meet
              exact ⟨by rw [E.out], rfl⟩
            · clear gt1 gt2 st be pr
              go_wp2_with fail
              go_round
              case rel => exact ⟨q' - 1, r' + a, rfl, rfl, HD.out.next C2.out GT.out, by omega⟩
              case measure => simp [intOf]; have := (dig_in C2.out).1; have := GT.out; omega
          · have dC : decide (4294967296 * r' + v0 < q' * c) = false := decide_eq_false hC
            have E := hide (be (by omega))
            clear gt1 gt2 st be hC
            go_wp2_with fail
            go_meet
            exact ⟨by rw [E.out], rfl⟩
    case rest =>
      obtain ⟨rfl, rfl⟩ := hcut
      clear D2 DS
      have DJ := dig_in C2.out
      have DF := dig_eq a c R1 v0
      rw [← YS.out] at DJ DF
      generalize digQ a c R1 v0 = q2 at *
      generalize digR a c R1 v0 = R0 at *
      obtain ⟨q2a, q2b, R0a, R0b⟩ := DJ
      have e28 : IntKind.u64.wrap (IntKind.u64.wrap (IntKind.u64.wrap (R1 * 4294967296) + v0) - IntKind.u64.wrap (q2 * Y)) = R0 := by
        rw [Int.mul_comm q2 Y]; simp only [IntKind.wrap_u64]; omega
      obtain ⟨f1, f2⟩ := FIN.out q1 q2 R1 R0 DE1.out DF R0a R0b
      have F1 := hide f1
      have F2 := hide f2
      clear f1 f2 DF
      go_wp2
      go_ret2
      rw [F1.out, F2.out]
      exact ⟨rfl, Below.refl _ _⟩
end Go.Proofs.Ytcfbpilhgnofpaa
