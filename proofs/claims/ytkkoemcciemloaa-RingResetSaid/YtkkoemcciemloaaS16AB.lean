/- The statement on plays. -/
import Derived.Test.YtkkoemcciemloaaS16AA
import Derived.Deep.CutBlock
import Derived.Deep.CutRange
namespace Go.Proofs.Ytkkoemcciemloaa
open Go.RowKit
open Go.Maps (Keyed)
open Go.MapKept Go.ChangeMaps


theorem play_start {w w3 : World} {r room width : Nat} {T : TypeId} (h : LawR w w3 r room width []) : PlayS w (w3.alloc (.cells #[.int .i64 (room : Int), .int .i64 (width : Int), .slice none 0 0] T)) w3.heap.size none undef r room width [] (.slice none 0 0) := by
  obtain ⟨base, S, h1, h2, h3⟩ := h
  refine ⟨base, S, h1, h2.below (below1 _ _), DocAt.nil _ _, ?_, fun e => ?_, h3.size, ba h3 _, fun a ha => by cases ha⟩
  · refine ⟨?_, ?_, ?_, ?_, ?_, ?_⟩ <;> simp
  · have := h2.hi _ e
    omega
set_option maxHeartbeats 16000000 in
set_option maxRecDepth 100000 in
theorem law_RingPlays (a b : Int) (D : List (Int × Int × Int × Int)) (dd : Option Addr) (dcap : Nat) (w : World) (ha : -9223372036854775808 ≤ a ∧ a ≤ 9223372036854775807) (hb : -9223372036854775808 ≤ b ∧ b ≤ 9223372036854775807) (hd : ActsAt16 w dd D) (hdl : D.length ≤ maxLen) (_ : dd = none → dcap = 0) :
    Calls Try.prog 4 #[.int .i64 a, .int .i64 b, .slice dd D.length dcap] w fun e w' => e = .returned (.bool true) ∧ Below w.heap.size w w' := by
  obtain ⟨a1, a2⟩ := ha
  obtain ⟨b1, b2⟩ := hb
  obtain ⟨n, hn⟩ : ∃ n, D.length = n := ⟨_, rfl⟩
  have hml : n ≤ 9223372036854775807 := by unfold maxLen at hdl; omega
  have CL := fun (W : World) => lives16_any W
  have HD := hide hd
  have HN := hide hn
  rw [hn]
  clear hd hn hdl
  by_cases hq : n ≤ 50 ∧ a ≤ 20 ∧ b ≤ 20
  · obtain ⟨hn50, ha20, hb20⟩ := hq
    have CN := fun (w1 : World) (hb : Below w.heap.size w w1) => law_new hb a b a1 a2 b1 b2
    have CD := fun (w1 : World) => dnew16_any a b w1
    have wb := widthF_in b
    have HWB := hide (show widthF b ≤ 20 by unfold widthF; (repeat split) <;> omega)
    obtain ⟨room, hroom⟩ : ∃ room, (roomF a).toNat = room := ⟨_, rfl⟩
    obtain ⟨width, hwidth⟩ : ∃ width, (widthF b).toNat = width := ⟨_, rfl⟩
    have er : roomF a = (room : Int) := by rw [← hroom, toNat_room]
    have ew : widthF b = (width : Int) := by rw [← hwidth, toNat_width]
    rw [hroom, hwidth] at CN
    rw [er, ew] at CD
    have hw20 : width ≤ 20 := by have := HWB.out; omega
    clear HWB wb hroom hwidth er ew
    go_enter Try.func4, Try.ntmps4
    go_wp2_with (first
      | (go_at_call 8; (with_reducible refine (CL _).mono ?_); rintro e w1 ⟨rfl, b1⟩; have HB1 := hide b1; clear b1)
      | (go_at_call 9; (with_reducible refine (CN _ HB1.out).mono ?_); rintro e w2 ⟨r, rfl, l2⟩; have HL2 := hide l2; clear l2)
      | (go_at_call 17; (with_reducible refine (CD _).mono ?_); rintro e w3 ⟨rfl, b3⟩; have HL3 := hide (HL2.out.below b3); clear b3))
    clear CN CD CL
    go_loopw [49] (fun vk wr => ∃ (k : Nat) (L : List (Int × List Int)) (v : Value), k ≤ n ∧ vk = .int .i64 (k : Int) ∧ PlayS w wr w3.heap.size none undef r room width L v) (fun vk _ => n - (intOf vk).toNat)
    case atStart => exact ⟨0, [], _, by omega, rfl, play_start HL3.out⟩
    case round =>
      obtain ⟨k, L, v, hk, rfl, hP⟩ := hrel
      have HP := hide hP
      clear hP
      by_cases hlt : k < n
      · obtain ⟨ba', off, rfl, hin, hfit⟩ := (HD.out.below HP.out.bel).get (show k < D.length by rw [HN.out]; exact hlt)
        obtain ⟨kd, J, To, V, hact⟩ : ∃ x y z v, actD16 D k = (x, y, z, v) := ⟨_, _, _, _, rfl⟩
        rw [hact] at hin hfit
        obtain ⟨d0, d1, d2, d3⟩ := hin
        obtain ⟨⟨x0, x1⟩, ⟨y0, y1⟩, ⟨z0, z1⟩, v0, v1⟩ := hfit
        replace d0 : wr.cell? ⟨ba', off + k * 4, none⟩ = some (.int .u8 kd) := d0
        replace d1 : wr.cell? ⟨ba', off + k * 4 + 1, none⟩ = some (.int .i64 J) := d1
        replace d2 : wr.cell? ⟨ba', off + k * 4 + 2, none⟩ = some (.int .i64 To) := d2
        replace d3 : wr.cell? ⟨ba', off + k * 4 + 3, none⟩ = some (.int .i64 V) := d3
        replace x0 : 0 ≤ kd := x0
        replace x1 : kd ≤ 255 := x1
        replace y0 : -9223372036854775808 ≤ J := y0
        replace y1 : J ≤ 9223372036854775807 := y1
        replace z0 : -9223372036854775808 ≤ To := z0
        replace z1 : To ≤ 9223372036854775807 := z1
        replace v0 : -9223372036854775808 ≤ V := v0
        replace v1 : V ≤ 9223372036854775807 := v1
        obtain ⟨q, hq⟩ : ∃ q : Nat, kd % 7 = (q : Int) := ⟨(kd % 7).toNat, by omega⟩
        have hq7 : q ≤ 6 := by omega
        have tq : kd.tmod 7 = (q : Int) := by rw [Int.tmod_eq_emod_of_nonneg x0]; exact hq
        have HA := hide (HP.out.act (J' := .int .i64 J) (x := .int .u8 kd) (y := .int .i64 To) (z := .int .i64 V) (T := 41))
        have a0 : (wr.alloc (.cells #[.int .u8 kd, .int .i64 J, .int .i64 To, .int .i64 V] 41)).cell? ⟨wr.heap.size, 0, none⟩ = some (.int .u8 kd) := by simp
        have a1' : (wr.alloc (.cells #[.int .u8 kd, .int .i64 J, .int .i64 To, .int .i64 V] 41)).cell? ⟨wr.heap.size, 1, none⟩ = some (.int .i64 J) := by simp
        have a2' : (wr.alloc (.cells #[.int .u8 kd, .int .i64 J, .int .i64 To, .int .i64 V] 41)).cell? ⟨wr.heap.size, 2, none⟩ = some (.int .i64 To) := by simp
        have a3' : (wr.alloc (.cells #[.int .u8 kd, .int .i64 J, .int .i64 To, .int .i64 V] 41)).cell? ⟨wr.heap.size, 3, none⟩ = some (.int .i64 V) := by simp
        clear hact hq
        go_upto_block 2 with fail
        generalize hW : wr.alloc (.cells #[.int .u8 kd, .int .i64 J, .int .i64 To, .int .i64 V] 41) = W1 at *
        have HWW := hide (show wr.heap.size < W1.heap.size by rw [← hW]; simp)
        generalize hA : wr.heap.size = A at *
        clear hW hA HP d0 d1 d2 d3 a0
        go_cut [12, 13, 14, 15, 16, 17, 18, 19, 20, 21] from 56 to 145 (fun _ _ _ _ _ _ _ _ _ _ wx => ∃ (L' : List (Int × List Int)) (v' : Value), PlayS w wx w3.heap.size (some A) (.int .i64 J) r room width L' v')
        case first =>
          obtain ⟨adv, capv, rfl, hrd⟩ := HA.out.form
          obtain ⟨p0, p1, p2, p3, p4, p5⟩ := HA.out.cel
          have HRD := hide hrd
          clear hrd
          by_cases q5 : q < 5
          · by_cases q4 : q < 4
            · have q5' : (q : Int) < 5 := by omega
              have q4' : ((q : Int) == 4) = false := by rw [beq_eq_false_iff_ne]; omega
              have CR := row16_any width V (by omega) W1
              have SH := fun (xs : List Int) (u : Value) (w1 : World) (hx : xs.length = width) (hb : Below W1.heap.size W1 w1) (ho : OwnI .i64 2 w1 W1.heap.size u xs) => HA.out.unit hb ho hx
              have PBX := fun (ok : Bool) => (bne_self_eq_false ok)
              generalize hLL : L.length = ll at *
              go_wp2_with (first
                | (go_at_call 18; (with_reducible refine CR.mono ?_); rintro e w4 ⟨u, xs, rfl, hx, ho, hb4⟩; have G4 := hide (SH xs u w4 hx hb4 ho); obtain ⟨adu, capu, rfl⟩ := G4.out.row; obtain ⟨s0, s1, s2, s3, s4, s5⟩ := G4.out.cel; have sj := G4.out.cj; have CP := play_dput (j := J) G4.out (by omega); clear hx ho hb4)
                | (go_at_call 19; (with_reducible refine CP.mono ?_); rintro e w5 ⟨v', xs5, rfl, ⟨ad', l', c', rfl⟩, hb5, hx5, hr5, g5⟩; have G6 := hide (g5.below (below1 w5 (.cells #[.int .i64 (room : Int), .int .i64 (width : Int), .slice ad' l' c'] 38))); obtain ⟨m0, m1, m2, m3, m4, m5⟩ := G6.out.cel; have mj := G6.out.cj; have G7 := hide G6.out.store; have nj := G7.out.cj; have CQ := play_rput (j := J) y0 y1 G7.out (by omega) hx5 (G6.out.keep ((hr5.below hb5).below (below1 w5 (.cells #[.int .i64 (room : Int), .int .i64 (width : Int), .slice ad' l' c'] 38)))); clear hb5 hx5 hr5 g5)
                | (go_at_call 10; (with_reducible refine CQ.mono ?_); rintro e w8 ⟨rfl, g8⟩; have G8 := hide g8; clear g8))
              generalize (if putB room width L J width = true then putR room L (J, xs5) else L) = L8 at *
              go_loopw [87] (fun vi wi => ∃ i : Nat, i ≤ width ∧ vi = .int .i64 (i : Int) ∧ PlayG w wi w3.heap.size (some A) (.int .i64 J) r room width L8 L8 (.slice ad' l' c') (.slice ad' l' c') (.slice adu width capu) width) (fun vi _ => width - (intOf vi).toNat)
              case atStart => exact ⟨0, by omega, rfl, G8.out⟩
              case round =>
                obtain ⟨i, hi, rfl, hg⟩ := hrel
                have HG := hide hg
                clear hg
                by_cases hin : i < width
                · obtain ⟨g, capg, x, he, c, f, st⟩ := HG.out.cell hin
                  simp only [Value.slice.injEq] at he
                  obtain ⟨rfl, _, rfl⟩ := he
                  have ST := hide st
                  clear st
                  go_wp2
                  go_roundw
                  case rel => exact ⟨i + 1, by omega, by go_num, ST.out _⟩
                  case measure => simp [intOf]; omega
                · obtain rfl : i = width := by omega
                  go_wp2
                  go_meet
                  case rel => exact ⟨L8, _, HG.out.done⟩
            · obtain rfl : q = 4 := by omega
              obtain ⟨nn, hnn⟩ : ∃ nn, width + 1 = nn := ⟨_, rfl⟩
              have e1 : (width : Int) + 1 = (nn : Int) := by omega
              have hnn2 : nn ≤ 21 := by omega
              have CR := row16_any nn V (by omega) W1
              clear hnn
              have SH := fun (xs : List Int) (u : Value) (w1 : World) (hx : xs.length = nn) (hb : Below W1.heap.size W1 w1) (ho : OwnI .i64 2 w1 W1.heap.size u xs) => HA.out.unit hb ho hx
              have PBX := fun (ok : Bool) => (bne_self_eq_false ok)
              generalize hLL : L.length = ll at *
              go_wp2_with (first
                | (go_at_call 18; (with_reducible refine CR.mono ?_); rintro e w4 ⟨u, xs, rfl, hx, ho, hb4⟩; have G4 := hide (SH xs u w4 hx hb4 ho); obtain ⟨adu, capu, rfl⟩ := G4.out.row; obtain ⟨s0, s1, s2, s3, s4, s5⟩ := G4.out.cel; have sj := G4.out.cj; have CP := play_dput (j := J) G4.out (by omega); clear hx ho hb4)
                | (go_at_call 19; (with_reducible refine CP.mono ?_); rintro e w5 ⟨v', xs5, rfl, ⟨ad', l', c', rfl⟩, hb5, hx5, hr5, g5⟩; have G6 := hide (g5.below (below1 w5 (.cells #[.int .i64 (room : Int), .int .i64 (width : Int), .slice ad' l' c'] 38))); obtain ⟨m0, m1, m2, m3, m4, m5⟩ := G6.out.cel; have mj := G6.out.cj; have G7 := hide G6.out.store; have nj := G7.out.cj; have CQ := play_rput (j := J) y0 y1 G7.out (by omega) hx5 (G6.out.keep ((hr5.below hb5).below (below1 w5 (.cells #[.int .i64 (room : Int), .int .i64 (width : Int), .slice ad' l' c'] 38)))); clear hb5 hx5 hr5 g5)
                | (go_at_call 10; (with_reducible refine CQ.mono ?_); rintro e w8 ⟨rfl, g8⟩; have G8 := hide g8; clear g8))
              generalize (if putB room width L J nn = true then putR room L (J, xs5) else L) = L8 at *
              go_loopw [87] (fun vi wi => ∃ i : Nat, i ≤ nn ∧ vi = .int .i64 (i : Int) ∧ PlayG w wi w3.heap.size (some A) (.int .i64 J) r room width L8 L8 (.slice ad' l' c') (.slice ad' l' c') (.slice adu nn capu) nn) (fun vi _ => nn - (intOf vi).toNat)
              case atStart => exact ⟨0, by omega, rfl, G8.out⟩
              case round =>
                obtain ⟨i, hi, rfl, hg⟩ := hrel
                have HG := hide hg
                clear hg
                by_cases hin : i < nn
                · obtain ⟨g, capg, x, he, c, f, st⟩ := HG.out.cell hin
                  simp only [Value.slice.injEq] at he
                  obtain ⟨rfl, _, rfl⟩ := he
                  have ST := hide st
                  clear st
                  go_wp2
                  go_roundw
                  case rel => exact ⟨i + 1, by omega, by go_num, ST.out _⟩
                  case measure => simp [intOf]; omega
                · obtain rfl : i = nn := by omega
                  go_wp2
                  go_meet
                  case rel => exact ⟨L8, _, HG.out.done⟩
          · by_cases q6 : q = 5
            · subst q6
              have hLl : L.length ≤ 1048576 := by have := HA.out.ok.len; have := HA.out.ok.r2; omega
              have CX := fun (t : Int) (t1 : -9223372036854775808 ≤ t) (t2 : t ≤ 9223372036854775807) => law_next (a := J) (b := t) HA.out.law y0 y1 t1 t2
              have CY := fun (t : Int) (t1 : -9223372036854775808 ≤ t) (t2 : t ≤ 9223372036854775807) => dnext16_any (p := (room : Int)) (q := (width : Int)) (cap := capv) (a := J) (b := t) rfl hLl y0 y1 t1 t2 W1 HRD.out
              generalize L.length = ll at *
              by_cases t1 : J < 4611686018427387904
              · by_cases t2 : J + 30 < To
                · have CX := CX (J + 30) (by omega) (by omega)
                  have CY := CY (J + 30) (by omega) (by omega)
                  generalize (if nextJ L J (J + 30) < J + 30 then nextJ L J (J + 30) else 0) = nx at CX CY
                  generalize decide (nextJ L J (J + 30) < J + 30) = nb at CX CY
                  go_wp2_with (first
                    | (go_at_call 15; (with_reducible refine CX.mono ?_); rintro e w4 ⟨rfl, rfl⟩)
                    | (go_at_call 20; (with_reducible refine CY.mono ?_); rintro e w5 ⟨rfl, b5⟩; have HS5 := hide (HA.out.below b5); clear b5))
                  go_meet
                  case rel => exact ⟨L, _, HS5.out⟩
                · have CX := CX To z0 z1
                  have CY := CY To z0 z1
                  generalize (if nextJ L J To < To then nextJ L J To else 0) = nx at CX CY
                  generalize decide (nextJ L J To < To) = nb at CX CY
                  go_wp2_with (first
                    | (go_at_call 15; (with_reducible refine CX.mono ?_); rintro e w4 ⟨rfl, rfl⟩)
                    | (go_at_call 20; (with_reducible refine CY.mono ?_); rintro e w5 ⟨rfl, b5⟩; have HS5 := hide (HA.out.below b5); clear b5))
                  go_meet
                  case rel => exact ⟨L, _, HS5.out⟩
              · have CX := CX To z0 z1
                have CY := CY To z0 z1
                generalize (if nextJ L J To < To then nextJ L J To else 0) = nx at CX CY
                generalize decide (nextJ L J To < To) = nb at CX CY
                go_wp2_with (first
                  | (go_at_call 15; (with_reducible refine CX.mono ?_); rintro e w4 ⟨rfl, rfl⟩)
                  | (go_at_call 20; (with_reducible refine CY.mono ?_); rintro e w5 ⟨rfl, b5⟩; have HS5 := hide (HA.out.below b5); clear b5))
                go_meet
                case rel => exact ⟨L, _, HS5.out⟩
            · have q7 : q = 6 := by omega
              subst q7
              by_cases hv : V = 0
              · subst hv
                have CR := play_reset HA.out
                go_wp2_with (go_at_call 11; (with_reducible refine CR.mono ?_); rintro e w4 ⟨rfl, c4, s4⟩; have HS4 := hide s4; obtain ⟨r0, r1, r2, r3, r4, r5⟩ := c4; clear s4)
                go_meet
                case rel => exact ⟨[], _, HS4.out⟩
              · have hv' : (V == 0) = false := by rw [beq_eq_false_iff_ne]; exact hv
                go_wp2
                go_meet
                case rel => exact ⟨L, _, HA.out⟩
        case rest =>
          obtain ⟨L', v', hP'⟩ := hcut
          have HQ := hide hP'
          clear hP' HA
          obtain ⟨adv, capv, rfl, hrd⟩ := HQ.out.form
          obtain ⟨p0, p1, p2, p3, p4, p5⟩ := HQ.out.cel
          have pj := HQ.out.cj
          have HRD := hide hrd
          obtain ⟨ll, hLL⟩ : ∃ ll, L'.length = ll := ⟨_, rfl⟩
          rw [hLL] at HQ p2
          have CS := fun (W : World) (b : Below wc.heap.size wc W) => same16_any (cap := capv) (HQ.out.below b).law hLL (hrd.below b)
          obtain ⟨m, hm⟩ : ∃ m, (rowJ L' J).length = m := ⟨_, rfl⟩
          clear hrd a1' a2' a3'
          cases hh : hasJ L' J
          · have CR := fun (W : World) (b : Below wc.heap.size wc W) => law_row (j := J) (HQ.out.below b).law y0 y1
            rw [hh] at CR
            have CF := fun (W : World) (b : Below wc.heap.size wc W) => dfind16_any (p := (room : Int)) (q := (width : Int)) (j := J) (cap := capv) (ad := adv) hLL (by have := HQ.out.ok.len; have := HQ.out.ok.r2; omega) W (HRD.out.below b)
            have SH := fun (u : Value) (w5 w6 : World) (b5 : Below wc.heap.size wc w5) (b6 : Below w5.heap.size w5 w6) (ho : OwnI .i64 2 w6 w5.heap.size u (rowJ L' J)) => (HQ.out.below b5).unit b6 ho hm
            obtain rfl : m = 0 := by rw [← hm, find_none hh]; rfl
            have HLL := hide hLL
            have HH := hide hh
            clear hm hLL hh
            go_wp2_with (first
              | (go_at_call 21; (with_reducible refine (CS _ (Below.refl _ _)).mono ?_); rintro e w5 ⟨rfl, b5⟩; have HB5 := hide b5; have sj := (HQ.out.below b5).cj; clear b5)
              | (go_at_call 14; (with_reducible refine (CR _ HB5.out).mono ?_); rintro e w6 ⟨u, rfl, o6, b6⟩; have G6 := hide (SH u w5 w6 HB5.out b6 o6); obtain ⟨ad6, cap6, rfl⟩ := G6.out.row; obtain ⟨s0, s1, s2, s3, s4, s5⟩ := G6.out.cel; have tj := G6.out.cj; have HB6 := hide (bt HB5.out b6); clear o6 b6)
              | (go_at_call 22; (with_reducible refine (CF _ HB6.out).mono ?_); rintro e w7 ⟨i, rfl, hi, b7⟩; have hh := HH.out; have qi : i < 0 := (by rcases Int.lt_or_le i 0 with q | q; exact q; exact absurd (hi.1 q) (by rw [hh]; decide)); have G7 := hide (G6.out.below b7); clear hi hh b7))
            go_loopw [175] (fun vi wi => ∃ i : Nat, i ≤ 0 ∧ vi = .int .i64 (i : Int) ∧ PlayG w wi w3.heap.size (some A) (.int .i64 J) r room width L' L' (.slice adv ll capv) (.slice adv ll capv) (.slice ad6 0 cap6) 0) (fun vi _ => 0 - (intOf vi).toNat)
            case atStart => exact ⟨0, by omega, rfl, G7.out⟩
            case round =>
              obtain ⟨i2, hi2, rfl, hg⟩ := hrel
              have HG := hide hg
              clear hg
              by_cases hin : i2 < 0
              · exact absurd hin (Nat.not_lt_zero _)
              · obtain rfl : i2 = 0 := by omega
                obtain ⟨z0', z1', z2', z3', z4', z5'⟩ := HG.out.cel
                obtain ⟨ad9, cap9, he9, hrd9⟩ := HG.out.done.form
                simp only [Value.slice.injEq] at he9
                obtain ⟨rfl, hq9, rfl⟩ := he9
                clear hq9
                have CT := same16_any (cap := capv) HG.out.done.law HLL.out hrd9
                go_wp2_with (go_at_call 21; (with_reducible refine CT.mono ?_); rintro e w9 ⟨rfl, b9⟩; have HS9 := hide ((HG.out.done.below b9).drop (J' := undef)); clear b9)
                go_roundw
                case rel => exact ⟨k + 1, L', _, by omega, by go_num, HS9.out⟩
                case measure => simp [intOf]; omega
          · have CR := fun (W : World) (b : Below wc.heap.size wc W) => law_row (j := J) (HQ.out.below b).law y0 y1
            rw [hh] at CR
            have CF := fun (W : World) (b : Below wc.heap.size wc W) => dfind16_any (p := (room : Int)) (q := (width : Int)) (j := J) (cap := capv) (ad := adv) hLL (by have := HQ.out.ok.len; have := HQ.out.ok.r2; omega) W (HRD.out.below b)
            have SH := fun (u : Value) (w5 w6 : World) (b5 : Below wc.heap.size wc w5) (b6 : Below w5.heap.size w5 w6) (ho : OwnI .i64 2 w6 w5.heap.size u (rowJ L' J)) => (HQ.out.below b5).unit b6 ho hm
            have hm20 : m ≤ 20 := by
              have h9 : (rowJ L' J).length = width := (HQ.out.ok.rows _ (rowJ_mem hh)).1
              omega
            have HLL := hide hLL
            have HH := hide hh
            clear hm hLL hh
            go_wp2_with (first
              | (go_at_call 21; (with_reducible refine (CS _ (Below.refl _ _)).mono ?_); rintro e w5 ⟨rfl, b5⟩; have HB5 := hide b5; have sj := (HQ.out.below b5).cj; clear b5)
              | (go_at_call 14; (with_reducible refine (CR _ HB5.out).mono ?_); rintro e w6 ⟨u, rfl, o6, b6⟩; have G6 := hide (SH u w5 w6 HB5.out b6 o6); obtain ⟨ad6, cap6, rfl⟩ := G6.out.row; obtain ⟨s0, s1, s2, s3, s4, s5⟩ := G6.out.cel; have tj := G6.out.cj; have HB6 := hide (bt HB5.out b6); clear o6 b6)
              | (go_at_call 22; (with_reducible refine (CF _ HB6.out).mono ?_); rintro e w7 ⟨i, rfl, hi, b7⟩; have hh := HH.out; have qi : 0 ≤ i := hi.2 hh; have G7 := hide (G6.out.below b7); clear hi hh b7))
            go_loopw [175] (fun vi wi => ∃ i : Nat, i ≤ m ∧ vi = .int .i64 (i : Int) ∧ PlayG w wi w3.heap.size (some A) (.int .i64 J) r room width L' L' (.slice adv ll capv) (.slice adv ll capv) (.slice ad6 m cap6) m) (fun vi _ => m - (intOf vi).toNat)
            case atStart => exact ⟨0, by omega, rfl, G7.out⟩
            case round =>
              obtain ⟨i2, hi2, rfl, hg⟩ := hrel
              have HG := hide hg
              clear hg
              by_cases hin : i2 < m
              · obtain ⟨g, capg, x, he, c, f, st⟩ := HG.out.cell hin
                simp only [Value.slice.injEq] at he
                obtain ⟨rfl, _, rfl⟩ := he
                have ST := hide st
                clear st
                go_wp2
                go_roundw
                case rel => exact ⟨i2 + 1, by omega, by go_num, ST.out _⟩
                case measure => simp [intOf]; omega
              · obtain rfl : i2 = m := by omega
                obtain ⟨z0', z1', z2', z3', z4', z5'⟩ := HG.out.cel
                obtain ⟨ad9, cap9, he9, hrd9⟩ := HG.out.done.form
                simp only [Value.slice.injEq] at he9
                obtain ⟨rfl, hq9, rfl⟩ := he9
                clear hq9
                have CT := same16_any (cap := capv) HG.out.done.law HLL.out hrd9
                go_wp2_with (go_at_call 21; (with_reducible refine CT.mono ?_); rintro e w9 ⟨rfl, b9⟩; have HS9 := hide ((HG.out.done.below b9).drop (J' := undef)); clear b9)
                go_roundw
                case rel => exact ⟨k + 1, L', _, by omega, by go_num, HS9.out⟩
                case measure => simp [intOf]; omega
      · obtain rfl : k = n := by omega
        go_wp2
        go_ret
        exact ⟨rfl, HP.out.bel⟩
  · by_cases h50 : 50 < n
    · have q1 : decide ((50 : Int) < (n : Int)) = true := decide_eq_true (by omega)
      clear hq
      go_enter Try.func4, Try.ntmps4
      go_wp2_with (first
        | (go_at_call 8; (with_reducible refine (CL w).mono ?_); rintro e w1 ⟨rfl, b1⟩; have HB1 := hide b1; clear b1)
        | (go_at_call 8; (with_reducible refine (CL _).mono ?_); rintro e w2 ⟨rfl, b2⟩; have HB2 := hide (bt HB1.out b2); clear b2))
      go_ret
      exact ⟨rfl, HB2.out⟩
    · have q1 : decide ((50 : Int) < (n : Int)) = false := decide_eq_false (by omega)
      by_cases h20 : 20 < a
      · have q2 : decide ((20 : Int) < a) = true := decide_eq_true h20
        clear hq
        go_enter Try.func4, Try.ntmps4
        go_wp2_with (first
          | (go_at_call 8; (with_reducible refine (CL w).mono ?_); rintro e w1 ⟨rfl, b1⟩; have HB1 := hide b1; clear b1)
          | (go_at_call 8; (with_reducible refine (CL _).mono ?_); rintro e w2 ⟨rfl, b2⟩; have HB2 := hide (bt HB1.out b2); clear b2))
        go_ret
        exact ⟨rfl, HB2.out⟩
      · have q2 : decide ((20 : Int) < a) = false := decide_eq_false h20
        have q3 : decide ((20 : Int) < b) = true := decide_eq_true (by omega)
        clear hq
        go_enter Try.func4, Try.ntmps4
        go_wp2_with (first
          | (go_at_call 8; (with_reducible refine (CL w).mono ?_); rintro e w1 ⟨rfl, b1⟩; have HB1 := hide b1; clear b1)
          | (go_at_call 8; (with_reducible refine (CL _).mono ?_); rintro e w2 ⟨rfl, b2⟩; have HB2 := hide (bt HB1.out b2); clear b2))
        go_ret
        exact ⟨rfl, HB2.out⟩
end Go.Proofs.Ytkkoemcciemloaa
