/- Parts, joined. -/
import Derived.Test.YtdpkigdfhfippaaGreatDoorJ34
import Derived.Test.YtdpkigdfhfippaaGreatDoorJ30
import Derived.Test.YtdpkigdfhfippaaGreatDoorJ21
import Derived.Test.YtdpkigdfhfippaaGreatDoorJ23
import Derived.Test.YtdpkigdfhfippaaGreatDoorJ31
import Derived.Test.YtdpkigdfhfippaaGreatDoorJ24
import Derived.Test.YtdpkigdfhfippaaGreatDoorJ04
import Derived.Test.YtdpkigdfhfippaaGreatDoorRows
import Derived.Deep.RegionHeld3
import Derived.Deep.DeepCutAuto
import Derived.BigQuiet
import Derived.ProofKit
import Derived.LaidMore
import Derived.OpenShut
import Derived.ChangeMaps5
import Derived.Laws.Strings
/- Operations: the document's Make, of whatever operation. -/
namespace Go.Proofs.YtdpkigdfhfippaaGreatDoor
open Go.RowKit


theorem dmake_any (o : Opr) (ax : Option Addr) (cx : Nat) (ay : Option Addr) (cy : Nat) (a b : Int) (w : World) (hA : OpAt w o ax cx ay cy) (hF : OpFits o) :
    Calls Tryz.prog 25 #[opV o ax cx ay cy, .int .i64 a, .int .i64 b] w fun e w' => MakeRef w.heap.size e w' (opCode o a b) (stgOf o a b) ∧ Below w.heap.size w w' := by
  cases h : okO o a b with
  | false =>
    refine (dmake_bad o ax cx ay cy a b w h).mono ?_
    rintro e w1 ⟨rfl, bb⟩
    have hc : opCode o a b = 6 := by unfold opCode; rw [if_pos h]
    rw [hc]
    exact ⟨.inl ⟨by decide, rfl⟩, bb⟩
  | true =>
    obtain ⟨⟨k0, k1⟩, _⟩ := (okO_iff o a b).1 h
    rcases (show o.kd = 0 ∨ o.kd = 1 ∨ o.kd = 2 ∨ o.kd = 3 by omega) with k | k | k | k
    · exact dmake_none o ax cx ay cy a b w h k
    · exact dmake_one o ax cx ay cy a b w h k
    · exact dmake_two o ax cx ay cy a b w h k hA hF
    · exact dmake_three o ax cx ay cy a b w h k
end Go.Proofs.YtdpkigdfhfippaaGreatDoor

/- Operations: the document's All. -/
namespace Go.Proofs.YtdpkigdfhfippaaGreatDoor
open Go.RowKit

theorem OwnLs.kept {T U : TypeId} {w w' : World} {base base' n k : Nat} {v y : Value} {xs : List Value} {L : List (Int × List Int)} (hTU : T ≠ U) (hIU : 2 ≠ U) (h : OwnLs T w base y L) (hv : w.ownsRow base' U k v n xs) (hg : w.grownBy w' v.ownBlock) : OwnLs T w' base y L := by
  obtain ⟨us, h1, h2, h3⟩ := h
  refine ⟨us, h1, World.ownsRow.kept h2 hg ?_, fun j hj => (h3 j hj).kept hg (own_apart hIU (h3 j hj) hv)⟩
  have ap := own_apart hTU h2 hv
  rcases e : y.ownBlock with _ | g
  · exact Or.inl rfl
  · exact Or.inr (fun q => ap g e q.symm)
theorem OwnLs.alloc {T : TypeId} {w : World} {base : Nat} {v : Value} {L : List (Int × List Int)} (h : OwnLs T w base v L) (o : Obj) : OwnLs T (w.alloc o) base v L := h.below (below1 w o)
theorem stg_ne {o : Opr} {a b : Int} (h : opCode o a b = 0) : (stgOf o a b).lx ≠ [] ∧ (stgOf o a b).ly ≠ [] := by
  have ho : okO o a b = true := by
    cases e : okO o a b with
    | true => rfl
    | false =>
      unfold opCode at h
      rw [if_pos e] at h
      cases h
  obtain ⟨_, _, ⟨a0, a1⟩, ⟨b0, b1⟩, hr⟩ := (okO_iff o a b).1 ho
  by_cases k : o.kd = 3
  · obtain ⟨⟨w0, _⟩, ⟨t0, _⟩, _⟩ := hr k
    have e1 : (stgOf o a b).lx = linesTo o.fl a o.wd o.wd.toNat := if_pos k
    have e2 : (stgOf o a b).ly = linesTo o.fl b o.ht o.ht.toNat := if_pos k
    have l1 := linesTo_len o.fl a o.wd o.wd.toNat
    have l2 := linesTo_len o.fl b o.ht o.ht.toNat
    rw [e1, e2]
    exact ⟨fun e => by rw [e] at l1; simp at l1; omega, fun e => by rw [e] at l2; simp at l2; omega⟩
  · have e1 : (stgOf o a b).lx = filTo (wX o) a.toNat := if_neg k
    have e2 : (stgOf o a b).ly = filTo (wY o) b.toNat := if_neg k
    have l1 := filTo_len (wX o) a.toNat
    have l2 := filTo_len (wY o) b.toNat
    rw [e1, e2]
    exact ⟨fun e => by rw [e] at l1; simp at l1; omega, fun e => by rw [e] at l2; simp at l2; omega⟩
end Go.Proofs.YtdpkigdfhfippaaGreatDoor

/- Operations: little ones. -/
namespace Go.Proofs.YtdpkigdfhfippaaGreatDoor
open Go.RowKit


set_option maxHeartbeats 4000000 in
set_option maxRecDepth 100000 in
theorem little_any (L : List Opr) (n : Nat) (hn : L.length = n) (h1 : n ≤ maxLen) (s : Int) (ad : Option Addr) (cap : Nat) (w : World) (hr : OpsAt w ad L) :
    Calls Tryz.prog 24 #[.slice ad n cap, .int .i64 s] w fun e w' => e = .returned (.bool (!bigB s L n)) ∧ Below w.heap.size w w' := by
  have hm : n ≤ 9223372036854775807 := h1
  have HR := hide hr
  have HN := hide hn
  clear hr hn h1
  go_enter Tryz.func24, Tryz.ntmps24
  go_wp2
  go_loopw [9] (fun i wr => ∃ k : Nat, k ≤ n ∧ i = .int .i64 (k : Int) ∧ Hid (bigB s L k = false) ∧ Below w.heap.size w wr) (fun i _ => n - (intOf i).toNat)
  case atStart => exact ⟨0, by omega, rfl, hide rfl, Below.refl _ _⟩
  case round =>
    obtain ⟨k, hk, rfl, hs, hb⟩ := hrel
    have HB := hide hb
    have hb0 := (HR.out.below hb)
    clear hb
    by_cases hlt : k < n
    · obtain ⟨b, off, rfl, h0, h1, h2, h3, h6, h7, h8, ax, cx, ay, cy, h4, h5, _⟩ := hb0.get (show k < L.length by rw [HN.out]; exact hlt)
      clear hb0
      have hF : BigO s (opAt L k) → (!bigB s L n) = false := fun q => by rw [bigB_stays ((bigB_step s L k).2 (.inr q)) hlt]; rfl
      have hP : ¬ BigO s (opAt L k) → bigB s L (k + 1) = false := fun q => by
        cases e : bigB s L (k + 1) with
        | false => rfl
        | true =>
          rcases (bigB_step s L k).1 e with r | r
          · rw [hs.out] at r; cases r
          · exact absurd r q
      unfold BigO at hF hP
      obtain ⟨o, ho⟩ : ∃ o, opAt L k = o := ⟨_, rfl⟩
      rw [ho] at h0 h1 h2 h3 h6 h7 h8 h4 h5 hF hP
      clear ho
      obtain ⟨kd, bd, sg, rd, xs, ys, fl, wd, ht⟩ := o
      simp only at h0 h1 h2 h3 h6 h7 h8 h4 h5 hF hP
      generalize xs.length = nx at *
      generalize ys.length = ny at *
      have HF := hide hF
      have HP := hide hP
      have HB9 := hide (fun o => ba HB.out o)
      clear hF hP hs
      go_upto_region 4 with fail
      rcases (show (40 : Int) < (nx : Int) ∨ (nx : Int) ≤ 40 by omega) with cF | c1
      · have v := HF.out (.inl (by omega))
        go_wp2
        go_ret
        exact ⟨by first | rfl | (rw [v]; rfl), HB9.out _⟩
      rcases (show (40 : Int) < (ny : Int) ∨ (ny : Int) ≤ 40 by omega) with cF | c2
      · have v := HF.out (.inr (.inl (by omega)))
        go_wp2
        go_ret
        exact ⟨by first | rfl | (rw [v]; rfl), HB9.out _⟩
      rcases (show sg ≤ 262144 ∨ (262144 < sg ∧ 4194304 < sg) ∨ (262144 < sg ∧ sg ≤ 4194304) by omega) with c3 | ⟨c3, c3'⟩ | ⟨c3, cF⟩
      case inr.inr =>
        have v := HF.out (.inr (.inr (.inl ⟨c3, cF⟩)))
        go_wp2
        go_ret
        exact ⟨by first | rfl | (rw [v]; rfl), HB9.out _⟩
      all_goals rcases (show rd ≤ 20 ∨ (20 < rd ∧ 512 ≤ rd) ∨ (20 < rd ∧ rd < 512) by omega) with c4 | ⟨c4, c4'⟩ | ⟨c4, cF⟩
      all_goals try
        have v := HF.out (.inr (.inr (.inr (.inl ⟨c4, cF⟩))))
        go_wp2
        go_ret
        exact ⟨by first | rfl | (rw [v]; rfl), HB9.out _⟩
      all_goals rcases (show wd ≤ s ∨ (s < wd ∧ 65536 < wd) ∨ (s < wd ∧ wd ≤ 65536) by omega) with c5 | ⟨c5, c5'⟩ | ⟨c5, cF⟩
      all_goals try
        have v := HF.out (.inr (.inr (.inr (.inr (.inl ⟨c5, cF⟩)))))
        go_wp2
        go_ret
        exact ⟨by first | rfl | (rw [v]; rfl), HB9.out _⟩
      all_goals rcases (show ht ≤ s ∨ (s < ht ∧ 65536 < ht) ∨ (s < ht ∧ ht ≤ 65536) by omega) with c6 | ⟨c6, c6'⟩ | ⟨c6, cF⟩
      all_goals try
        have v := HF.out (.inr (.inr (.inr (.inr (.inr ⟨c6, cF⟩)))))
        go_wp2
        go_ret
        exact ⟨by first | rfl | (rw [v]; rfl), HB9.out _⟩
      all_goals
        have v := hide (HP.out (by omega))
        go_wp2
        go_roundw
        case rel => exact ⟨k + 1, by omega, by go_num, v.out, HB9.out _⟩
        case measure => simp [intOf]; omega
    · obtain rfl : k = n := by omega
      have hv := hs.out
      clear hb0 hs
      go_wp2
      go_ret
      exact ⟨by rw [hv]; rfl, HB.out⟩
end Go.Proofs.YtdpkigdfhfippaaGreatDoor

/- The policies' names: the table out of what the row lists, the program's answers, and the law. -/
namespace Go.Proofs.YtdpkigdfhfippaaGreatDoor
open Go.ChangeShapes Go.WideShapes Go.ChangeAt Go.WideMaps Go.WideElems Go.RowKit

theorem gNamesE : Tryz.prog.globalNamed "smalto/border.names" = some 0 := by kernel_rfl
theorem tNamesE : (Tryz.prog.globals[0]?).map (·.type) = some 103 := by kernel_rfl
theorem cellsNamesE : Tryz.prog.cellsOf 103 = 3 := by kernel_rfl
theorem cellsStrE : Tryz.prog.cellsOf 9 = 1 := by kernel_rfl
/-- The names' bytes. -/
abbrev nClamp : ByteArray := ⟨#[99, 108, 97, 109, 112]⟩
abbrev nMirror : ByteArray := ⟨#[109, 105, 114, 114, 111, 114]⟩
abbrev nWrap : ByteArray := ⟨#[119, 114, 97, 112]⟩
theorem bytes_of {s : ByteArray} {l : List UInt8} (h : s.data.toList = l) : s = ⟨l.toArray⟩ := by
  subst h; rfl
theorem str_cell {H : Type} {enc : TypeId × Value → H} {w : World} {base : Nat} {sp : Nat → Bool} {held : Bool} {fuel : Nat} {a : Value} {l : List UInt8} {y : DataW H × List MemPlace}
    (h : DataW.trod enc Tryz.prog w base sp held fuel 9 [a] = some y) (hy : y.1 = .lit (.string l)) : a = .string ⟨l.toArray⟩ := by
  obtain ⟨s, e0, rfl, _⟩ := DataW.trod_string Tryz.underlying9 h
  simp at e0 hy
  rw [e0, bytes_of hy]
set_option maxRecDepth 100000 in
theorem names_cells {H : Type} {enc : TypeId × Value → H} {w : World} {base : Nat} {sp : Nat → Bool} {held : Bool} {fuel : Nat} {cs : Array Value} {p : List MemPlace}
    (h : DataW.trod enc Tryz.prog w base sp held fuel 103 cs.toList = some (Rows.laid_smalto_border_names, p)) :
    cs = #[.string nClamp, .string nMirror, .string nWrap] := by
  obtain ⟨l⟩ := cs
  obtain ⟨xs, m, rfl, hx, hl, hn, he⟩ := DataW.trod_array Tryz.underlying103 h
  rw [cellsNamesE] at hl
  rw [cellsStrE] at he
  obtain ⟨c0, c1, c2, rfl⟩ : ∃ c0 c1 c2, l = [c0, c1, c2] := by
    match l, hl with
    | [a, b, c], _ => exact ⟨a, b, c, rfl⟩
  obtain ⟨y0, y1, y2, rfl⟩ : ∃ y0 y1 y2, xs = [y0, y1, y2] := by
    match xs, hn with
    | [a, b, c], _ => exact ⟨a, b, c, rfl⟩
  have h0 := he 0 (by omega)
  have h1 := he 1 (by omega)
  have h2 := he 2 (by omega)
  simp at h0 h1 h2
  simp [Rows.laid_smalto_border_names] at hx
  obtain ⟨⟨g0, g1, g2⟩, _⟩ := hx
  obtain rfl := str_cell h0 g0.symm
  obtain rfl := str_cell h1 g1.symm
  obtain rfl := str_cell h2 g2.symm
  rfl
/-- What the program's table of names holds. -/
def NamesE (w : World) : Prop :=
  w.cell? ⟨0, 0, none⟩ = some (.string nClamp) ∧ w.cell? ⟨0, 1, none⟩ = some (.string nMirror) ∧ w.cell? ⟨0, 2, none⟩ = some (.string nWrap)
theorem cell_ltE {w : World} {b o : Nat} {v : Value} (h : w.cell? ⟨b, o, none⟩ = some v) : b < w.heap.size := by
  by_cases g : b < w.heap.size
  · exact g
  · have e : w.heap[b]? = none := Array.getElem?_eq_none (by omega)
    simp [World.cell?, e] at h
theorem namesE_below {w w1 : World} (h : NamesE w) (b : Below w.heap.size w w1) : NamesE w1 := by
  obtain ⟨c0, c1, c2⟩ := h
  have lc := cell_ltE c0
  exact ⟨cb b lc c0, cb b lc c1, cb b lc c2⟩
/-! ### The program's answers -/
def nameE (p : Int) : Value := if p = 0 then .string nClamp else if p = 1 then .string nMirror else if p = 2 then .string nWrap else .string ⟨#[]⟩
theorem nameE_any (p : Int) (w : World) (hk : NamesE w) :
    Calls Tryz.prog 35 #[.int .i64 p] w fun e w' => e = .returned (nameE p) ∧ w = w' := by
  obtain ⟨k0, k1, k2⟩ := hk
  by_cases h0 : p = 0
  · subst h0
    have C := fun w => knownE_yes 0 (by omega) (by omega) w
    go_enter Tryz.func35, Tryz.ntmps35
    go_wp2_with (go_at_call 49; (with_reducible refine (C _).mono ?_); rintro e w1 ⟨rfl, rfl⟩)
    go_ret
    exact ⟨rfl, rfl⟩
  by_cases h1 : p = 1
  · subst h1
    have C := fun w => knownE_yes 1 (by omega) (by omega) w
    go_enter Tryz.func35, Tryz.ntmps35
    go_wp2_with (go_at_call 49; (with_reducible refine (C _).mono ?_); rintro e w1 ⟨rfl, rfl⟩)
    go_ret
    exact ⟨rfl, rfl⟩
  by_cases h2 : p = 2
  · subst h2
    have C := fun w => knownE_yes 2 (by omega) (by omega) w
    go_enter Tryz.func35, Tryz.ntmps35
    go_wp2_with (go_at_call 49; (with_reducible refine (C _).mono ?_); rintro e w1 ⟨rfl, rfl⟩)
    go_ret
    exact ⟨rfl, rfl⟩
  · have C := fun w => knownE_no p (by omega) w
    rw [show nameE p = .string ⟨#[]⟩ by unfold nameE; rw [if_neg h0, if_neg h1, if_neg h2]]
    clear h0 h1 h2 k0 k1 k2
    go_enter Tryz.func35, Tryz.ntmps35
    go_wp2_with (go_at_call 49; (with_reducible refine (C _).mono ?_); rintro e w1 ⟨rfl, rfl⟩)
    go_ret
    exact ⟨rfl, rfl⟩
end Go.Proofs.YtdpkigdfhfippaaGreatDoor

/- Operations: the program's own small calls: which kinds there are, sides, names, sizes. -/
namespace Go.Proofs.YtdpkigdfhfippaaGreatDoor
open Go.RowKit


theorem oknown_yes (k : Int) (h0 : 0 ≤ k) (h1 : k ≤ 3) (w : World) :
    Calls Tryz.prog 34 #[.int .i64 k] w fun e w' => e = .returned (.bool true) ∧ w = w' := by
  go_enter Tryz.func34, Tryz.ntmps34
  go_wp2
  go_ret
  first | exact ⟨rfl, rfl⟩ | exact ⟨ret_bool (decide_eq_true (by omega)), rfl⟩
theorem oknown_no (k : Int) (h : k < 0 ∨ 3 < k) (w : World) :
    Calls Tryz.prog 34 #[.int .i64 k] w fun e w' => e = .returned (.bool false) ∧ w = w' := by
  rcases h with h | h
  all_goals
    go_enter Tryz.func34, Tryz.ntmps34
    go_wp2
    go_ret
    first | exact ⟨rfl, rfl⟩ | exact ⟨ret_bool (decide_eq_false (by omega)), rfl⟩
theorem oside_yes (n : Int) (h0 : 1 ≤ n) (h1 : n ≤ 65536) (w : World) :
    Calls Tryz.prog 36 #[.int .i64 n] w fun e w' => e = .returned (.bool true) ∧ w = w' := by
  go_enter Tryz.func36, Tryz.ntmps36
  go_wp2
  go_ret
  first | exact ⟨rfl, rfl⟩ | exact ⟨ret_bool (decide_eq_true (by omega)), rfl⟩
theorem oside_no (n : Int) (h : n < 1 ∨ 65536 < n) (w : World) :
    Calls Tryz.prog 36 #[.int .i64 n] w fun e w' => e = .returned (.bool false) ∧ w = w' := by
  rcases h with h | h
  all_goals
    go_enter Tryz.func36, Tryz.ntmps36
    go_wp2
    go_ret
    first | exact ⟨rfl, rfl⟩ | exact ⟨ret_bool (decide_eq_false (by omega)), rfl⟩
theorem nameE_some (p : Int) (p0 : 0 ≤ p) (p1 : p ≤ 2) : ∃ s, nameE p = .string s ∧ s.toList.isEmpty = false := by
  unfold nameE
  by_cases h0 : p = 0
  · rw [if_pos h0]; exact ⟨_, rfl, by decide +kernel⟩
  by_cases h1 : p = 1
  · rw [if_neg h0, if_pos h1]; exact ⟨_, rfl, by decide +kernel⟩
  · rw [if_neg h0, if_neg h1, if_pos (by omega)]; exact ⟨_, rfl, by decide +kernel⟩
theorem nameE_none (p : Int) (h : p < 0 ∨ 2 < p) : nameE p = .string ⟨#[]⟩ := by
  unfold nameE
  rw [if_neg (by omega), if_neg (by omega), if_neg (by omega)]
end Go.Proofs.YtdpkigdfhfippaaGreatDoor
