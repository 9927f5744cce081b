/- Parts, joined. -/
import Derived.Test.YtaafhjngnjjcmaaGreatDoorJ03
import Derived.Test.YtaafhjngnjjcmaaGreatDoorJ17
import Derived.Test.YtaafhjngnjjcmaaGreatDoorJ12
import Derived.Test.YtaafhjngnjjcmaaGreatDoorJ21
import Derived.Test.YtaafhjngnjjcmaaGreatDoorJ04
import Derived.Test.YtaafhjngnjjcmaaGreatDoorJ15
import Derived.Test.YtaafhjngnjjcmaaGreatDoorJ13
import Derived.Deep.Slices
import Derived.Deep.Fields
import Derived.ChangeSame
import Derived.OpenShut
/- The deeds of a play in memory: a slice of records of three ints and a sample. -/
namespace Go.Proofs.YtaafhjngnjjcmaaGreatDoor
open Go.RowKit

theorem list_of {α : Type} (d : α) (P : Nat → α → Prop) : ∀ (n : Nat), (∀ i, i < n → ∃ x, P i x) → ∃ L : List α, L.length = n ∧ ∀ i, i < n → P i (L.getD i d)
  | 0, _ => ⟨[], rfl, fun _ h => absurd h (Nat.not_lt_zero _)⟩
  | n + 1, h => by
    obtain ⟨L, hL, hP⟩ := list_of d P n (fun i hi => h i (by omega))
    obtain ⟨x, hx⟩ := h n (by omega)
    refine ⟨L ++ [x], by simp [hL], fun i hi => ?_⟩
    by_cases e : i = n
    · subst e
      rw [List.getD_eq_getElem?_getD, List.getElem?_append_right (by omega), hL, Nat.sub_self]
      exact hx
    · rw [List.getD_eq_getElem?_getD, List.getElem?_append_left (by omega), ← List.getD_eq_getElem?_getD]
      exact hP i (by omega)
end Go.Proofs.YtaafhjngnjjcmaaGreatDoor

/- Operations in memory: a struct of seven ints and two slices of ints, by value and in a slice; opened. -/
namespace Go.Proofs.YtaafhjngnjjcmaaGreatDoor
open Go.RowKit


/-- An operation as a value. -/
def opV (o : Opr) (ax : Option Addr) (cx : Nat) (ay : Option Addr) (cy : Nat) : Value :=
  .agg #[.int .i64 o.kd, .int .i64 o.bd, .int .i64 o.sg, .int .i64 o.rd, .slice ax o.xs.length cx, .slice ay o.ys.length cy, .int .i64 o.fl, .int .i64 o.wd, .int .i64 o.ht]
def In64 (x : Int) : Prop := -9223372036854775808 ≤ x ∧ x ≤ 9223372036854775807
/-- What numbers it may have. -/
structure OpFits (o : Opr) : Prop where
  kd : In64 o.kd
  bd : In64 o.bd
  sg : In64 o.sg
  rd : In64 o.rd
  fl : In64 o.fl
  wd : In64 o.wd
  ht : In64 o.ht
  xs : AllK .i64 o.xs
  ys : AllK .i64 o.ys
  lx : o.xs.length ≤ maxLen
  ly : o.ys.length ≤ maxLen
theorem AllK.all {xs : List Int} (h : AllK .i64 xs) : All64 xs := fun _ hj => allK_i64 h hj
/-- Its weights stand in memory. -/
def OpAt (w : World) (o : Opr) (ax : Option Addr) (cx : Nat) (ay : Option Addr) (cy : Nat) : Prop := RowAt .i64 w ax o.xs ∧ RowAt .i64 w ay o.ys ∧ (ax = none → cx = 0) ∧ (ay = none → cy = 0)
theorem OpAt.below {w w' : World} {o : Opr} {ax ay : Option Addr} {cx cy : Nat} (h : OpAt w o ax cx ay cy) (hb : Below w.heap.size w w') : OpAt w' o ax cx ay cy := ⟨h.1.below hb, h.2.1.below hb, h.2.2⟩
/-- The nine cells of one. -/
def OpIn (w : World) (b q : Nat) (o : Opr) : Prop :=
  w.cell? ⟨b, q, none⟩ = some (.int .i64 o.kd) ∧ w.cell? ⟨b, q + 1, none⟩ = some (.int .i64 o.bd) ∧ w.cell? ⟨b, q + 2, none⟩ = some (.int .i64 o.sg) ∧ w.cell? ⟨b, q + 3, none⟩ = some (.int .i64 o.rd) ∧
  w.cell? ⟨b, q + 6, none⟩ = some (.int .i64 o.fl) ∧ w.cell? ⟨b, q + 7, none⟩ = some (.int .i64 o.wd) ∧ w.cell? ⟨b, q + 8, none⟩ = some (.int .i64 o.ht) ∧
  ∃ ax cx ay cy, w.cell? ⟨b, q + 4, none⟩ = some (.slice ax o.xs.length cx) ∧ w.cell? ⟨b, q + 5, none⟩ = some (.slice ay o.ys.length cy) ∧ OpAt w o ax cx ay cy
theorem OpIn.below {w w' : World} {b q : Nat} {o : Opr} (h : OpIn w b q o) (hb : Below w.heap.size w w') : OpIn w' b q o := by
  obtain ⟨h0, h1, h2, h3, h6, h7, h8, ax, cx, ay, cy, h4, h5, ha⟩ := h
  have hl := cell_ltL h0
  exact ⟨cb hb hl h0, cb hb hl h1, cb hb hl h2, cb hb hl h3, cb hb hl h6, cb hb hl h7, cb hb hl h8, ax, cx, ay, cy, cb hb hl h4, cb hb hl h5, ha.below hb⟩
/-- The slice at an address reads as these operations. -/
def OpsAt (w : World) (ad : Option Addr) (L : List Opr) : Prop :=
  L = [] ∨ ∃ b off, ad = some ⟨b, off, none⟩ ∧ ∀ j, j < L.length → OpIn w b (off + j * 9) (opAt L j)
def OpsFit (L : List Opr) : Prop := ∀ j, j < L.length → OpFits (opAt L j)
theorem OpsAt.get {w : World} {ad : Option Addr} {L : List Opr} (h : OpsAt w ad L) {j : Nat} (hj : j < L.length) : ∃ b off, ad = some ⟨b, off, none⟩ ∧ OpIn w b (off + j * 9) (opAt L j) := by
  rcases h with rfl | ⟨b, off, h1, h2⟩
  · exact absurd hj (Nat.not_lt_zero _)
  · exact ⟨b, off, h1, h2 j hj⟩
theorem OpsAt.below {w w' : World} {ad : Option Addr} {L : List Opr} (h : OpsAt w ad L) (hb : Below w.heap.size w w') : OpsAt w' ad L := by
  rcases h with h | ⟨b, off, h1, h2⟩
  · exact Or.inl h
  · exact Or.inr ⟨b, off, h1, fun j hj => (h2 j hj).below hb⟩
theorem in64_wf {x : Int} (h : (Lit.int .i64 x).wf = true) : In64 x := by
  simpa [In64, Lit.wf, IntKind.min, IntKind.max, IntKind.signed, IntKind.bits] using h
theorem rowo_cells {H : Type} {enc : TypeId × Value → H} {w : World} {base : Nat} {held : Bool} {fuel : Nat} {v : Value} {x : DataW H × List MemPlace}
    (h : DataW.trod enc Tryz.prog w base (fun _ => true) held fuel 47 [v] = some x) : ∃ (xs : List Int) (ad : Option Addr) (cap : Nat), v = .slice ad xs.length cap ∧ RowAt .i64 w ad xs ∧ AllK .i64 xs ∧ xs.length ≤ maxLen ∧ (ad = none → cap = 0) := by
  rcases Go.ChangeShapes.open_ints Tryz.underlying47 Tryz.underlying2 (by kernel_rfl) h with ⟨hcs, _⟩ | ⟨x, l, c, zs, hcs, _, hl, hm, hz, _, hcell, hwz⟩
  · obtain rfl : v = .slice none 0 0 := by simpa using hcs
    exact ⟨[], none, 0, rfl, Or.inl rfl, fun n hn => (by cases hn), Nat.zero_le _, fun _ => rfl⟩
  · obtain rfl : v = .slice (some x) l c := by simpa using hcs
    obtain ⟨xs, e, a, b, d, f⟩ := row_open (.inr ⟨x, zs, rfl, hl, hm, by simpa using hz, hcell, hwz⟩)
    subst e
    exact ⟨xs, _, _, rfl, a, b, d, f⟩
set_option maxRecDepth 100000 in
theorem op_cells {H : Type} {enc : TypeId × Value → H} {w : World} {base : Nat} {held : Bool} {fuel : Nat} {cs : List Value} {x : DataW H × List MemPlace}
    (h : DataW.trod enc Tryz.prog w base (fun _ => true) held fuel 50 cs = some x) (h9 : cs.length = 9) : ∃ (o : Opr) (ax : Option Addr) (cx : Nat) (ay : Option Addr) (cy : Nat),
      cs = [.int .i64 o.kd, .int .i64 o.bd, .int .i64 o.sg, .int .i64 o.rd, .slice ax o.xs.length cx, .slice ay o.ys.length cy, .int .i64 o.fl, .int .i64 o.wd, .int .i64 o.ht] ∧ OpAt w o ax cx ay cy ∧ OpFits o := by
  obtain ⟨ys, n', _, _, hlen, hyl, hf⟩ := DataW.trod_struct Tryz.underlying50 h
  have k1 : Tryz.prog.cellsOf 3 = 1 := by kernel_rfl
  have k2 : Tryz.prog.cellsOf 2 = 1 := by kernel_rfl
  have k3 : Tryz.prog.cellsOf 46 = 1 := by kernel_rfl
  have k4 : Tryz.prog.cellsOf 42 = 1 := by kernel_rfl
  have k5 : Tryz.prog.cellsOf 48 = 1 := by kernel_rfl
  have k6 : Tryz.prog.cellsOf 47 = 1 := by kernel_rfl
  match cs, h9 with
  | [c0, c1, c2, c3, c4, c5, c6, c7, c8], _ =>
    have hy : ys.length = 9 := hyl
    match ys, hy with
    | [y0, y1, y2, y3, y4, y5, y6, y7, y8], _ =>
      have f0 : DataW.trod enc Tryz.prog w base (fun _ => true) held n' 46 (List.take (Tryz.prog.cellsOf 46) (List.drop 0 [c0, c1, c2, c3, c4, c5, c6, c7, c8])) = some y0 := hf 0 _ rfl
      have f1 : DataW.trod enc Tryz.prog w base (fun _ => true) held n' 42 (List.take (Tryz.prog.cellsOf 42) (List.drop 1 [c0, c1, c2, c3, c4, c5, c6, c7, c8])) = some y1 := hf 1 _ rfl
      have f2 : DataW.trod enc Tryz.prog w base (fun _ => true) held n' 2 (List.take (Tryz.prog.cellsOf 2) (List.drop 2 [c0, c1, c2, c3, c4, c5, c6, c7, c8])) = some y2 := hf 2 _ rfl
      have f3 : DataW.trod enc Tryz.prog w base (fun _ => true) held n' 3 (List.take (Tryz.prog.cellsOf 3) (List.drop 3 [c0, c1, c2, c3, c4, c5, c6, c7, c8])) = some y3 := hf 3 _ rfl
      have f4 : DataW.trod enc Tryz.prog w base (fun _ => true) held n' 47 (List.take (Tryz.prog.cellsOf 47) (List.drop 4 [c0, c1, c2, c3, c4, c5, c6, c7, c8])) = some y4 := hf 4 _ rfl
      have f5 : DataW.trod enc Tryz.prog w base (fun _ => true) held n' 47 (List.take (Tryz.prog.cellsOf 47) (List.drop 5 [c0, c1, c2, c3, c4, c5, c6, c7, c8])) = some y5 := hf 5 _ rfl
      have f6 : DataW.trod enc Tryz.prog w base (fun _ => true) held n' 48 (List.take (Tryz.prog.cellsOf 48) (List.drop 6 [c0, c1, c2, c3, c4, c5, c6, c7, c8])) = some y6 := hf 6 _ rfl
      have f7 : DataW.trod enc Tryz.prog w base (fun _ => true) held n' 3 (List.take (Tryz.prog.cellsOf 3) (List.drop 7 [c0, c1, c2, c3, c4, c5, c6, c7, c8])) = some y7 := hf 7 _ rfl
      have f8 : DataW.trod enc Tryz.prog w base (fun _ => true) held n' 3 (List.take (Tryz.prog.cellsOf 3) (List.drop 8 [c0, c1, c2, c3, c4, c5, c6, c7, c8])) = some y8 := hf 8 _ rfl
      rw [k3] at f0
      rw [k4] at f1
      rw [k2] at f2
      rw [k1] at f3 f7 f8
      rw [k6] at f4 f5
      rw [k5] at f6
      obtain ⟨x0, q0, _, w0⟩ := DataW.trod_int Tryz.underlying46 f0
      obtain ⟨x1, q1, _, w1⟩ := DataW.trod_int Tryz.underlying42 f1
      obtain ⟨x2, q2, _, w2⟩ := DataW.trod_int Tryz.underlying2 f2
      obtain ⟨x3, q3, _, w3⟩ := DataW.trod_int Tryz.underlying3 f3
      obtain ⟨x6, q6, _, w6⟩ := DataW.trod_int Tryz.underlying48 f6
      obtain ⟨x7, q7, _, w7⟩ := DataW.trod_int Tryz.underlying3 f7
      obtain ⟨x8, q8, _, w8⟩ := DataW.trod_int Tryz.underlying3 f8
      simp at q0 q1 q2 q3 q6 q7 q8
      subst q0 q1 q2 q3 q6 q7 q8
      obtain ⟨xs, ax, cx, rfl, r4, a4, l4, z4⟩ := rowo_cells f4
      obtain ⟨zs, ay, cy, rfl, r5, a5, l5, z5⟩ := rowo_cells f5
      exact ⟨⟨x0, x1, x2, x3, xs, zs, x6, x7, x8⟩, ax, cx, ay, cy, rfl, ⟨r4, r5, z4, z5⟩, in64_wf w0, in64_wf w1, in64_wf w2, in64_wf w3, in64_wf w6, in64_wf w7, in64_wf w8, a4, a5, l4, l5⟩
set_option maxRecDepth 100000 in
theorem op_open {H : Type} {enc : TypeId × Value → H} {w : World} {r : Reach} {b0 base : Nat} {held : Bool} {v : Value} {d : DataW H} {p : List MemPlace}
    (hv : Value.okWide Tryz.prog w r b0 50 v) (h : DataW.Trod enc Tryz.prog w base (fun _ => true) held 50 v d p) : ∃ (o : Opr) (ax : Option Addr) (cx : Nat) (ay : Option Addr) (cy : Nat), v = opV o ax cx ay cy ∧ OpAt w o ax cx ay cy ∧ OpFits o := by
  obtain ⟨cs, rfl, hsz⟩ := Go.WideShapes.okWide_struct Tryz.underlying50 hv
  obtain ⟨n, hn⟩ := h
  have hC : Tryz.prog.cellsOf 50 = 9 := by kernel_rfl
  rw [hC] at hsz
  obtain ⟨o, ax, cx, ay, cy, e, a, b⟩ := op_cells hn (by simpa [Value.cells] using hsz)
  obtain ⟨l⟩ := cs
  simp only [Value.cells] at e
  subst e
  exact ⟨o, ax, cx, ay, cy, rfl, a, b⟩
set_option maxRecDepth 100000 in
/-- Operations that come in as a slice. -/
theorem ops_open {H : Type} {enc : TypeId × Value → H} {w : World} {base : Nat} {held : Bool} {fuel : Nat} {ad : Option Addr} {len cap : Nat} {x : DataW H × List MemPlace}
    (h : DataW.trod enc Tryz.prog w base (fun _ => true) held fuel 26 [.slice ad len cap] = some x) :
    ∃ L : List Opr, L.length = len ∧ (OpsAt w ad L ∧ OpsFit L) ∧ L.length ≤ maxLen ∧ (ad = none → cap = 0) := by
  rcases Go.Deep.open_slice Tryz.underlying26 h with ⟨hcs, _⟩ | ⟨a, len', cap', m, n, D, Pl, hcs, _, hl, hm, hmm, _, hi⟩
  · simp only [List.cons.injEq, Value.slice.injEq, and_true] at hcs
    obtain ⟨rfl, rfl, rfl⟩ := hcs
    exact ⟨[], rfl, ⟨Or.inl rfl, fun _ hj => absurd hj (Nat.not_lt_zero _)⟩, Nat.zero_le _, fun _ => rfl⟩
  · simp only [List.cons.injEq, Value.slice.injEq, and_true] at hcs
    obtain ⟨rfl, rfl, rfl⟩ := hcs
    have hlm : len ≤ m := by rw [hmm]; split <;> omega
    have hC : Tryz.prog.cellsOf 50 = 9 := by kernel_rfl
    have one : ∀ i, i < len → ∃ o : Opr, (∃ ax cx ay cy, w.cell? (a.add (i * 9)) = some (.int .i64 o.kd) ∧ w.cell? (a.add (i * 9 + 1)) = some (.int .i64 o.bd) ∧ w.cell? (a.add (i * 9 + 2)) = some (.int .i64 o.sg) ∧ w.cell? (a.add (i * 9 + 3)) = some (.int .i64 o.rd) ∧ w.cell? (a.add (i * 9 + 6)) = some (.int .i64 o.fl) ∧ w.cell? (a.add (i * 9 + 7)) = some (.int .i64 o.wd) ∧ w.cell? (a.add (i * 9 + 8)) = some (.int .i64 o.ht) ∧
        w.cell? (a.add (i * 9 + 4)) = some (.slice ax o.xs.length cx) ∧ w.cell? (a.add (i * 9 + 5)) = some (.slice ay o.ys.length cy) ∧ OpAt w o ax cx ay cy) ∧ OpFits o := by
      intro i hil
      obtain ⟨cs', hc, ht⟩ := hi i (by omega)
      rw [hC] at hc
      obtain ⟨_, hcl, hat⟩ := World.cells?_some hc
      obtain ⟨o, ax, cx, ay, cy, rfl, oa, ofi⟩ := op_cells ht hcl
      refine ⟨o, ⟨ax, cx, ay, cy, ?_⟩, ofi⟩
      have a0 := hat 0 (by decide)
      have a1 := hat 1 (by decide)
      have a2 := hat 2 (by decide)
      have a3 := hat 3 (by decide)
      have a4 := hat 4 (by decide)
      have a5 := hat 5 (by decide)
      have a6 := hat 6 (by decide)
      have a7 := hat 7 (by decide)
      have a8 := hat 8 (by decide)
      rw [Go.Deep.add_add] at a0 a1 a2 a3 a4 a5 a6 a7 a8
      exact ⟨a0, a1, a2, a3, a6, a7, a8, a4, a5, oa⟩
    obtain ⟨L, hL, hP⟩ := list_of op0 _ len one
    refine ⟨L, hL, ⟨?_, fun j hj => (hP j (by omega)).2⟩, by omega, fun e => by cases e⟩
    by_cases h0 : len = 0
    · exact Or.inl (List.eq_nil_of_length_eq_zero (by omega))
    · obtain ⟨b, off, spot⟩ := a
      have hspot : spot = none := by
        obtain ⟨⟨ax, cx, ay, cy, this, _⟩, _⟩ := hP 0 (by omega)
        simpa [Addr.add] using World.cell?_spot this
      subst hspot
      refine Or.inr ⟨b, off, rfl, fun j hj => ?_⟩
      obtain ⟨⟨ax, cx, ay, cy, g0, g1, g2, g3, g6, g7, g8, g4, g5, oa⟩, _⟩ := hP j (by omega)
      rw [addr_add] at g0 g1 g2 g3 g4 g5 g6 g7 g8
      exact ⟨g0, g1, g2, g3, g6, g7, g8, ax, cx, ay, cy, g4, g5, oa⟩
end Go.Proofs.YtaafhjngnjjcmaaGreatDoor

/- Weights that come to one: the program's calls, whatever comes in. -/
namespace Go.Proofs.YtaafhjngnjjcmaaGreatDoor
open Go.RowKit


theorem apportion_any (xs : List Int) (ad : Option Addr) (cap : Nat) (w : World) (hr : RowAt .i64 w ad xs) (hx : All64 xs) (hl : xs.length ≤ 9223372036854775807) :
    Calls Tryz.prog 117 #[.slice ad xs.length cap] w fun e w' => ∃ v, e = .returned (.tuple #[v, .int .i64 (appCode xs)]) ∧ Ret .i64 (appOut xs) w' v ∧ Below w.heap.size w w' := by
  by_cases hf : Fits xs
  · have e := appCode_fits.2 hf
    have e2 : appOut xs = appR xs := by unfold appOut; rw [if_pos e]
    rw [e, e2]
    refine (apportion_fits xs ad cap w hr hx hf).mono ?_
    rintro e w1 ⟨v, rfl, o, b⟩
    exact ⟨v, rfl, o.ret, b⟩
  · have e : appCode xs ≠ 0 := fun g => hf (appCode_fits.1 g)
    have e2 : appOut xs = [] := by unfold appOut; rw [if_neg e]
    rw [e2]
    have HR := hide hr
    have CS := fun w hr => tsum_any xs ad cap w hr hx hl
    by_cases hb : badB xs = true
    · have e3 : appCode xs = 7 := by unfold appCode; rw [if_pos hb]
      rw [e3]
      have CB := fun w hr => bounded_any xs ad cap w hr hx hl false (by rw [hb]; rfl)
      clear hr hx CS hf e e2 e3 hb
      generalize xs.length = n at *
      go_enter Tryz.func117, Tryz.ntmps117
      go_wp2_with (go_at_call 133; (with_reducible refine (CB _ HR.out).mono ?_); rintro e w1 ⟨rfl, rfl⟩)
      exact bodyPost_ret (v := .tuple #[.slice none 0 0, .int .i64 7]) (by simp [results, Tryz.results117, go_sem]) rfl ⟨_, rfl, ret_nil _ _ _ _, Below.refl _ _⟩
    · have hb' : badB xs = false := by
        cases h : badB xs with
        | true => exact absurd h hb
        | false => rfl
      have h3 : sumH xs < 268435456 := by
        by_cases q : sumH xs < 268435456
        · exact q
        · have nb : ¬ (xs.length < 1 ∨ 1048576 < xs.length ∨ ¬ ∀ x ∈ xs, smallW x) := fun q => hb ((badB_iff xs).2 q)
          refine absurd ⟨?_, ?_, ?_, by omega⟩ hf
          · by_cases q : xs.length < 1
            · exact absurd (Or.inl q) nb
            · omega
          · by_cases q : 1048576 < xs.length
            · exact absurd (Or.inr (Or.inl q)) nb
            · omega
          · exact Classical.byContradiction fun q => nb (Or.inr (Or.inr q))
      have e3 : appCode xs = 8 := by unfold appCode; rw [if_neg hb, if_pos h3]
      rw [e3]
      have CB := fun w hr => bounded_any xs ad cap w hr hx hl true (by rw [hb']; rfl)
      obtain ⟨s0, s1⟩ := sumH_in xs
      generalize sumH xs = s at *
      clear hr hx hf e e2 e3 hb hb'
      generalize xs.length = n at *
      go_enter Tryz.func117, Tryz.ntmps117
      go_wp2_with (first
        | (go_at_call 133; (with_reducible refine (CB _ HR.out).mono ?_); rintro e w1 ⟨rfl, rfl⟩)
        | (go_at_call 134; (with_reducible refine (CS _ HR.out).mono ?_); rintro e w1 ⟨rfl, rfl⟩))
      exact bodyPost_ret (v := .tuple #[.slice none 0 0, .int .i64 8]) (by simp [results, Tryz.results117, go_sem]) rfl ⟨_, rfl, ret_nil _ _ _ _, Below.refl _ _⟩
theorem user_any (xs : List Int) (ad : Option Addr) (cap : Nat) (w : World) (hr : RowAt .i64 w ad xs) (hx : All64 xs) (hl : xs.length ≤ 9223372036854775807) :
    Calls Tryz.prog 120 #[.slice ad xs.length cap] w fun e w' => ∃ v, e = .returned (.tuple #[v, .int .i64 (userCode xs)]) ∧ Ret .i64 (userOut xs) w' v ∧ Below w.heap.size w w' := by
  unfold userCode userOut
  by_cases hu : userB xs = true
  · rw [if_pos hu, if_pos hu]
    refine (user_ok xs ad cap w hr hx ((userB_iff xs).1 hu)).mono ?_
    rintro e w1 ⟨v, rfl, o, b⟩
    exact ⟨v, rfl, o.ret, b⟩
  · rw [if_neg hu, if_neg hu]
    refine (user_bad xs ad cap w hr hx hl (fun q => hu ((userB_iff xs).2 q))).mono ?_
    rintro e w1 ⟨rfl, b⟩
    exact ⟨_, rfl, ret_nil _ _ _ _, b⟩
theorem gaussian_any (s : Int) (w : World) :
    Calls Tryz.prog 118 #[.int .i64 s] w fun e w' => ∃ v, e = .returned (.tuple #[v, .int .i64 (gauCode s)]) ∧ Ret .i64 (gauOut s) w' v ∧ Below w.heap.size w w' := by
  unfold gauCode gauOut
  by_cases h : 1 ≤ s ∧ s ≤ 4194304
  · rw [if_pos h, if_pos h]
    refine (gaussian_ok s h.1 h.2 w).mono ?_
    rintro e w1 ⟨v, rfl, o, b⟩
    exact ⟨v, rfl, o.ret, b⟩
  · rw [if_neg h, if_neg h]
    refine (gaussian_bad s (by omega) w).mono ?_
    rintro e w1 ⟨rfl, b⟩
    exact ⟨_, rfl, ret_nil _ _ _ _, b⟩
theorem bitsmul_one (m : Nat) (h : m < 18446744073709551616) (w : World) :
    Calls Tryz.prog 165 #[.int .u64 1, .int .u64 (m : Int)] w fun e w' => e = .returned (.tuple #[.int .u64 0, .int .u64 (m : Int)]) ∧ w = w' := by
  have C : ∀ w : World, Calls Tryz.prog 86 #[.int .u64 1, .int .u64 (m : Int)] w fun e w' => e = .returned (.tuple #[.int .u64 0, .int .u64 (m : Int)]) ∧ w = w' := fun w => by
    have := mul64_any 1 m (by omega) h w
    rw [Nat.one_mul, Nat.mod_eq_of_lt h, Nat.div_eq_of_lt h] at this
    exact this
  go_enter Tryz.func165, Tryz.ntmps165
  go_wp2_with (go_at_call 86; (with_reducible refine (C _).mono ?_); rintro e w1 ⟨rfl, rfl⟩)
  exact bodyPost_ret (v := .tuple #[.int .u64 0, .int .u64 (m : Int)]) (by simp [results, Tryz.results165, go_sem]) rfl ⟨rfl, rfl⟩
/-- So many ones, the rest nought. -/
def onesZ (c m : Nat) : List Value := List.replicate c (.int .i64 1) ++ List.replicate (m - c) (.int .i64 0)
theorem onesZ_len {c m : Nat} (h : c ≤ m) : (onesZ c m).length = m := by unfold onesZ; rw [List.length_append, List.length_replicate, List.length_replicate]; omega
theorem onesZ_get {c m j : Nat} (h : j < c) : (onesZ c m)[j]? = some (.int .i64 1) := by
  unfold onesZ
  rw [List.getElem?_append_left (by rw [List.length_replicate]; exact h), List.getElem?_replicate, if_pos h]
theorem onesZ_more {c m d : Nat} (h : c + d ≤ m) : splice (onesZ c m) c (List.replicate d (.int .i64 1)) = onesZ (c + d) m := by
  unfold splice onesZ
  rw [List.length_replicate, List.take_left' (by rw [List.length_replicate]), List.drop_append, List.length_replicate, List.drop_of_length_le (by rw [List.length_replicate]; omega), List.nil_append, List.drop_replicate, ← List.append_assoc, List.replicate_append_replicate]
  congr 2
  omega
theorem onesZ_all (m : Nat) : onesZ m m = (List.replicate m (1 : Int)).map (Value.int .i64) := by unfold onesZ; simp
theorem infoSzV : (Tryz.prog.info? 2).map (·.size) = some 1 := by kernel_rfl
theorem bdG {B : Nat} {a w : World} (h : Below B a w) : Below B a w.drew := h.trans ⟨rfl, rfl, rfl, Nat.le_refl _, fun _ _ => rfl⟩
set_option maxHeartbeats 4000000 in
set_option maxRecDepth 1000000 in
theorem repeat_one (m : Nat) (m0 : 1 ≤ m) (m1 : m ≤ 2000) (k : Nat) (w : World) (hc : w.cell? ⟨k, 0, none⟩ = some (.int .i64 1)) :
    Calls Tryz.prog 138 #[.slice (some ⟨k, 0, none⟩) 1 1, .int .i64 (m : Int)] w fun e w' => ∃ v, e = .returned v ∧ OwnI .i64 2 w' w.heap.size v (List.replicate m 1) ∧ Below w.heap.size w w' := by
  have CM := fun w => bitsmul_one m (by omega) w
  obtain ⟨zs, MK, _, MZ⟩ := make64 m (by omega)
  have hsz := infoSzV
  have HC := hide hc
  have kl := cell_ltL hc
  have HW := hide (show (w.alloc (.cells zs 2)).heap[w.heap.size]? = some (.cells (onesZ 0 m).toArray 2 (0, 0)) by
    have e : zs = (onesZ 0 m).toArray := by
      apply Array.toList_inj.1
      rw [MZ]; unfold onesZ; simp
    rw [← e]; exact heap_alloc_new w _)
  have HC1 := hide (show (w.alloc (.cells zs 2)).cell? ⟨k, 0, none⟩ = some (.int .i64 1) from cb (ba (Below.refl _ _) _) kl hc)
  have HS := hide hsz
  obtain ⟨w2, hrun, hg2, hb2⟩ := copy_run (P := Tryz.prog) (w.alloc (.cells zs 2)) 47 47 3 2 Tryz.underlying47 hsz w.heap.size 0 m m ⟨k, 0, none⟩ 1 1 (onesZ 0 m) 2 [.int .i64 1] 1 HW.out rfl (show 1 = min 1 m by omega) (fun j v hj => by
    match j, hj with
    | 0, hj => simp at hj; subst hj; exact HC1.out) (by rw [onesZ_len (Nat.zero_le _)]; omega) (one_int _ _) w.heap.size (Nat.le_refl _)
  have hg2' : w2.heap[w.heap.size]? = some (.cells (onesZ 1 m).toArray 2 (0, 0)) := by
    rw [hg2]
    have := onesZ_more (c := 0) (d := 1) (m := m) (by omega)
    rw [List.replicate_one, Nat.zero_add] at this
    rw [this]
  have hb2' : Below w.heap.size w w2 := (ba (Below.refl _ _) _).trans hb2
  have HG2 := hide hg2'
  have HB2 := hide hb2'
  clear MZ hc hsz hg2 hg2' hb2 hb2' HC HC1 kl
  go_enter Tryz.func138, Tryz.ntmps138
  go_wp2_with (go_at_call 165; (with_reducible refine (CM _).mono ?_); rintro e w1 ⟨rfl, rfl⟩)
  clear hrun CM MK HW
  obtain ⟨g, hg⟩ : ∃ g, w.heap.size = g := ⟨_, rfl⟩
  have HGE := hide hg
  rw [hg] at HG2 HB2 ⊢
  clear hg
  go_loopw [8] (fun u wr => ∃ c : Nat, 1 ≤ c ∧ c ≤ m ∧ u = .int .i64 (c : Int) ∧ Hid (wr.heap[g]? = some (.cells (onesZ c m).toArray 2 (0, 0))) ∧ Below g w wr) (fun u _ => m - (intOf u).toNat)
  case atStart => exact ⟨1, by omega, by omega, rfl, HG2, HB2.out⟩
  case round =>
    obtain ⟨c, c0, c1, rfl, HG, hb⟩ := hrel
    have HB := hide hb
    clear hb HG2 HB2
    by_cases hlt : c < m
    · obtain ⟨d, hd⟩ : ∃ d, min c (m - c) = d := ⟨_, rfl⟩
      have d0 : 1 ≤ d := by omega
      have d1 : c + d ≤ m := by omega
      have d2 : d ≤ c := by omega
      obtain ⟨w3, hrun, hg3, hb3⟩ := copy_run (P := Tryz.prog) wr.drew 47 47 3 2 Tryz.underlying47 HS.out g c (m - c) (m - c) ⟨g, 0, none⟩ c m (onesZ c m) 2 (List.replicate d (.int .i64 1)) d HG.out List.length_replicate (show d = Nat.min c (m - c) from hd.symm) (fun j v hj => by
        rw [List.getElem?_replicate] at hj
        by_cases h : j < d
        · rw [if_pos h] at hj
          obtain rfl := Option.some.inj hj
          rw [addr_add, Nat.zero_add]
          have e : wr.drew.heap[g]? = some (.cells (onesZ c m).toArray 2 (0, 0)) := HG.out
          unfold World.cell?
          simp only [e, List.getElem?_toArray]
          exact onesZ_get (by omega)
        · rw [if_neg h] at hj; cases hj) (by rw [onesZ_len c1]; omega) (fun v hv => by obtain rfl := List.eq_of_mem_replicate hv; rfl) g (Nat.le_refl _)
      rw [onesZ_more d1] at hg3
      have HG3 := hide hg3
      have HB3 := hide (Below.trans (bdG HB.out) hb3)
      have hmc : ¬ m = c := by omega
      have HD := hide hd
      clear hg3 hb3 hd HG HB
      go_wp2_with fail
      go_region
      go_wp2
      go_roundw
      case rel => exact ⟨c + d, by omega, d1, by go_num, HG3, HB3.out⟩
      case measure => simp [intOf]; omega
    · obtain rfl : c = m := by omega
      have e := HG.out
      rw [onesZ_all] at e
      have HO := hide (OwnI.of_block (base := w.heap.size) e List.length_replicate (by rw [HGE.out]; exact Nat.le_refl _) (by unfold maxLen; omega))
      have HBW := hide (show Below w.heap.size w wr by rw [HGE.out]; exact HB.out)
      clear HG e HB
      go_wp2
      go_ret
      exact ⟨_, rfl, HO.out, HBW.out⟩
theorem blur_bad (r : Int) (h : r < 0 ∨ 511 < r) (w : World) :
    Calls Tryz.prog 119 #[.int .i64 r] w fun e w' => e = .returned (.tuple #[.slice none 0 0, .int .i64 7]) ∧ Below w.heap.size w w' := by
  rcases h with h | h
  · go_enter Tryz.func119, Tryz.ntmps119
    go_wp2
    exact bodyPost_ret (v := .tuple #[.slice none 0 0, .int .i64 7]) (by simp [results, Tryz.results119, go_sem]) rfl ⟨rfl, Below.refl _ _⟩
  · have h2 : decide (r < 0) = false := decide_eq_false (by omega)
    go_enter Tryz.func119, Tryz.ntmps119
    go_wp2
    exact bodyPost_ret (v := .tuple #[.slice none 0 0, .int .i64 7]) (by simp [results, Tryz.results119, go_sem]) rfl ⟨rfl, Below.refl _ _⟩
set_option maxHeartbeats 4000000 in
set_option maxRecDepth 1000000 in
theorem blur_ok (r : Nat) (h : r ≤ 511) (w : World) :
    Calls Tryz.prog 119 #[.int .i64 (r : Int)] w fun e w' => ∃ v, e = .returned (.tuple #[v, .int .i64 0]) ∧ OwnI .i64 2 w' w.heap.size v (userR (List.replicate (2 * r + 1) 1)) ∧ Below w.heap.size w w' := by
  obtain ⟨us, hus⟩ : ∃ us, us = userR (List.replicate (2 * r + 1) 1) := ⟨_, rfl⟩
  have HUS := hide hus
  rw [← hus]
  obtain ⟨m, hm⟩ : ∃ m, 2 * r + 1 = m := ⟨_, rfl⟩
  have hm' : 2 * (r : Int) + 1 = (m : Int) := by omega
  have CR := fun k w hc => repeat_one m (by omega) (by omega) k w hc
  have CU := fun w ad cap hr => user_ok (List.replicate m 1) ad cap w hr (ones_64 m) (by rw [← hm]; exact ones_user r h)
  rw [List.length_replicate] at CU
  rw [← show us = userR (List.replicate m 1) by rw [hus, hm]] at CU
  have m1 : m ≤ 1023 := by omega
  have HM := hide hm
  clear hus hm
  go_enter Tryz.func119, Tryz.ntmps119
  go_wp2_with (first
    | (go_at_call 138; (with_reducible refine (CR _ _ (by simp)).mono ?_); rintro e w2 ⟨v, rfl, hov, b2⟩; obtain ⟨ad, cap, rfl, hrow, _⟩ := hov.formn List.length_replicate; have HRW := hide hrow; clear hov hrow)
    | (go_at_call 120; (with_reducible refine (CU _ _ _ HRW.out).mono ?_); rintro e w3 ⟨v, rfl, hov, b3⟩))
  have B3 := bt (bt (ba (Below.refl w.heap.size w) _) b2) b3
  have O3 := hov.mono (bt (ba (Below.refl w.heap.size w) _) b2).size
  exact bodyPost_ret (v := .tuple #[v, .int .i64 0]) (by simp [results, Tryz.results119, go_sem]) rfl ⟨_, rfl, O3, B3⟩
theorem blur_any (r : Int) (w : World) :
    Calls Tryz.prog 119 #[.int .i64 r] w fun e w' => ∃ v, e = .returned (.tuple #[v, .int .i64 (blurCode r)]) ∧ Ret .i64 (blurOut r) w' v ∧ Below w.heap.size w w' := by
  unfold blurCode blurOut
  by_cases h : 0 ≤ r ∧ r ≤ 511
  · rw [if_pos h, if_pos h]
    obtain ⟨n, rfl⟩ : ∃ n : Nat, r = (n : Int) := ⟨r.toNat, by omega⟩
    refine (blur_ok n (by omega) w).mono ?_
    rintro e w1 ⟨v, rfl, o, b⟩
    exact ⟨v, rfl, o.ret, b⟩
  · rw [if_neg h, if_neg h]
    refine (blur_bad r (by omega) w).mono ?_
    rintro e w1 ⟨rfl, b⟩
    exact ⟨_, rfl, ret_nil _ _ _ _, b⟩
end Go.Proofs.YtaafhjngnjjcmaaGreatDoor

/- The laws of stage 5, where the program's table of filters holds what its text lays. -/
namespace Go.Proofs.YtaafhjngnjjcmaaGreatDoor
open Go.RowKit


theorem keysC : KeysC := fun a b h0 h1 w => keys_any a b h0 h1 w
end Go.Proofs.YtaafhjngnjjcmaaGreatDoor
