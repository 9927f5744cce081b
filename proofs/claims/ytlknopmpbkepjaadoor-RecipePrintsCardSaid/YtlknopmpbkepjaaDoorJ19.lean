/- Parts, joined. -/
import Derived.Test.YtlknopmpbkepjaaDoorJ18
import Derived.Test.YtlknopmpbkepjaaDoorJ13
/- Operations as texts: rows of operations, each with weights of its own; the document's Parse. -/
namespace Go.Proofs.YtlknopmpbkepjaaDoor
open Go.RowKit


/-- Weights that lie in memory, apart from a row. -/
def RowBy (w : World) (v : Value) (ad : Option Addr) (xs : List Int) : Prop := RowAt .i64 w ad xs ∧ ∀ a, ad = some a → v.ownBlock ≠ some a.block ∧ a.block < w.heap.size
theorem RowBy.below {w w' : World} {v : Value} {ad : Option Addr} {xs : List Int} (h : RowBy w v ad xs) (hb : Below w.heap.size w w') : RowBy w' v ad xs := ⟨h.1.below hb, fun a e => ⟨(h.2 a e).1, Nat.lt_of_lt_of_le (h.2 a e).2 hb.size⟩⟩
theorem RowBy.kept {w w' : World} {v v' : Value} {ad : Option Addr} {xs : List Int} (h : RowBy w v ad xs) (hg : w.grownBy w' v.ownBlock) (ha : v'.ownBlock = v.ownBlock ∨ ∀ g, v'.ownBlock = some g → w.heap.size ≤ g) : RowBy w' v' ad xs := by
  refine ⟨?_, fun a e => ?_⟩
  · rcases h.1 with e | ⟨g, off, e, c⟩
    · exact .inl e
    · subst e
      exact RowAt.grown (.inr ⟨g, off, rfl, c⟩) hg (fun q => (h.2 _ rfl).1 q.symm)
  · obtain ⟨h1, h2⟩ := h.2 a e
    refine ⟨fun q => ?_, Nat.lt_of_lt_of_le h2 hg.size⟩
    rcases ha with hs | hn
    · exact h1 (hs ▸ q)
    · have := hn _ q
      omega
/-- An operation's weights, likewise. -/
def OpBy (w : World) (v : Value) (o : Opr) (ax : Option Addr) (cx : Nat) (ay : Option Addr) (cy : Nat) : Prop := RowBy w v ax o.xs ∧ RowBy w v ay o.ys ∧ (ax = none → cx = 0) ∧ (ay = none → cy = 0)
theorem OpBy.at {w : World} {v : Value} {o : Opr} {ax : Option Addr} {cx : Nat} {ay : Option Addr} {cy : Nat} (h : OpBy w v o ax cx ay cy) : OpAt w o ax cx ay cy := ⟨h.1.1, h.2.1.1, h.2.2⟩
theorem OpBy.below {w w' : World} {v : Value} {o : Opr} {ax : Option Addr} {cx : Nat} {ay : Option Addr} {cy : Nat} (h : OpBy w v o ax cx ay cy) (hb : Below w.heap.size w w') : OpBy w' v o ax cx ay cy := ⟨h.1.below hb, h.2.1.below hb, h.2.2⟩
/-- Operations so far, in a row of the call's own. -/
def OpsSo (T : TypeId) (B : Nat) (w : World) (L : List Opr) (v : Value) : Prop :=
  ∃ us, us.length = L.length ∧ OwnRec T 9 w B v us ∧ ∀ j, j < L.length → ∃ ax cx ay cy, us.getD j [] = opCells (opAt L j) ax cx ay cy ∧ OpBy w v (opAt L j) ax cx ay cy
theorem OpsSo.nil (T : TypeId) (B : Nat) (w : World) : OpsSo T B w [] (.slice none 0 0) := ⟨[], rfl, OwnRec.nil _ _ _ _, fun _ hj => absurd hj (Nat.not_lt_zero _)⟩
theorem OpsSo.below {T : TypeId} {B : Nat} {w w' : World} {L : List Opr} {v : Value} (h : OpsSo T B w L v) (hb : Below w.heap.size w w') : OpsSo T B w' L v := by
  obtain ⟨us, h1, h2, h3⟩ := h
  refine ⟨us, h1, h2.below hb, fun j hj => ?_⟩
  obtain ⟨ax, cx, ay, cy, e, a⟩ := h3 j hj
  exact ⟨ax, cx, ay, cy, e, a.below hb⟩
theorem OpsSo.ops {T : TypeId} {B : Nat} {w : World} {L : List Opr} {v : Value} (h : OpsSo T B w L v) : ∃ ad cap, v = .slice ad L.length cap ∧ OpsAt w ad L ∧ (ad = none → cap = 0) := by
  obtain ⟨us, hu, ho, hc⟩ := h
  by_cases e : us = []
  · subst e
    obtain ⟨ad, cap, rfl, _, z⟩ := ho.form hu
    have hk0 : L = [] := List.eq_nil_of_length_eq_zero (by simpa using hu.symm)
    subst hk0
    exact ⟨ad, cap, rfl, .inl rfl, z⟩
  · obtain ⟨g, cap, rfl, _, _, _, hr⟩ := ho.read e
    rw [hu]
    refine ⟨_, cap, rfl, .inr ⟨g, 0, rfl, fun j hj => ?_⟩, fun e => by cases e⟩
    obtain ⟨ax, cx, ay, cy, hcell, ha⟩ := hc j hj
    have R := hr j (by omega)
    unfold recAt at R
    rw [hcell] at R
    rw [Nat.zero_add]
    exact ⟨R 0 (by decide), R 1 (by decide), R 2 (by decide), R 3 (by decide), R 6 (by decide), R 7 (by decide), R 8 (by decide), ax, cx, ay, cy, R 4 (by decide), R 5 (by decide), ha.at⟩
/-- One operation more. -/
theorem OpsSo.more {T : TypeId} {B : Nat} {wc w2 : World} {L : List Opr} {o : Opr} {v v' : Value} {ax ay : Option Addr} {cx cy : Nat} {us : List (List Value)} (hu : us.length = L.length) (h9 : ∀ x ∈ us, x.length = 9)
    (hc : ∀ j, j < L.length → ∃ ax cx ay cy, us.getD j [] = opCells (opAt L j) ax cx ay cy ∧ OpBy wc v (opAt L j) ax cx ay cy) (ha : OpBy wc v o ax cx ay cy)
    (own : w2.ownsRow B T 9 v' (L.length + 1) (us.flatten ++ opCells o ax cx ay cy)) (grow : wc.grownBy w2 v.ownBlock) (ap : v'.ownBlock = v.ownBlock ∨ ∀ g, v'.ownBlock = some g → wc.heap.size ≤ g) : OpsSo T B w2 (L ++ [o]) v' := by
  refine ⟨us ++ [opCells o ax cx ay cy], by rw [List.length_append, List.length_append, hu]; rfl, OwnRec.more h9 rfl (by rw [hu]) own, fun j hj => ?_⟩
  rw [List.length_append, List.length_singleton] at hj
  by_cases e : j = L.length
  · subst e
    refine ⟨ax, cx, ay, cy, ?_, ?_⟩
    · rw [← hu, List.getD_eq_getElem?_getD, List.getElem?_append_right (Nat.le_refl _), Nat.sub_self, hu, show opAt (L ++ [o]) L.length = o from opAt_right (j := 0)]
      rfl
    · rw [show opAt (L ++ [o]) L.length = o from opAt_right (j := 0)]
      exact ⟨ha.1.kept grow ap, ha.2.1.kept grow ap, ha.2.2⟩
  · obtain ⟨a, b, c, d, h1, h2⟩ := hc j (by omega)
    refine ⟨a, b, c, d, ?_, ?_⟩
    · rw [List.getD_eq_getElem?_getD, List.getElem?_append_left (by omega), ← List.getD_eq_getElem?_getD, opAt_left (by omega)]
      exact h1
    · rw [opAt_left (by omega)]
      exact ⟨h2.1.kept grow ap, h2.2.1.kept grow ap, h2.2.2⟩
theorem new_at {w : World} (o : Obj) (l : List Value) (t : TypeId) : ∀ j x, l[j]? = some x → ((w.alloc o).alloc (.cells l.toArray t)).cell? ((⟨w.heap.size + 1, 0, none⟩ : Addr).add j) = some x := by
  have h := new_list (w.alloc o) l t
  rwa [World.size_alloc] at h
/-- What a new operation's weights are beside a row that was there before. -/
theorem OpBy.new {T : TypeId} {w w' : World} {B n : Nat} {v : Value} {xs : List Value} {o : Opr} {ax ay : Option Addr} {cx cy : Nat} (hv : w.ownsRow B T 9 v n xs) (hx : RowNew w' w.heap.size ax o.xs) (hy : RowNew w' w.heap.size ay o.ys) (zx : ax = none → cx = 0) (zy : ay = none → cy = 0) : OpBy w' v o ax cx ay cy := by
  have hne : ∀ b : Nat, w.heap.size ≤ b → v.ownBlock ≠ some b := fun b hb q => by
    have := (World.ownsRow.lt hv b q).2
    omega
  exact ⟨⟨hx.1, fun a e => ⟨hne _ (hx.2 a e).1, (hx.2 a e).2⟩⟩, ⟨hy.1, fun a e => ⟨hne _ (hy.2 a e).1, (hy.2 a e).2⟩⟩, zx, zy⟩
/-- One, where it is known ahead whose word a text is. -/
theorem one_yes {f : List Int → Option Opr} (hf : OneOf f) {p : ByteArray} (hp : p.size ≤ 100000) {o : Opr} (h : f (byt p) = some o) (w : World) :
    Calls Tryd.prog 35 #[.string p] w fun e w' => (∃ ax cx ay cy, e = .returned (.tuple #[opV o ax cx ay cy, .bool true]) ∧ RowNew w' w.heap.size ax o.xs ∧ RowNew w' w.heap.size ay o.ys ∧ (ax = none → cx = 0) ∧ (ay = none → cy = 0)) ∧ Below w.heap.size w w' :=
  (one_any f hf p hp w).mono fun e w' ⟨hA, hB⟩ => by
    rcases hA with ⟨o', ax, cx, ay, cy, h1, h2⟩ | ⟨h1, _⟩
    · obtain rfl := Option.some.inj (h.symm.trans h1)
      exact ⟨⟨ax, cx, ay, cy, h2⟩, hB⟩
    · rw [h] at h1; cases h1
theorem one_no {f : List Int → Option Opr} (hf : OneOf f) {p : ByteArray} (hp : p.size ≤ 100000) (h : f (byt p) = none) (w : World) :
    Calls Tryd.prog 35 #[.string p] w fun e w' => (∃ o ax cx ay cy, e = .returned (.tuple #[opV o ax cx ay cy, .bool false])) ∧ Below w.heap.size w w' :=
  (one_any f hf p hp w).mono fun e w' ⟨hA, hB⟩ => by
    rcases hA with ⟨o', ax, cx, ay, cy, h1, _⟩ | ⟨_, h2⟩
    · rw [h] at h1; cases h1
    · exact ⟨h2, hB⟩
/-! ### Parse -/
def ParseAns (f : List Int → Option Opr) (s : ByteArray) (e : Ending) (w' : World) : Prop :=
  ∃ ad cap, e = .returned (.tuple #[.slice ad (parseW f (byt s)).1.length cap, .int .i64 (if (parseW f (byt s)).2 = true then -1 else ((parseW f (byt s)).1.length : Int))]) ∧ OpsAt w' ad (parseW f (byt s)).1 ∧ (ad = none → cap = 0)
theorem parse_end {f : List Int → Option Opr} {s : ByteArray} {L : List Opr} {b : Bool} (hs : byt s ≠ []) (h : goW f (splitC 59 (byt s)) = (L, b)) {e : Ending} {w' : World} {v : Value} (hv : ∃ T B, OpsSo T B w' L v) (he : e = .returned (.tuple #[v, .int .i64 (if b = true then -1 else (L.length : Int))])) : ParseAns f s e w' := by
  have hp : parseW f (byt s) = (L, b) := by unfold parseW; rw [if_neg hs]; exact h
  unfold ParseAns
  rw [hp]
  obtain ⟨ad, cap, rfl, ho, hz⟩ : ∃ ad cap, v = .slice ad L.length cap ∧ OpsAt w' ad L ∧ (ad = none → cap = 0) := by
    obtain ⟨T, B, h⟩ := hv
    exact h.ops
  exact ⟨ad, cap, he, ho, hz⟩
theorem infoOp13 : (Tryd.prog.info? 34).map (fun i => (i.zero, i.size, i.bytes)) = some (some (.agg #[.int .i64 0, .int .i64 0, .int .i64 0, .int .i64 0, .slice none 0 0, .slice none 0 0, .int .i64 0, .int .i64 0, .int .i64 0]), 9, 104) := by kernel_rfl
set_option maxHeartbeats 8000000 in
set_option maxRecDepth 100000 in
theorem dparse13_any (f : List Int → Option Opr) (hf : OneOf f) (s : ByteArray) (hs : s.size ≤ 100000) (w : World) :
    Calls Tryd.prog 17 #[.string s] w fun e w' => ParseAns f s e w' ∧ Below w.heap.size w w' := by
  cases hb : byt s with
  | nil =>
    have he : s.toList.isEmpty = true := by rw [byt_empty, hb]; rfl
    have HE := hide (show ParseAns f s (.returned (.tuple #[.slice none 0 0, .int .i64 (-1)])) w by
      unfold ParseAns
      rw [show parseW f (byt s) = ([], true) by rw [hb]; rfl]
      exact ⟨none, 0, rfl, .inl rfl, fun _ => rfl⟩)
    clear hb
    go_enter Tryd.func17, Tryd.ntmps17
    go_wp2
    exact bodyPost_ret (v := .tuple #[.slice none 0 0, .int .i64 (-1)]) (by simp [results, Tryd.results17, go_sem]) rfl ⟨HE.out, Below.refl _ _⟩
  | cons x u =>
    have he : s.toList.isEmpty = false := by rw [byt_empty, hb]; rfl
    have HNE := hide (show byt s ≠ [] by rw [hb]; simp)
    obtain ⟨i0, hi, hz0, hz1, hz2⟩ := info_parts infoOp13
    obtain ⟨n, hn⟩ : ∃ n, s.size = n := ⟨_, rfl⟩
    rw [hn] at hs
    have HN := hide hn
    have HF := hide hf
    clear hb hn hf
    go_enter Tryd.func17, Tryd.ntmps17
    go_wp2
    go_loopw [0, 4] (fun a u wr => ∃ (r : ByteArray) (L : List Opr) (v : Value), a = .string r ∧ v = u ∧ Hid (goW f (splitC 59 (byt s)) = (L ++ (goW f (splitC 59 (byt r))).1, (goW f (splitC 59 (byt r))).2)) ∧ Hid (OpsSo 34 w.heap.size wr L v) ∧ L.length + r.size ≤ n ∧ Below w.heap.size w wr) (fun a _ _ => lenOfV a)
    case atStart => exact ⟨s, [], _, rfl, rfl, hide rfl, hide (OpsSo.nil _ _ _), by rw [HN.out]; simp, Below.refl _ _⟩
    case round =>
      obtain ⟨r, L, v, rfl, rfl, hsp, hso, hlen, hbw⟩ := hrel
      have HB := hide hbw
      have hr : r.size ≤ 100000 := by omega
      clear hbw
      rcases dcut_or (c := 59) (by decide) (by decide) (s := r) (by omega) with ⟨p, q, hpq, hp, hsz, CC⟩ | ⟨hm, CC⟩
      · rw [show txt [59] = ⟨#[59]⟩ from rfl] at CC
        have h2 := hsp.out
        rw [cut_head hpq hp] at h2
        cases ho : f (byt p) with
        | none =>
          rw [goW_none ho] at h2
          have CP := fun w => one_no HF.out (p := p) (by omega) ho w
          have HE := hide (fun (w' : World) (b : Below wr.heap.size wr w') (v' : Value) (hv' : v' = v) => show ParseAns f s (.returned (.tuple #[v', .int .i64 (L.length : Int)])) w' from parse_end (b := false) HNE.out (by rw [h2, List.append_nil]) ⟨_, _, hv' ▸ hso.out.below b⟩ rfl)
          obtain ⟨ad, cap, rfl, _, _⟩ := hso.out.ops
          generalize L.length = nL at *
          clear h2 hpq hp ho hsp hso
          unfold opV at CP
          go_wp2_with (first
            | (go_at_call 34; (with_reducible refine (CC _).mono ?_); rintro e w1 ⟨rfl, n1, rfl⟩)
            | (go_at_call 35; (with_reducible refine (CP _).mono ?_); rintro e w2 ⟨⟨o, ax, cx, ay, cy, rfl⟩, b2⟩; have BB := hide (ba (bt (by repeat (first | exact Below.refl _ _ | with_reducible refine bdN ?_ _) : Below wr.heap.size wr _) b2) (.cells #[.int .i64 o.kd, .int .i64 o.bd, .int .i64 o.sg, .int .i64 o.rd, .slice ax o.xs.length cx, .slice ay o.ys.length cy, .int .i64 o.fl, .int .i64 o.wd, .int .i64 o.ht] 34)); clear b2))
          exact bodyPost_ret (v := .tuple #[.slice ad nL cap, .int .i64 nL]) (by simp [results, Tryd.results17, go_sem]) rfl ⟨HE.out _ BB.out _ rfl, bt HB.out BB.out⟩
        | some o =>
          rw [goW_some ho] at h2
          replace h2 : goW f (splitC 59 (byt s)) = ((L ++ [o]) ++ (goW f (splitC 59 (byt q))).1, (goW f (splitC 59 (byt q))).2) := by rw [h2, List.append_assoc]; rfl
          have CP := fun w => one_yes HF.out (p := p) (by omega) ho w
          have HS2 := hide h2
          obtain ⟨us, hu, ⟨how, h9⟩, hc⟩ := hso.out
          rw [hu] at how
          have HOW := hide how
          have HMO := hide (fun (wb wc w2 : World) (v' : Value) (ax ay : Option Addr) (cx cy : Nat) (b1 : Below wr.heap.size wr wb) (b2 : Below wb.heap.size wb wc) (rx : RowNew wb wr.heap.size ax o.xs) (ry : RowNew wb wr.heap.size ay o.ys) (zx : ax = none → cx = 0) (zy : ay = none → cy = 0) (own : w2.ownsRow w.heap.size 34 9 v' (L.length + 1) (us.flatten ++ opCells o ax cx ay cy)) (grow : wc.grownBy w2 v.ownBlock) (ap : v'.ownBlock = v.ownBlock ∨ ∀ g, v'.ownBlock = some g → wc.heap.size ≤ g) => show OpsSo 34 w.heap.size w2 (L ++ [o]) v' from
            OpsSo.more hu h9 (fun j hj => by obtain ⟨a1, a2, a3, a4, a5, a6⟩ := hc j hj; exact ⟨a1, a2, a3, a4, a5, (a6.below b1).below b2⟩) ((OpBy.new (how : wr.ownsRow _ _ 9 v _ _) rx ry zx zy).below b2) own grow ap)
          have HLT := hide (fun g (hg : v.ownBlock = some g) => (World.ownsRow.lt how g hg).1)
          have HONE := hide (fun ax cx ay cy => opCells_one o ax cx ay cy)
          clear h2 hpq hp ho hsp hso hc h9 how
          unfold opV at CP
          unfold opCells at HMO HONE
          obtain ⟨o', ho2⟩ : ∃ o', o = o' := ⟨_, rfl⟩
          have HOO := hide ho2
          have s0 := HB.out.size
          generalize hkd : o.kd = kd at CP HMO HONE
          generalize hbo : o.bd = bo at CP HMO HONE
          generalize hsg : o.sg = sg at CP HMO HONE
          generalize hrd : o.rd = rd at CP HMO HONE
          generalize hnx : o.xs.length = nx at CP HMO HONE
          generalize hny : o.ys.length = ny at CP HMO HONE
          generalize hfl : o.fl = fl at CP HMO HONE
          generalize hwd : o.wd = wd at CP HMO HONE
          generalize hht : o.ht = ht at CP HMO HONE
          clear hkd hbo hsg hrd hnx hny hfl hwd hht ho2 hu
          go_wp2_with (first
            | (go_at_call 34; (with_reducible refine (CC _).mono ?_); rintro e w1 ⟨rfl, n1, rfl⟩)
            | (go_at_call 35; (with_reducible refine (CP _).mono ?_); rintro e w2 ⟨⟨ax, cx, ay, cy, rfl, rx, ry, zx, zy⟩, b2⟩; have B2 := hide (bt (by repeat (first | exact Below.refl _ _ | with_reducible refine bdN ?_ _) : Below wr.heap.size wr _) b2); have RX := hide (And.intro rx (And.intro ry (And.intro zx zy))); have s3 := B2.out.size; clear b2 rx ry zx zy)
            | (at_builtin; refine wpList_append_apart _ rfl _ _ 45 rfl w.heap.size 34 i0 (.agg #[.int .i64 0, .int .i64 0, .int .i64 0, .int .i64 0, .slice none 0 0, .slice none 0 0, .int .i64 0, .int .i64 0, .int .i64 0]) 9 104 Tryd.underlying45 hi hz0 hz1 hz2 rfl (by decide) v L.length us.flatten rfl (recs_below HOW.out (ba (ba B2.out _) _)) ⟨w2.heap.size + 1, 0, none⟩ 1 1 [.int .i64 kd, .int .i64 bo, .int .i64 sg, .int .i64 rd, .slice ax nx cx, .slice ay ny cy, .int .i64 fl, .int .i64 wd, .int .i64 ht] rfl rfl (new_at _ _ _) (HONE.out _ _ _ _) (by unfold maxLen; omega) (by omega) (by simp; omega) ?_; intro v' w4 own4 grow4 ap4))
          have B4 : Below w.heap.size w w4 := (ba (ba (bt HB.out B2.out) _) _).grown grow4 (by simp; omega) HLT.out
          have M4 := hide (HMO.out w2 _ w4 v' ax ay cx cy B2.out (ba (below1 _ _) _) RX.out.1 RX.out.2.1 RX.out.2.2.1 RX.out.2.2.2 own4 grow4 ap4)
          have HB4 := hide B4
          clear own4 grow4 ap4 B4
          go_wp2
          go_roundw
          case rel => exact ⟨q, L ++ [o], _, rfl, rfl, HS2, hide M4.out, by rw [List.length_append, List.length_singleton]; omega, HB4.out⟩
          case measure => show q.size < r.size; omega
      · rw [show txt [59] = ⟨#[59]⟩ from rfl] at CC
        have h2 := hsp.out
        rw [splitC_no hm] at h2
        cases ho : f (byt r) with
        | none =>
          rw [goW_none ho] at h2
          have CP := fun w => one_no HF.out (p := r) (by omega) ho w
          have HE := hide (fun (w' : World) (b : Below wr.heap.size wr w') (v' : Value) (hv' : v' = v) => show ParseAns f s (.returned (.tuple #[v', .int .i64 (L.length : Int)])) w' from parse_end (b := false) HNE.out (by rw [h2, List.append_nil]) ⟨_, _, hv' ▸ hso.out.below b⟩ rfl)
          obtain ⟨ad, cap, rfl, _, _⟩ := hso.out.ops
          generalize L.length = nL at *
          clear h2 hm ho hsp hso
          unfold opV at CP
          go_wp2_with (first
            | (go_at_call 34; (with_reducible refine (CC _).mono ?_); rintro e w1 ⟨rfl, n1, rfl⟩)
            | (go_at_call 35; (with_reducible refine (CP _).mono ?_); rintro e w2 ⟨⟨o, ax, cx, ay, cy, rfl⟩, b2⟩; have BB := hide (ba (bt (by repeat (first | exact Below.refl _ _ | with_reducible refine bdN ?_ _) : Below wr.heap.size wr _) b2) (.cells #[.int .i64 o.kd, .int .i64 o.bd, .int .i64 o.sg, .int .i64 o.rd, .slice ax o.xs.length cx, .slice ay o.ys.length cy, .int .i64 o.fl, .int .i64 o.wd, .int .i64 o.ht] 34)); clear b2))
          exact bodyPost_ret (v := .tuple #[.slice ad nL cap, .int .i64 nL]) (by simp [results, Tryd.results17, go_sem]) rfl ⟨HE.out _ BB.out _ rfl, bt HB.out BB.out⟩
        | some o =>
          rw [goW_some ho] at h2
          replace h2 : goW f (splitC 59 (byt s)) = (L ++ [o], true) := h2
          have CP := fun w => one_yes HF.out (p := r) (by omega) ho w
          have HS2 := hide h2
          obtain ⟨us, hu, ⟨how, h9⟩, hc⟩ := hso.out
          rw [hu] at how
          have HOW := hide how
          have HMO := hide (fun (wb wc w2 : World) (v' : Value) (ax ay : Option Addr) (cx cy : Nat) (b1 : Below wr.heap.size wr wb) (b2 : Below wb.heap.size wb wc) (rx : RowNew wb wr.heap.size ax o.xs) (ry : RowNew wb wr.heap.size ay o.ys) (zx : ax = none → cx = 0) (zy : ay = none → cy = 0) (own : w2.ownsRow w.heap.size 34 9 v' (L.length + 1) (us.flatten ++ opCells o ax cx ay cy)) (grow : wc.grownBy w2 v.ownBlock) (ap : v'.ownBlock = v.ownBlock ∨ ∀ g, v'.ownBlock = some g → wc.heap.size ≤ g) => show OpsSo 34 w.heap.size w2 (L ++ [o]) v' from
            OpsSo.more hu h9 (fun j hj => by obtain ⟨a1, a2, a3, a4, a5, a6⟩ := hc j hj; exact ⟨a1, a2, a3, a4, a5, (a6.below b1).below b2⟩) ((OpBy.new (how : wr.ownsRow _ _ 9 v _ _) rx ry zx zy).below b2) own grow ap)
          have HLT := hide (fun g (hg : v.ownBlock = some g) => (World.ownsRow.lt how g hg).1)
          have HONE := hide (fun ax cx ay cy => opCells_one o ax cx ay cy)
          clear h2 hm ho hsp hso hc h9 how
          unfold opV at CP
          unfold opCells at HMO HONE
          obtain ⟨o', ho2⟩ : ∃ o', o = o' := ⟨_, rfl⟩
          have HOO := hide ho2
          have s0 := HB.out.size
          generalize hkd : o.kd = kd at CP HMO HONE
          generalize hbo : o.bd = bo at CP HMO HONE
          generalize hsg : o.sg = sg at CP HMO HONE
          generalize hrd : o.rd = rd at CP HMO HONE
          generalize hnx : o.xs.length = nx at CP HMO HONE
          generalize hny : o.ys.length = ny at CP HMO HONE
          generalize hfl : o.fl = fl at CP HMO HONE
          generalize hwd : o.wd = wd at CP HMO HONE
          generalize hht : o.ht = ht at CP HMO HONE
          clear hkd hbo hsg hrd hnx hny hfl hwd hht ho2 hu
          go_wp2_with (first
            | (go_at_call 34; (with_reducible refine (CC _).mono ?_); rintro e w1 ⟨rfl, n1, rfl⟩)
            | (go_at_call 35; (with_reducible refine (CP _).mono ?_); rintro e w2 ⟨⟨ax, cx, ay, cy, rfl, rx, ry, zx, zy⟩, b2⟩; have B2 := hide (bt (by repeat (first | exact Below.refl _ _ | with_reducible refine bdN ?_ _) : Below wr.heap.size wr _) b2); have RX := hide (And.intro rx (And.intro ry (And.intro zx zy))); have s3 := B2.out.size; clear b2 rx ry zx zy)
            | (at_builtin; refine wpList_append_apart _ rfl _ _ 45 rfl w.heap.size 34 i0 (.agg #[.int .i64 0, .int .i64 0, .int .i64 0, .int .i64 0, .slice none 0 0, .slice none 0 0, .int .i64 0, .int .i64 0, .int .i64 0]) 9 104 Tryd.underlying45 hi hz0 hz1 hz2 rfl (by decide) v L.length us.flatten rfl (recs_below HOW.out (ba (ba B2.out _) _)) ⟨w2.heap.size + 1, 0, none⟩ 1 1 [.int .i64 kd, .int .i64 bo, .int .i64 sg, .int .i64 rd, .slice ax nx cx, .slice ay ny cy, .int .i64 fl, .int .i64 wd, .int .i64 ht] rfl rfl (new_at _ _ _) (HONE.out _ _ _ _) (by unfold maxLen; omega) (by omega) (by simp; omega) ?_; intro v' w4 own4 grow4 ap4))
          have B4 : Below w.heap.size w w4 := (ba (ba (bt HB.out B2.out) _) _).grown grow4 (by simp; omega) HLT.out
          have M4 := hide (HMO.out w2 _ w4 v' ax ay cx cy B2.out (ba (below1 _ _) _) RX.out.1 RX.out.2.1 RX.out.2.2.1 RX.out.2.2.2 own4 grow4 ap4)
          have HB4 := hide B4
          clear own4 grow4 ap4 B4
          go_wp2
          obtain ⟨ad', cap', rfl, ho', hz'⟩ := M4.out.ops
          have HE := hide (show ParseAns f s (.returned (.tuple #[.slice ad' (L ++ [o]).length cap', .int .i64 (-1)])) w4 from parse_end (b := true) HNE.out HS2.out ⟨_, _, M4.out⟩ rfl)
          clear ho' hz' M4
          generalize (L ++ [o]).length = nL at *
          go_wp2
          exact bodyPost_ret (v := .tuple #[.slice ad' nL cap', .int .i64 (-1)]) (by simp [results, Tryd.results17, go_sem]) rfl ⟨HE.out, HB4.out⟩
end Go.Proofs.YtlknopmpbkepjaaDoor
