/- Parts, joined. -/
import Derived.Test.YtaafhjngnjjcmaaGreatDoorJ31
import Derived.Test.YtaafhjngnjjcmaaGreatDoorJ25
import Derived.Test.YtaafhjngnjjcmaaGreatDoorJ27
import Derived.Test.YtaafhjngnjjcmaaGreatDoorJ26
import Derived.Deep.RegionHeld3
/- Operations: the document's Make, of whatever operation. -/
namespace Go.Proofs.YtaafhjngnjjcmaaGreatDoor
open Go.RowKit


theorem dmake_any (o : Opr) (ax : Option Addr) (cx : Nat) (ay : Option Addr) (cy : Nat) (a b : Int) (w : World) (hA : OpAt w o ax cx ay cy) (hF : OpFits o) :
    Calls Tryz.prog 75 #[opV o ax cx ay cy, .int .i64 a, .int .i64 b] w fun e w' => MakeRef w.heap.size e w' (opCode o a b) (stgOf o a b) ∧ Below w.heap.size w w' := by
  cases h : okO o a b with
  | false =>
    refine (dmake_bad o ax cx ay cy a b w h).mono ?_
    rintro e w1 ⟨rfl, bb⟩
    have hc : opCode o a b = 6 := by unfold opCode; rw [if_pos h]
    rw [hc]
    exact ⟨.inl ⟨by decide, rfl⟩, bb⟩
  | true =>
    obtain ⟨⟨k0, k1⟩, _⟩ := (okO_iff o a b).1 h
    rcases (show o.kd = 0 ∨ o.kd = 1 ∨ o.kd = 2 ∨ o.kd = 3 by omega) with k | k | k | k
    · exact dmake_none o ax cx ay cy a b w h k
    · exact dmake_one o ax cx ay cy a b w h k
    · exact dmake_two o ax cx ay cy a b w h k hA hF
    · exact dmake_three o ax cx ay cy a b w h k
end Go.Proofs.YtaafhjngnjjcmaaGreatDoor

/- Operations: the document's All. -/
namespace Go.Proofs.YtaafhjngnjjcmaaGreatDoor
open Go.RowKit


theorem infoStgR : (Tryz.prog.info? 57).map (fun i => (i.zero, i.size, i.bytes)) = some (some (.agg #[.slice none 0 0, .slice none 0 0, .int .i64 0, .int .i64 0, .int .i64 0]), 5, 72) := by kernel_rfl
/-- The cells of one of the document's stages. -/
def refCells (x y : Value) (S : Stg) : List Value := [x, y, .int .i64 S.fx, .int .i64 S.fy, .int .i64 S.sb]
/-- The document's stages so far, in a row of the call's own. -/
def StgSo (B : Nat) (w : World) (F : Nat → Stg) (k : Nat) (v : Value) : Prop :=
  ∃ us, us.length = k ∧ OwnRec 57 5 w B v us ∧ ∀ j, j < k → ∃ x y, us.getD j [] = refCells x y (F j) ∧ OwnLs 100 w B x (F j).lx ∧ OwnLs 100 w B y (F j).ly
theorem OwnLs.kept {T U : TypeId} {w w' : World} {base base' n k : Nat} {v y : Value} {xs : List Value} {L : List (Int × List Int)} (hTU : T ≠ U) (hIU : 2 ≠ U) (h : OwnLs T w base y L) (hv : w.ownsRow base' U k v n xs) (hg : w.grownBy w' v.ownBlock) : OwnLs T w' base y L := by
  obtain ⟨us, h1, h2, h3⟩ := h
  refine ⟨us, h1, World.ownsRow.kept h2 hg ?_, fun j hj => (h3 j hj).kept hg (own_apart hIU (h3 j hj) hv)⟩
  have ap := own_apart hTU h2 hv
  rcases e : y.ownBlock with _ | g
  · exact Or.inl rfl
  · exact Or.inr (fun q => ap g e q.symm)
theorem OwnLs.alloc {T : TypeId} {w : World} {base : Nat} {v : Value} {L : List (Int × List Int)} (h : OwnLs T w base v L) (o : Obj) : OwnLs T (w.alloc o) base v L := h.below (below1 w o)
theorem StgSo.below {B : Nat} {w w' : World} {F : Nat → Stg} {k : Nat} {v : Value} (h : StgSo B w F k v) (hb : Below w.heap.size w w') : StgSo B w' F k v := by
  obtain ⟨us, hu, ho, hc⟩ := h
  refine ⟨us, hu, ho.below hb, fun j hj => ?_⟩
  obtain ⟨x, y, e, a, b⟩ := hc j hj
  exact ⟨x, y, e, a.below hb, b.below hb⟩
/-- One stage more. -/
theorem StgSo.more {B : Nat} {wc w2 : World} {F : Nat → Stg} {k : Nat} {v v' x y : Value} {us : List (List Value)} (hu : us.length = k) (ho : OwnRec 57 5 wc B v us) (hc : ∀ j, j < k → ∃ x y, us.getD j [] = refCells x y (F j) ∧ OwnLs 100 wc B x (F j).lx ∧ OwnLs 100 wc B y (F j).ly)
    (hx : OwnLs 100 wc B x (F k).lx) (hy : OwnLs 100 wc B y (F k).ly) (own : w2.ownsRow B 57 5 v' (k + 1) (us.flatten ++ refCells x y (F k))) (grow : wc.grownBy w2 v.ownBlock) : StgSo B w2 F (k + 1) v' := by
  have K : ∀ {z : Value} {L : List (Int × List Int)}, OwnLs 100 wc B z L → OwnLs 100 w2 B z L := fun h => h.kept (by decide) (by decide) ho.1 grow
  refine ⟨us ++ [refCells x y (F k)], by rw [List.length_append, hu]; rfl, OwnRec.more ho.2 rfl (by rw [hu]) own, fun j hj => ?_⟩
  by_cases e : j = k
  · subst e
    refine ⟨x, y, ?_, K hx, K hy⟩
    rw [← hu, List.getD_eq_getElem?_getD, List.getElem?_append_right (Nat.le_refl _), Nat.sub_self]
    rfl
  · obtain ⟨x', y', h1, h2, h3⟩ := hc j (by omega)
    refine ⟨x', y', ?_, K h2, K h3⟩
    rw [List.getD_eq_getElem?_getD, List.getElem?_append_left (by omega), ← List.getD_eq_getElem?_getD]
    exact h1
/-- As stages that can be read. -/
def StgsRef (w : World) (ad : Option Addr) (n : Nat) (F : Nat → Stg) : Prop :=
  n = 0 ∨ ∃ b, ad = some ⟨b, 0, none⟩ ∧ ∀ j, j < n → ∃ gx px gy py, w.cell? ⟨b, j * 5, none⟩ = some (.slice (some ⟨gx, 0, none⟩) (F j).lx.length px) ∧ w.cell? ⟨b, j * 5 + 1, none⟩ = some (.slice (some ⟨gy, 0, none⟩) (F j).ly.length py) ∧ w.cell? ⟨b, j * 5 + 2, none⟩ = some (.int .i64 (F j).fx) ∧ w.cell? ⟨b, j * 5 + 3, none⟩ = some (.int .i64 (F j).fy) ∧ w.cell? ⟨b, j * 5 + 4, none⟩ = some (.int .i64 (F j).sb) ∧ LinesAt w gx (F j).lx ∧ LinesAt w gy (F j).ly
theorem StgSo.read {B : Nat} {w : World} {F : Nat → Stg} {k : Nat} {v : Value} (h : StgSo B w F k v) (hne : ∀ j, j < k → (F j).lx ≠ [] ∧ (F j).ly ≠ []) : ∃ ad cap, v = .slice ad k cap ∧ StgsRef w ad k F := by
  obtain ⟨us, hu, ho, hc⟩ := h
  by_cases e : us = []
  · subst e
    obtain ⟨ad, cap, rfl, _, _⟩ := ho.form rfl
    have hk0 : k = 0 := by simpa using hu.symm
    subst hk0
    exact ⟨ad, cap, rfl, .inl rfl⟩
  · obtain ⟨g, cap, rfl, _, _, _, hr⟩ := ho.read e
    rw [hu]
    refine ⟨_, cap, rfl, .inr ⟨g, rfl, fun j hj => ?_⟩⟩
    obtain ⟨x, y, hcell, ox, oy⟩ := hc j (by omega)
    obtain ⟨n1, n2⟩ := hne j hj
    obtain ⟨gx, px, rfl, _, rx⟩ := ox.read n1
    obtain ⟨gy, py, rfl, _, ry⟩ := oy.read n2
    have R := hr j (by omega)
    unfold recAt at R
    rw [hcell] at R
    exact ⟨gx, px, gy, py, R 0 (by decide), R 1 (by decide), R 2 (by decide), R 3 (by decide), R 4 (by decide), rx, ry⟩
theorem stg_ne {o : Opr} {a b : Int} (h : opCode o a b = 0) : (stgOf o a b).lx ≠ [] ∧ (stgOf o a b).ly ≠ [] := by
  have ho : okO o a b = true := by
    cases e : okO o a b with
    | true => rfl
    | false =>
      unfold opCode at h
      rw [if_pos e] at h
      cases h
  obtain ⟨_, _, ⟨a0, a1⟩, ⟨b0, b1⟩, hr⟩ := (okO_iff o a b).1 ho
  by_cases k : o.kd = 3
  · obtain ⟨⟨w0, _⟩, ⟨t0, _⟩, _⟩ := hr k
    have e1 : (stgOf o a b).lx = linesTo o.fl a o.wd o.wd.toNat := if_pos k
    have e2 : (stgOf o a b).ly = linesTo o.fl b o.ht o.ht.toNat := if_pos k
    have l1 := linesTo_len o.fl a o.wd o.wd.toNat
    have l2 := linesTo_len o.fl b o.ht o.ht.toNat
    rw [e1, e2]
    exact ⟨fun e => by rw [e] at l1; simp at l1; omega, fun e => by rw [e] at l2; simp at l2; omega⟩
  · have e1 : (stgOf o a b).lx = filTo (wX o) a.toNat := if_neg k
    have e2 : (stgOf o a b).ly = filTo (wY o) b.toNat := if_neg k
    have l1 := filTo_len (wX o) a.toNat
    have l2 := filTo_len (wY o) b.toNat
    rw [e1, e2]
    exact ⟨fun e => by rw [e] at l1; simp at l1; omega, fun e => by rw [e] at l2; simp at l2; omega⟩
theorem step_op {L : List Opr} {a b c : Int} {k : Nat} (h : opCode (opAt L k) (whAt L a b k).1 (whAt L a b k).2 ≠ 0) : stepCode L a b c k = opCode (opAt L k) (whAt L a b k).1 (whAt L a b k).2 := if_pos h
theorem step_fit {L : List Opr} {a b c : Int} {k : Nat} (h : opCode (opAt L k) (whAt L a b k).1 (whAt L a b k).2 = 0) : stepCode L a b c k = if fitsF (toW (opAt L k) (whAt L a b k).1) (toH (opAt L k) (whAt L a b k).2) c = true then 0 else 5 := if_neg (fun q => q h)
/-- What the document's All answers. -/
def AllRef (B : Nat) (e : Ending) (w' : World) (k : Int) (n : Nat) (F : Nat → Stg) : Prop :=
  (k ≠ 0 ∧ e = .returned (.tuple #[.slice none 0 0, .int .i64 k])) ∨ (k = 0 ∧ ∃ v, e = .returned (.tuple #[v, .int .i64 0]) ∧ StgSo B w' F n v)
set_option maxHeartbeats 4000000 in
set_option maxRecDepth 100000 in
theorem dall_any (L : List Opr) (n : Nat) (hn : L.length = n) (h1 : n ≤ maxLen) (ad : Option Addr) (cap : Nat) (a b c : Int) (w : World) (hr : OpsAt w ad L) (hF : OpsFit L) :
    Calls Tryz.prog 41 #[.slice ad n cap, .int .i64 a, .int .i64 b, .int .i64 c] w fun e w' => AllRef w.heap.size e w' (allCode L a b c) n (stgAt L a b) ∧ Below w.heap.size w w' := by
  have hm : n ≤ 9223372036854775807 := h1
  by_cases h16 : 16 < n
  · have e : allCode L a b c = 6 := if_pos (by rw [hn]; exact h16)
    rw [e]
    have HA := hide (fun (w' : World) => show AllRef w.heap.size (.returned (.tuple #[.slice none 0 0, .int .i64 6])) w' 6 n (stgAt L a b) from .inl ⟨by decide, rfl⟩)
    clear hr hF hn h1 e
    go_enter Tryz.func41, Tryz.ntmps41
    go_wp2
    exact bodyPost_ret (v := .tuple #[.slice none 0 0, .int .i64 6]) (by simp [results, Tryz.results41, go_sem]) rfl ⟨HA.out _, Below.refl _ _⟩
  have CFT := fun w => dfits_any a b c w
  by_cases hft : fitsF a b c = true
  case neg =>
    have e : allCode L a b c = 5 := (if_neg (by rw [hn]; exact h16)).trans (if_pos (by simpa using hft))
    rw [e]
    have HA := hide (fun (w' : World) => show AllRef w.heap.size (.returned (.tuple #[.slice none 0 0, .int .i64 5])) w' 5 n (stgAt L a b) from .inl ⟨by decide, rfl⟩)
    rw [show fitsF a b c = false by simpa using hft] at CFT
    clear hr hF hn h1 e hft
    go_enter Tryz.func41, Tryz.ntmps41
    go_wp2_with (go_at_call 32; (with_reducible refine (CFT _).mono ?_); rintro e w1 ⟨rfl, rfl⟩)
    exact bodyPost_ret (v := .tuple #[.slice none 0 0, .int .i64 5]) (by simp [results, Tryz.results41, go_sem]) rfl ⟨HA.out _, Below.refl _ _⟩
  have e0 : allCode L a b c = firstA L a b c n := by
    unfold allCode
    rw [if_neg (by rw [hn]; exact h16), if_neg (by rw [hft]; decide), hn]
  rw [e0]
  rw [hft] at CFT
  have HBAD := hide (fun (k : Nat) (w' : World) (hk : k < n) (hf : firstA L a b c k = 0) (hs : stepCode L a b c k ≠ 0) => show AllRef w.heap.size (.returned (.tuple #[.slice none 0 0, .int .i64 (stepCode L a b c k)])) w' (firstA L a b c n) n (stgAt L a b) by
    rw [firstA_step hf hs hk]
    exact .inl ⟨hs, rfl⟩)
  have HR := hide hr
  have HN := hide hn
  have HF := hide hF
  obtain ⟨i0, hi, hz0, hz1, hz2⟩ := info_parts infoStgR
  clear hr hF hn h1 e0 hft
  go_enter Tryz.func41, Tryz.ntmps41
  go_wp2_with (go_at_call 32; (with_reducible refine (CFT _).mono ?_); rintro e w1 ⟨rfl, rfl⟩)
  go_loopw [1, 2, 10, 25] (fun p q u i wr => ∃ (k : Nat) (v : Value), k ≤ n ∧ v = u ∧ i = .int .i64 (k : Int) ∧ p = .int .i64 (whAt L a b k).1 ∧ q = .int .i64 (whAt L a b k).2 ∧ Hid (firstA L a b c k = 0) ∧ StgSo w.heap.size wr (stgAt L a b) k v ∧ Below w.heap.size w wr) (fun _ _ _ i _ => n - (intOf i).toNat)
  case atStart => exact ⟨0, _, by omega, rfl, rfl, rfl, rfl, hide rfl, ⟨[], rfl, OwnRec.nil _ _ _ _, fun j hj => absurd hj (Nat.not_lt_zero _)⟩, Below.refl _ _⟩
  case round =>
    clear CFT
    obtain ⟨k, v, hk, rfl, rfl, rfl, rfl, hf, hs, hb⟩ := hrel
    have HB := hide hb
    by_cases hlt : k < n
    · obtain ⟨bl, off, rfl, hop⟩ := HR.out.get (show k < L.length by rw [HN.out]; exact hlt)
      obtain ⟨g0, g1, g2, g3, g6, g7, g8, ax, cx, ay, cy, g4, g5, ga⟩ := hop.below hb
      have HBADk := hide (fun w' hs => HBAD.out k w' hlt hf.out hs)
      have hfit := HF.out k (by rw [HN.out]; exact hlt)
      have CD := fun w' (b' : Below wr.heap.size wr w') => dmake_any (opAt L k) ax cx ay cy (whAt L a b k).1 (whAt L a b k).2 w' (ga.below b') hfit
      have CZ := fun w' => dsize12_any (opAt L k) ax cx ay cy (whAt L a b k).1 (whAt L a b k).2 w'
      have CF := fun w' => dfits_any (toW (opAt L k) (whAt L a b k).1) (toH (opAt L k) (whAt L a b k).2) c w'
      have P0 := hide (P9.new wr 119 (opAt L k).kd (opAt L k).bd (opAt L k).sg (opAt L k).rd (.slice ax (opAt L k).xs.length cx) (.slice ay (opAt L k).ys.length cy) (opAt L k).fl (opAt L k).wd (opAt L k).ht)
      have so := step_op (L := L) (a := a) (b := b) (c := c) (k := k)
      have sf := step_fit (L := L) (a := a) (b := b) (c := c) (k := k)
      have sn := stg_ne (o := opAt L k) (a := (whAt L a b k).1) (b := (whAt L a b k).2)
      have HS := hide hs
      unfold opV at CD CZ
      clear ga hfit hs hb hop
      by_cases hz : opCode (opAt L k) (whAt L a b k).1 (whAt L a b k).2 = 0
      case neg =>
        have CD2 : ∀ w', Below wr.heap.size wr w' → Calls Tryz.prog 75 #[.agg #[.int .i64 (opAt L k).kd, .int .i64 (opAt L k).bd, .int .i64 (opAt L k).sg, .int .i64 (opAt L k).rd, .slice ax (opAt L k).xs.length cx, .slice ay (opAt L k).ys.length cy, .int .i64 (opAt L k).fl, .int .i64 (opAt L k).wd, .int .i64 (opAt L k).ht], .int .i64 (whAt L a b k).1, .int .i64 (whAt L a b k).2] w' fun e w'' => e = .returned (.tuple #[.agg #[.slice none 0 0, .slice none 0 0, .int .i64 0, .int .i64 0, .int .i64 0], .int .i64 (opCode (opAt L k) (whAt L a b k).1 (whAt L a b k).2)]) ∧ Below w'.heap.size w' w'' := fun w' b' =>
          (CD w' b').mono fun e w'' ⟨hA, hB⟩ => by
            rcases hA with ⟨_, he⟩ | ⟨h0, _⟩
            · exact ⟨he, hB⟩
            · exact absurd h0 hz
        have HE := hide (fun w' => by have := HBADk.out w' (by rw [so hz]; exact hz); rw [so hz] at this; exact this)
        have qz : (opCode (opAt L k) (whAt L a b k).1 (whAt L a b k).2 != 0) = true := bne_iff_ne.2 hz
        clear CD CZ CF so sf sn hz HBADk HBAD
        generalize opCode (opAt L k) (whAt L a b k).1 (whAt L a b k).2 = oc at *
        generalize (whAt L a b k).1 = p at *
        generalize (whAt L a b k).2 = q at *
        generalize (opAt L k).kd = kd at *
        generalize (opAt L k).bd = bd at *
        generalize (opAt L k).sg = sg at *
        generalize (opAt L k).rd = rd at *
        generalize (opAt L k).xs.length = nx at *
        generalize (opAt L k).ys.length = ny at *
        generalize (opAt L k).fl = fl at *
        generalize (opAt L k).wd = wd at *
        generalize (opAt L k).ht = ht at *
        go_wp2_with (go_at_call 75; (with_reducible refine (CD2 _ (below1 _ _)).mono ?_); rintro e w3 ⟨rfl, b3⟩)
        exact bodyPost_ret (v := .tuple #[.slice none 0 0, .int .i64 oc]) (by simp [results, Tryz.results41, go_sem]) rfl ⟨HE.out _, ba (bt (ba HB.out _) b3) _⟩
      have CD2 : ∀ w', Below wr.heap.size wr w' → Calls Tryz.prog 75 #[.agg #[.int .i64 (opAt L k).kd, .int .i64 (opAt L k).bd, .int .i64 (opAt L k).sg, .int .i64 (opAt L k).rd, .slice ax (opAt L k).xs.length cx, .slice ay (opAt L k).ys.length cy, .int .i64 (opAt L k).fl, .int .i64 (opAt L k).wd, .int .i64 (opAt L k).ht], .int .i64 (whAt L a b k).1, .int .i64 (whAt L a b k).2] w' fun e w'' => (∃ gx px gy py n1 n2, e = .returned (.tuple #[.agg #[.slice (some ⟨gx, 0, none⟩) n1 px, .slice (some ⟨gy, 0, none⟩) n2 py, .int .i64 (stgAt L a b k).fx, .int .i64 (stgAt L a b k).fy, .int .i64 (stgAt L a b k).sb], .int .i64 0]) ∧ OwnLs 100 w'' w'.heap.size (.slice (some ⟨gx, 0, none⟩) n1 px) (stgAt L a b k).lx ∧ OwnLs 100 w'' w'.heap.size (.slice (some ⟨gy, 0, none⟩) n2 py) (stgAt L a b k).ly) ∧ Below w'.heap.size w' w'' := fun w' b' =>
        (CD w' b').mono fun e w'' ⟨hA, hB⟩ => by
          rcases hA with ⟨h0, _⟩ | ⟨_, x, y, he, ox, oy⟩
          · exact absurd hz h0
          · obtain ⟨gx, px, rfl, _, _⟩ := ox.read (sn hz).1
            obtain ⟨gy, py, rfl, _, _⟩ := oy.read (sn hz).2
            exact ⟨⟨gx, px, gy, py, _, _, he, ox, oy⟩, hB⟩
      have hstep := sf hz
      have HM := hide (fun (wc w2 : World) (u u' x y : Value) (us : List (List Value)) (hu : us.length = k) (ho : OwnRec 57 5 wc w.heap.size u us) (hc : ∀ j, j < k → ∃ x y, us.getD j [] = refCells x y (stgAt L a b j) ∧ OwnLs 100 wc w.heap.size x (stgAt L a b j).lx ∧ OwnLs 100 wc w.heap.size y (stgAt L a b j).ly)
        (hx : OwnLs 100 wc w.heap.size x (stgAt L a b k).lx) (hy : OwnLs 100 wc w.heap.size y (stgAt L a b k).ly) (own : w2.ownsRow w.heap.size 57 5 u' (k + 1) (us.flatten ++ [x, y, .int .i64 (stgAt L a b k).fx, .int .i64 (stgAt L a b k).fy, .int .i64 (stgAt L a b k).sb])) (grow : wc.grownBy w2 u.ownBlock) => StgSo.more hu ho hc hx hy own grow)
      have HW1 := hide (show toW (opAt L k) (whAt L a b k).1 = (whAt L a b (k + 1)).1 from rfl)
      have HW2 := hide (show toH (opAt L k) (whAt L a b k).2 = (whAt L a b (k + 1)).2 from rfl)
      clear CD so sf sn hz HBAD
      by_cases hq : fitsF (toW (opAt L k) (whAt L a b k).1) (toH (opAt L k) (whAt L a b k).2) c = true
      case neg =>
        rw [if_neg hq] at hstep
        have HE := hide (fun w' => by have := HBADk.out w' (by rw [hstep]; decide); rw [hstep] at this; exact this)
        rw [show fitsF (toW (opAt L k) (whAt L a b k).1) (toH (opAt L k) (whAt L a b k).2) c = false by simpa using hq] at CF
        clear hstep hq HBADk HM HW1 HW2
        generalize toW (opAt L k) (whAt L a b k).1 = p' at *
        generalize toH (opAt L k) (whAt L a b k).2 = q' at *
        generalize (whAt L a b k).1 = p at *
        generalize (whAt L a b k).2 = q at *
        generalize (stgAt L a b k).fx = fx at *
        generalize (stgAt L a b k).fy = fy at *
        generalize (stgAt L a b k).sb = sb at *
        generalize (opAt L k).kd = kd at *
        generalize (opAt L k).bd = bd at *
        generalize (opAt L k).sg = sg at *
        generalize (opAt L k).rd = rd at *
        generalize (opAt L k).xs.length = nx at *
        generalize (opAt L k).ys.length = ny at *
        generalize (opAt L k).fl = fl at *
        generalize (opAt L k).wd = wd at *
        generalize (opAt L k).ht = ht at *
        go_wp2_with (first
          | (go_at_call 75; (with_reducible refine (CD2 _ (below1 _ _)).mono ?_); rintro e w3 ⟨⟨gx, px, gy, py, n1, n2, rfl, _, _⟩, b3⟩; have P3 := (P0.out.below b3).below (below1 w3 (.cells #[.slice (some ⟨gx, 0, none⟩) n1 px, .slice (some ⟨gy, 0, none⟩) n2 py, .int .i64 fx, .int .i64 fy, .int .i64 sb] 57)); obtain ⟨a0, a1, a2, a3, a4, a5, a6, a7, a8⟩ := P3)
          | (go_at_call 76; (with_reducible refine (CZ _).mono ?_); rintro e w4 ⟨rfl, b4⟩)
          | (go_at_call 32; (with_reducible refine (CF _).mono ?_); rintro e w5 ⟨rfl, rfl⟩))
        exact bodyPost_ret (v := .tuple #[.slice none 0 0, .int .i64 5]) (by simp [results, Tryz.results41, go_sem]) rfl ⟨HE.out _, bt (ba (bt (ba HB.out _) b3) _) b4⟩
      rw [if_pos hq] at hstep
      rw [hq] at CF
      have hfn := hide (firstA_next hf.out hstep)
      obtain ⟨us, hu, ho, hc⟩ := HS.out
      have HU := hide hu
      have HO := hide ho
      have HC := hide hc
      have hw0 := HB.out.size
      clear hstep hq HBADk HS hu ho hc hf
      rw [show toW (opAt L k) (whAt L a b k).1 = (whAt L a b (k + 1)).1 from rfl, show toH (opAt L k) (whAt L a b k).2 = (whAt L a b (k + 1)).2 from rfl] at CZ CF
      generalize (whAt L a b k).1 = p at *
      generalize (whAt L a b k).2 = q at *
      generalize (stgAt L a b k).fx = fx at *
      generalize (stgAt L a b k).fy = fy at *
      generalize (stgAt L a b k).sb = sb at *
      generalize (opAt L k).kd = kd at *
      generalize (opAt L k).bd = bd at *
      generalize (opAt L k).sg = sg at *
      generalize (opAt L k).rd = rd at *
      generalize (opAt L k).xs.length = nx at *
      generalize (opAt L k).ys.length = ny at *
      generalize (opAt L k).fl = fl at *
      generalize (opAt L k).wd = wd at *
      generalize (opAt L k).ht = ht at *
      have ONE : ∀ (gx n1 px gy n2 py : Nat), ∀ u ∈ [Value.slice (some ⟨gx, 0, none⟩) n1 px, .slice (some ⟨gy, 0, none⟩) n2 py, .int .i64 fx, .int .i64 fy, .int .i64 sb], u.oneCell' = true := by
        intro gx n1 px gy n2 py u hu
        simp only [List.mem_cons, List.not_mem_nil, or_false] at hu
        rcases hu with rfl | rfl | rfl | rfl | rfl <;> rfl
      have HONE := hide ONE
      clear ONE
      go_wp2_with (first
        | (go_at_call 75; (with_reducible refine (CD2 _ (below1 _ _)).mono ?_); rintro e w3 ⟨⟨gx, px, gy, py, n1, n2, rfl, ox, oy⟩, b3⟩; have P3 := (P0.out.below b3).below (below1 w3 (.cells #[.slice (some ⟨gx, 0, none⟩) n1 px, .slice (some ⟨gy, 0, none⟩) n2 py, .int .i64 fx, .int .i64 fy, .int .i64 sb] 57)); obtain ⟨a0, a1, a2, a3, a4, a5, a6, a7, a8⟩ := P3; have HOX := hide ox; have HOY := hide oy; clear ox oy; have s3 := b3.size; simp at s3)
        | (go_at_call 76; (with_reducible refine (CZ _).mono ?_); rintro e w4 ⟨rfl, b4⟩; have T4 := S5.below (S5.new w3 57 (.slice (some ⟨gx, 0, none⟩) n1 px) (.slice (some ⟨gy, 0, none⟩) n2 py) (.int .i64 fx) (.int .i64 fy) (.int .i64 sb)) b4; obtain ⟨⟨t0, _⟩, ⟨t1, _⟩, ⟨t2, _⟩, ⟨t3, _⟩, ⟨t4, _⟩⟩ := T4; have s4 := b4.size; simp at s4)
        | (go_at_call 32; (with_reducible refine (CF _).mono ?_); rintro e w5 ⟨rfl, rfl⟩)
        | (at_builtin; refine wpList_append_own _ rfl _ _ 31 rfl w.heap.size 57 i0 (.agg #[.slice none 0 0, .slice none 0 0, .int .i64 0, .int .i64 0, .int .i64 0]) 5 72 Tryz.underlying31 hi hz0 hz1 hz2 rfl (by decide) _ _ _ rfl (recs_below HO.out.1 (ba (bt (ba (bt (below1 _ _) b3) _) b4) _)) ⟨w4.heap.size, 0, none⟩ 1 1 [.slice (some ⟨gx, 0, none⟩) n1 px, .slice (some ⟨gy, 0, none⟩) n2 py, .int .i64 fx, .int .i64 fy, .int .i64 sb] rfl rfl (new_list _ _ _) (HONE.out _ _ _ _ _ _) (by rw [HU.out]; unfold maxLen; omega) (by rw [HU.out]; omega) (by simp; omega) ?_; intro v' w6 own6 grow6 _; rw [HU.out] at own6))
      have BW := hide (show Below wr.heap.size wr ((w4.alloc (.cells #[.slice (some ⟨gx, 0, none⟩) n1 px, .slice (some ⟨gy, 0, none⟩) n2 py, .int .i64 fx, .int .i64 fy, .int .i64 sb] 57))) from ba (bt (ba (bt (below1 _ _) b3) _) b4) _)
      have OX := hide (OwnLs.mono (((HOX.out.alloc _).below b4).alloc (.cells #[.slice (some ⟨gx, 0, none⟩) n1 px, .slice (some ⟨gy, 0, none⟩) n2 py, .int .i64 fx, .int .i64 fy, .int .i64 sb] 57)) (base' := w.heap.size) (by simp; omega))
      have OY := hide (OwnLs.mono (((HOY.out.alloc _).below b4).alloc (.cells #[.slice (some ⟨gx, 0, none⟩) n1 px, .slice (some ⟨gy, 0, none⟩) n2 py, .int .i64 fx, .int .i64 fy, .int .i64 sb] 57)) (base' := w.heap.size) (by simp; omega))
      have M6 := hide (HM.out _ _ _ _ _ _ us HU.out (HO.out.below BW.out) (fun j hj => by
        obtain ⟨x, y, e, p1, p2⟩ := HC.out j hj
        exact ⟨x, y, e, p1.below BW.out, p2.below BW.out⟩) OX.out OY.out own6 grow6)
      have B6 : Below w.heap.size w w6 := (bt HB.out BW.out).grown grow6 (by simp; omega) (fun g hg => (World.ownsRow.lt HO.out.1 g hg).1)
      have HB6 := hide B6
      clear own6 grow6 B6 b3 b4 a0 a1 a2 a3 a4 a5 a6 a7 a8 t0 t1 t2 t3 t4
      go_wp2
      go_roundw
      case rel => exact ⟨k + 1, v', by omega, rfl, by go_num, rfl, rfl, hfn, M6.out, HB6.out⟩
      case measure => simp [intOf]; omega
    · obtain rfl : k = n := by omega
      have hv := hf.out
      have HA := hide (show AllRef w.heap.size (.returned (.tuple #[v, .int .i64 0])) wr (firstA L a b c k) k (stgAt L a b) from .inr ⟨hv, v, rfl, hs⟩)
      obtain ⟨us, hu, ho, hc⟩ := hs
      obtain ⟨ad', cap', rfl, _, _⟩ := ho.form hu
      clear hv hu ho hc hb hf
      go_wp2
      exact bodyPost_ret (v := .tuple #[.slice ad' k cap', .int .i64 0]) (by simp [results, Tryz.results41, go_sem]) rfl ⟨HA.out, HB.out⟩
end Go.Proofs.YtaafhjngnjjcmaaGreatDoor

/- Operations: little ones. -/
namespace Go.Proofs.YtaafhjngnjjcmaaGreatDoor
open Go.RowKit


set_option maxHeartbeats 4000000 in
set_option maxRecDepth 100000 in
theorem little_any (L : List Opr) (n : Nat) (hn : L.length = n) (h1 : n ≤ maxLen) (s : Int) (ad : Option Addr) (cap : Nat) (w : World) (hr : OpsAt w ad L) :
    Calls Tryz.prog 39 #[.slice ad n cap, .int .i64 s] w fun e w' => e = .returned (.bool (!bigB s L n)) ∧ Below w.heap.size w w' := by
  have hm : n ≤ 9223372036854775807 := h1
  have HR := hide hr
  have HN := hide hn
  clear hr hn h1
  go_enter Tryz.func39, Tryz.ntmps39
  go_wp2
  go_loopw [9] (fun i wr => ∃ k : Nat, k ≤ n ∧ i = .int .i64 (k : Int) ∧ Hid (bigB s L k = false) ∧ Below w.heap.size w wr) (fun i _ => n - (intOf i).toNat)
  case atStart => exact ⟨0, by omega, rfl, hide rfl, Below.refl _ _⟩
  case round =>
    obtain ⟨k, hk, rfl, hs, hb⟩ := hrel
    have HB := hide hb
    have hb0 := (HR.out.below hb)
    clear hb
    by_cases hlt : k < n
    · obtain ⟨b, off, rfl, h0, h1, h2, h3, h6, h7, h8, ax, cx, ay, cy, h4, h5, _⟩ := hb0.get (show k < L.length by rw [HN.out]; exact hlt)
      clear hb0
      have hF : BigO s (opAt L k) → (!bigB s L n) = false := fun q => by rw [bigB_stays ((bigB_step s L k).2 (.inr q)) hlt]; rfl
      have hP : ¬ BigO s (opAt L k) → bigB s L (k + 1) = false := fun q => by
        cases e : bigB s L (k + 1) with
        | false => rfl
        | true =>
          rcases (bigB_step s L k).1 e with r | r
          · rw [hs.out] at r; cases r
          · exact absurd r q
      unfold BigO at hF hP
      obtain ⟨o, ho⟩ : ∃ o, opAt L k = o := ⟨_, rfl⟩
      rw [ho] at h0 h1 h2 h3 h6 h7 h8 h4 h5 hF hP
      clear ho
      obtain ⟨kd, bd, sg, rd, xs, ys, fl, wd, ht⟩ := o
      simp only at h0 h1 h2 h3 h6 h7 h8 h4 h5 hF hP
      generalize xs.length = nx at *
      generalize ys.length = ny at *
      have HF := hide hF
      have HP := hide hP
      have HB9 := hide (fun o => ba HB.out o)
      clear hF hP hs
      go_upto_region 4 with fail
      rcases (show (40 : Int) < (nx : Int) ∨ (nx : Int) ≤ 40 by omega) with cF | c1
      · have v := HF.out (.inl (by omega))
        go_wp2
        go_ret
        exact ⟨by first | rfl | (rw [v]; rfl), HB9.out _⟩
      rcases (show (40 : Int) < (ny : Int) ∨ (ny : Int) ≤ 40 by omega) with cF | c2
      · have v := HF.out (.inr (.inl (by omega)))
        go_wp2
        go_ret
        exact ⟨by first | rfl | (rw [v]; rfl), HB9.out _⟩
      rcases (show sg ≤ 262144 ∨ (262144 < sg ∧ 4194304 < sg) ∨ (262144 < sg ∧ sg ≤ 4194304) by omega) with c3 | ⟨c3, c3'⟩ | ⟨c3, cF⟩
      case inr.inr =>
        have v := HF.out (.inr (.inr (.inl ⟨c3, cF⟩)))
        go_wp2
        go_ret
        exact ⟨by first | rfl | (rw [v]; rfl), HB9.out _⟩
      all_goals rcases (show rd ≤ 20 ∨ (20 < rd ∧ 512 ≤ rd) ∨ (20 < rd ∧ rd < 512) by omega) with c4 | ⟨c4, c4'⟩ | ⟨c4, cF⟩
      all_goals try
        have v := HF.out (.inr (.inr (.inr (.inl ⟨c4, cF⟩))))
        go_wp2
        go_ret
        exact ⟨by first | rfl | (rw [v]; rfl), HB9.out _⟩
      all_goals rcases (show wd ≤ s ∨ (s < wd ∧ 65536 < wd) ∨ (s < wd ∧ wd ≤ 65536) by omega) with c5 | ⟨c5, c5'⟩ | ⟨c5, cF⟩
      all_goals try
        have v := HF.out (.inr (.inr (.inr (.inr (.inl ⟨c5, cF⟩)))))
        go_wp2
        go_ret
        exact ⟨by first | rfl | (rw [v]; rfl), HB9.out _⟩
      all_goals rcases (show ht ≤ s ∨ (s < ht ∧ 65536 < ht) ∨ (s < ht ∧ ht ≤ 65536) by omega) with c6 | ⟨c6, c6'⟩ | ⟨c6, cF⟩
      all_goals try
        have v := HF.out (.inr (.inr (.inr (.inr (.inr ⟨c6, cF⟩)))))
        go_wp2
        go_ret
        exact ⟨by first | rfl | (rw [v]; rfl), HB9.out _⟩
      all_goals
        have v := hide (HP.out (by omega))
        go_wp2
        go_roundw
        case rel => exact ⟨k + 1, by omega, by go_num, v.out, HB9.out _⟩
        case measure => simp [intOf]; omega
    · obtain rfl : k = n := by omega
      have hv := hs.out
      clear hb0 hs
      go_wp2
      go_ret
      exact ⟨by rw [hv]; rfl, HB.out⟩
end Go.Proofs.YtaafhjngnjjcmaaGreatDoor

/- Operations: the law on operations one behind the other, out of what the program's calls answer. -/
namespace Go.Proofs.YtaafhjngnjjcmaaGreatDoor
open Go.RowKit


/-- The program's stages in memory. -/
def StgsAt (w : World) (ad : Option Addr) (n : Nat) (F : Nat → Stg) : Prop :=
  n = 0 ∨ ∃ b off, ad = some ⟨b, off, none⟩ ∧ ∀ j, j < n → ∃ x y, w.cell? ⟨b, off + j * 3, none⟩ = some x ∧ w.cell? ⟨b, off + j * 3 + 1, none⟩ = some y ∧ w.cell? ⟨b, off + j * 3 + 2, none⟩ = some (.int .i64 (F j).sb) ∧ Tab w x (F j).fx (F j).lx ∧ Tab w y (F j).fy (F j).ly
theorem StgsAt.below {w w' : World} {ad : Option Addr} {n : Nat} {F : Nat → Stg} (h : StgsAt w ad n F) (hb : Below w.heap.size w w') : StgsAt w' ad n F := by
  rcases h with h | ⟨b, off, e, h⟩
  · exact .inl h
  · refine .inr ⟨b, off, e, fun j hj => ?_⟩
    obtain ⟨x, y, c0, c1, c2, tx, ty⟩ := h j hj
    exact ⟨x, y, cb hb (cell_ltL c0) c0, cb hb (cell_ltL c0) c1, cb hb (cell_ltL c0) c2, tx.below hb, ty.below hb⟩
theorem StgsAt.get {w : World} {ad : Option Addr} {n : Nat} {F : Nat → Stg} (h : StgsAt w ad n F) {j : Nat} (hj : j < n) : ∃ b off, ad = some ⟨b, off, none⟩ ∧ ∃ x y, w.cell? ⟨b, off + j * 3, none⟩ = some x ∧ w.cell? ⟨b, off + j * 3 + 1, none⟩ = some y ∧ w.cell? ⟨b, off + j * 3 + 2, none⟩ = some (.int .i64 (F j).sb) ∧ Tab w x (F j).fx (F j).lx ∧ Tab w y (F j).fy (F j).ly := by
  rcases h with h | ⟨b, off, e, h⟩
  · omega
  · exact ⟨b, off, e, h j hj⟩
theorem StgsRef.below {w w' : World} {ad : Option Addr} {n : Nat} {F : Nat → Stg} (h : StgsRef w ad n F) (hb : Below w.heap.size w w') : StgsRef w' ad n F := by
  rcases h with h | ⟨b, e, h⟩
  · exact .inl h
  · refine .inr ⟨b, e, fun j hj => ?_⟩
    obtain ⟨gx, px, gy, py, c0, c1, c2, c3, c4, lx, ly⟩ := h j hj
    have hl := cell_ltL c0
    exact ⟨gx, px, gy, py, cb hb hl c0, cb hb hl c1, cb hb hl c2, cb hb hl c3, cb hb hl c4, lx.below hb, ly.below hb⟩
theorem StgsRef.get {w : World} {ad : Option Addr} {n : Nat} {F : Nat → Stg} (h : StgsRef w ad n F) {j : Nat} (hj : j < n) : ∃ b, ad = some ⟨b, 0, none⟩ ∧ ∃ gx px gy py, w.cell? ⟨b, j * 5, none⟩ = some (.slice (some ⟨gx, 0, none⟩) (F j).lx.length px) ∧ w.cell? ⟨b, j * 5 + 1, none⟩ = some (.slice (some ⟨gy, 0, none⟩) (F j).ly.length py) ∧ w.cell? ⟨b, j * 5 + 2, none⟩ = some (.int .i64 (F j).fx) ∧ w.cell? ⟨b, j * 5 + 3, none⟩ = some (.int .i64 (F j).fy) ∧ w.cell? ⟨b, j * 5 + 4, none⟩ = some (.int .i64 (F j).sb) ∧ LinesAt w gx (F j).lx ∧ LinesAt w gy (F j).ly := by
  rcases h with h | ⟨b, e, h⟩
  · omega
  · exact ⟨b, e, h j hj⟩
/-- What All answers. -/
def AllAns (e : Ending) (w' : World) (k : Int) (n : Nat) (F : Nat → Stg) : Prop :=
  (k ≠ 0 ∧ ∃ ad cap, e = .returned (.tuple #[.slice ad 0 cap, .int .i64 k])) ∨ (k = 0 ∧ ∃ ad cap, e = .returned (.tuple #[.slice ad n cap, .int .i64 0]) ∧ StgsAt w' ad n F)
def OAllC (K : World → Prop) : Prop := ∀ (L : List Opr) (ad : Option Addr) (cap : Nat) (a b c : Int) (w : World), K w → OpsAt w ad L → OpsFit L → L.length ≤ maxLen → (ad = none → cap = 0) → In64 a → In64 b → In64 c →
  Calls Tryz.prog 40 #[.slice ad L.length cap, .int .i64 a, .int .i64 b, .int .i64 c] w fun e w' => AllAns e w' (allCode L a b c) L.length (stgAt L a b) ∧ Below w.heap.size w w'
end Go.Proofs.YtaafhjngnjjcmaaGreatDoor
