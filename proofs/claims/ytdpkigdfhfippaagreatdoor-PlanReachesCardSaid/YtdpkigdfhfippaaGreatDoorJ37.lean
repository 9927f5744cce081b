/- Parts, joined. -/
import Derived.Test.YtdpkigdfhfippaaGreatDoorJ30
import Derived.Test.YtdpkigdfhfippaaGreatDoorJ35
import Derived.Test.YtdpkigdfhfippaaGreatDoorJ31
import Derived.Test.YtdpkigdfhfippaaGreatDoorJ36
/- Plans: what the laws' own stage answers. Written by gen_XS14D.py. -/
namespace Go.Proofs.YtdpkigdfhfippaaGreatDoor
open Go.RowKit


theorem S3.grown {w w' : World} {R : Nat} {v0 v1 v2 : Value} {row : Option Nat} (h : S3 w R v0 v1 v2) (g : w.grownBy w' row) (ne : some R ≠ row) : S3 w' R v0 v1 v2 := by
  obtain ⟨⟨a, a'⟩, ⟨b, b'⟩, ⟨c, c'⟩⟩ := h
  exact ⟨⟨cg g ne a, fg g ne a a'⟩, ⟨cg g ne b, fg g ne b b'⟩, ⟨cg g ne c, fg g ne c c'⟩⟩
/-- Three cells of one block are written, and five of another one. -/
def fill35 (w : World) (R Q : Nat) (v0 v1 v2 u0 u1 u2 u3 u4 : Value) : World := (((((((w.setCell ⟨R, 0, none⟩ v0).setCell ⟨R, 1, none⟩ v1).setCell ⟨R, 2, none⟩ v2).setCell ⟨Q, 0, none⟩ u0).setCell ⟨Q, 1, none⟩ u1).setCell ⟨Q, 2, none⟩ u2).setCell ⟨Q, 3, none⟩ u3).setCell ⟨Q, 4, none⟩ u4
def fill53 (w : World) (R Q : Nat) (v0 v1 v2 u0 u1 u2 u3 u4 : Value) : World := (((((((w.setCell ⟨Q, 0, none⟩ u0).setCell ⟨Q, 1, none⟩ u1).setCell ⟨Q, 2, none⟩ u2).setCell ⟨Q, 3, none⟩ u3).setCell ⟨Q, 4, none⟩ u4).setCell ⟨R, 0, none⟩ v0).setCell ⟨R, 1, none⟩ v1).setCell ⟨R, 2, none⟩ v2
theorem grown_fill3 (w : World) (R : Nat) (v0 v1 v2 : Value) : w.grownBy (((w.setCell ⟨R, 0, none⟩ v0).setCell ⟨R, 1, none⟩ v1).setCell ⟨R, 2, none⟩ v2) (some R) := ((grown_set w R 0 v0).trans (grown_set _ R 1 v1)).trans (grown_set _ R 2 v2)
theorem grown_fill5 (w : World) (Q : Nat) (u0 u1 u2 u3 u4 : Value) : w.grownBy (((((w.setCell ⟨Q, 0, none⟩ u0).setCell ⟨Q, 1, none⟩ u1).setCell ⟨Q, 2, none⟩ u2).setCell ⟨Q, 3, none⟩ u3).setCell ⟨Q, 4, none⟩ u4) (some Q) := ((((grown_set w Q 0 u0).trans (grown_set _ Q 1 u1)).trans (grown_set _ Q 2 u2)).trans (grown_set _ Q 3 u3)).trans (grown_set _ Q 4 u4)
theorem fill35_all {w0 w : World} {R Q : Nat} {x0 x1 x2 y0 y1 y2 y3 y4 : Value} (h3 : S3 w R x0 x1 x2) (h5 : S5 w Q y0 y1 y2 y3 y4) (ne : R ≠ Q) (hB : Below w0.heap.size w0 w) (l1 : w0.heap.size ≤ R) (l2 : w0.heap.size ≤ Q) (v0 v1 v2 u0 u1 u2 u3 u4 : Value) :
    S3 (fill35 w R Q v0 v1 v2 u0 u1 u2 u3 u4) R v0 v1 v2 ∧ S5 (fill35 w R Q v0 v1 v2 u0 u1 u2 u3 u4) Q u0 u1 u2 u3 u4 ∧ Below w0.heap.size w0 (fill35 w R Q v0 v1 v2 u0 u1 u2 u3 u4) := by
  have a := S3.fill h3 v0 v1 v2
  have b := h5.grown (grown_fill3 w R v0 v1 v2) (fun e => ne (Option.some.inj e).symm)
  exact ⟨a.grown (grown_fill5 _ Q u0 u1 u2 u3 u4) (fun e => ne (Option.some.inj e)), S5.fill b u0 u1 u2 u3 u4, bs (bs (bs (bs (bs (bs (bs (bs hB l1 _) l1 _) l1 _) l2 _) l2 _) l2 _) l2 _) l2 _⟩
theorem fill53_all {w0 w : World} {R Q : Nat} {x0 x1 x2 y0 y1 y2 y3 y4 : Value} (h3 : S3 w R x0 x1 x2) (h5 : S5 w Q y0 y1 y2 y3 y4) (ne : R ≠ Q) (hB : Below w0.heap.size w0 w) (l1 : w0.heap.size ≤ R) (l2 : w0.heap.size ≤ Q) (v0 v1 v2 u0 u1 u2 u3 u4 : Value) :
    S3 (fill53 w R Q v0 v1 v2 u0 u1 u2 u3 u4) R v0 v1 v2 ∧ S5 (fill53 w R Q v0 v1 v2 u0 u1 u2 u3 u4) Q u0 u1 u2 u3 u4 ∧ Below w0.heap.size w0 (fill53 w R Q v0 v1 v2 u0 u1 u2 u3 u4) := by
  have a := S5.fill h5 u0 u1 u2 u3 u4
  have b := h3.grown (grown_fill5 w Q u0 u1 u2 u3 u4) (fun e => ne (Option.some.inj e))
  exact ⟨S3.fill b v0 v1 v2, a.grown (grown_fill3 _ R v0 v1 v2) (fun e => ne (Option.some.inj e).symm), bs (bs (bs (bs (bs (bs (bs (bs hB l2 _) l2 _) l2 _) l2 _) l2 _) l1 _) l1 _) l1 _⟩
theorem tab_fills {w : World} {R Q : Nat} {x0 x1 x2 y0 y1 y2 y3 y4 : Value} {v : Value} {n : Int} {L : List (Int × List Int)} (h : Tab w v n L) (h3 : S3 w R x0 x1 x2) (h5 : S5 w Q y0 y1 y2 y3 y4) (ne : R ≠ Q) (hp : ∀ x, x0 ≠ .int .i64 x) (hq : ∀ x, y0 ≠ .int .i64 x) (v0 v1 v2 u0 u1 u2 u3 u4 : Value) :
    Tab (fill35 w R Q v0 v1 v2 u0 u1 u2 u3 u4) v n L ∧ Tab (fill53 w R Q v0 v1 v2 u0 u1 u2 u3 u4) v n L := by
  have k5 : ∀ {w : World}, Tab w v n L → S5 w Q y0 y1 y2 y3 y4 → Tab (((((w.setCell ⟨Q, 0, none⟩ u0).setCell ⟨Q, 1, none⟩ u1).setCell ⟨Q, 2, none⟩ u2).setCell ⟨Q, 3, none⟩ u3).setCell ⟨Q, 4, none⟩ u4) v n L := fun h hs => by
    refine h.kept (grown_fill5 _ Q u0 u1 u2 u3 u4) (fun b x e c => ?_)
    obtain rfl := Option.some.inj e
    rw [hs.1.1] at c
    exact hq x (Option.some.inj c)
  exact ⟨k5 (Tab.fill3 h h3 hp v0 v1 v2) (h5.grown (grown_fill3 w R v0 v1 v2) (fun e => ne (Option.some.inj e).symm)), Tab.fill3 (k5 h h5) (h3.grown (grown_fill5 w Q u0 u1 u2 u3 u4) (fun e => ne (Option.some.inj e))) hp v0 v1 v2⟩
theorem own_ls_fills {T : TypeId} {w : World} {base : Nat} {v : Value} {L : List (Int × List Int)} (h : OwnLs T w base v L) {R Q : Nat} (l1 : R < base) (l2 : Q < base) (v0 v1 v2 u0 u1 u2 u3 u4 : Value) : OwnLs T (fill35 w R Q v0 v1 v2 u0 u1 u2 u3 u4) base v L ∧ OwnLs T (fill53 w R Q v0 v1 v2 u0 u1 u2 u3 u4) base v L :=
  ⟨own_ls_fill (own_ls_set (own_ls_set (own_ls_set h 0 v0 l1) 1 v1 l1) 2 v2 l1) u0 u1 u2 u3 u4 l2, own_ls_set (own_ls_set (own_ls_set (own_ls_fill h u0 u1 u2 u3 u4 l2) 0 v0 l1) 1 v1 l1) 2 v2 l1⟩
theorem own_lines {T : TypeId} {w : World} {base g n c : Nat} {L : List (Int × List Int)} (h : OwnLs T w base (.slice (some ⟨g, 0, none⟩) n c) L) (hn : L ≠ []) : LinesAt w g L := by
  obtain ⟨g', c', e, _, r⟩ := h.read hn
  simp only [Value.slice.injEq, Option.some.injEq, Addr.mk.injEq, and_true] at e
  obtain ⟨rfl, _, _⟩ := e
  exact r
theorem lines_drew {w : World} {g : Nat} {L : List (Int × List Int)} (h : LinesAt w g L) : LinesAt w.drew g L := h.below (bd (Below.refl _ _))
/-- May it be played, and is there a stage? -/
def stB (s : Int) (o : Opr) (a b : Int) : Bool := !bigB s [o] 1 && decide (opCode o a b = 0)
/-- What stage answers. -/
def StageAns (e : Ending) (w' : World) (k : Bool) (S : Stg) : Prop :=
  (k = false ∧ e = .returned (.tuple #[.agg #[.pointer none, .pointer none, .int .i64 0], .agg #[.slice none 0 0, .slice none 0 0, .int .i64 0, .int .i64 0, .int .i64 0], .bool false])) ∨
  (k = true ∧ ∃ x y gx px gy py, e = .returned (.tuple #[.agg #[.pointer (some x), .pointer (some y), .int .i64 S.sb], .agg #[.slice (some ⟨gx, 0, none⟩) S.lx.length px, .slice (some ⟨gy, 0, none⟩) S.ly.length py, .int .i64 S.fx, .int .i64 S.fy, .int .i64 S.sb], .bool true]) ∧ Tab w' (.pointer (some x)) S.fx S.lx ∧ Tab w' (.pointer (some y)) S.fy S.ly ∧ LinesAt w' gx S.lx ∧ LinesAt w' gy S.ly)
set_option maxHeartbeats 4000000 in
set_option maxRecDepth 100000 in
theorem stage14_any {K : World → Prop} (hKB : ∀ w w', K w → Below w.heap.size w w' → K w') (CM : OMakeC K) (o : Opr) (ax : Option Addr) (cx : Nat) (ay : Option Addr) (cy : Nat) (a b : Int) (w : World) (hk : K w) (hA : OpAt w o ax cx ay cy) (hF : OpFits o) (a0 : 0 ≤ a) (a1 : a ≤ 255) (b0 : 0 ≤ b) (b1 : b ≤ 255) :
    Calls Tryz.prog 9 #[opV o ax cx ay cy, .int .u8 a, .int .u8 b] w fun e w' => StageAns e w' (stB 20 o (1 + a % 20) (1 + b % 20)) (stgOf o (1 + a % 20) (1 + b % 20)) ∧ Below w.heap.size w w' := by
  obtain ⟨p, hp, p0, p1⟩ : ∃ p, a % 20 = p ∧ 0 ≤ p ∧ p ≤ 19 := ⟨_, rfl, by omega, by omega⟩
  obtain ⟨q, hq, q0, q1⟩ : ∃ q, b % 20 = q ∧ 0 ≤ q ∧ q ≤ 19 := ⟨_, rfl, by omega, by omega⟩
  rw [hp, hq]
  obtain ⟨W0, hW0⟩ : ∃ W0, ((w.alloc (.cells #[.int .i64 o.kd, .int .i64 o.bd, .int .i64 o.sg, .int .i64 o.rd, .slice ax o.xs.length cx, .slice ay o.ys.length cy, .int .i64 o.fl, .int .i64 o.wd, .int .i64 o.ht] 27)).alloc (.cells #[.pointer none, .pointer none, .int .i64 0] 31)).alloc (.cells #[.slice none 0 0, .slice none 0 0, .int .i64 0, .int .i64 0, .int .i64 0] 34) = W0 := ⟨_, rfl⟩
  have B00 := hide (show Below w.heap.size w W0 by rw [← hW0]; exact ba (ba (below1 _ _) _) _)
  have P0 := hide (show P9 W0 w.heap.size o.kd o.bd o.sg o.rd (.slice ax o.xs.length cx) (.slice ay o.ys.length cy) o.fl o.wd o.ht by rw [← hW0]; exact ((P9.new w 27 o.kd o.bd o.sg o.rd (.slice ax o.xs.length cx) (.slice ay o.ys.length cy) o.fl o.wd o.ht).below (below1 _ _)).below (below1 _ _))
  have T0 := hide (show S3 W0 (w.heap.size + 1) (.pointer none) (.pointer none) (.int .i64 0) by rw [← hW0]; simpa using (S3.new (w.alloc (.cells #[.int .i64 o.kd, .int .i64 o.bd, .int .i64 o.sg, .int .i64 o.rd, .slice ax o.xs.length cx, .slice ay o.ys.length cy, .int .i64 o.fl, .int .i64 o.wd, .int .i64 o.ht] 27)) 31 (.pointer none) (.pointer none) (.int .i64 0)).below (below1 _ (.cells #[.slice none 0 0, .slice none 0 0, .int .i64 0, .int .i64 0, .int .i64 0] 34)))
  have U0 := hide (show S5 W0 (w.heap.size + 1 + 1) (.slice none 0 0) (.slice none 0 0) (.int .i64 0) (.int .i64 0) (.int .i64 0) by rw [← hW0]; simpa using S5.new ((w.alloc (.cells #[.int .i64 o.kd, .int .i64 o.bd, .int .i64 o.sg, .int .i64 o.rd, .slice ax o.xs.length cx, .slice ay o.ys.length cy, .int .i64 o.fl, .int .i64 o.wd, .int .i64 o.ht] 27)).alloc (.cells #[.pointer none, .pointer none, .int .i64 0] 31)) 34 (.slice none 0 0) (.slice none 0 0) (.int .i64 0) (.int .i64 0) (.int .i64 0))
  have Z0 := hide (show W0.heap.size = w.heap.size + 1 + 1 + 1 by rw [← hW0]; simp)
  have CLT : ∀ w', Below w.heap.size w w' → Calls Tryz.prog 24 #[.slice (some ⟨w'.heap.size, 0, none⟩) 1 1, .int .i64 20] (w'.alloc (.cells #[.int .i64 o.kd, .int .i64 o.bd, .int .i64 o.sg, .int .i64 o.rd, .slice ax o.xs.length cx, .slice ay o.ys.length cy, .int .i64 o.fl, .int .i64 o.wd, .int .i64 o.ht] 27)) fun e w'' => e = .returned (.bool (!bigB 20 [o] 1)) ∧ Below (w'.alloc (.cells #[.int .i64 o.kd, .int .i64 o.bd, .int .i64 o.sg, .int .i64 o.rd, .slice ax o.xs.length cx, .slice ay o.ys.length cy, .int .i64 o.fl, .int .i64 o.wd, .int .i64 o.ht] 27)).heap.size (w'.alloc (.cells #[.int .i64 o.kd, .int .i64 o.bd, .int .i64 o.sg, .int .i64 o.rd, .slice ax o.xs.length cx, .slice ay o.ys.length cy, .int .i64 o.fl, .int .i64 o.wd, .int .i64 o.ht] 27)) w'' :=
    fun w' b' => little_any [o] 1 rfl (by unfold maxLen; omega) 20 (some ⟨w'.heap.size, 0, none⟩) 1 _ (ops_one w' 27 o ax cx ay cy (hA.below b'))
  have CK : ∀ w', Below w.heap.size w w' → K w' := fun w' b' => hKB w w' hk b'
  have CR := fun w' => ref12_any o ax cx ay cy w'
  have CM1 := fun w' (b' : Below w.heap.size w w') => CM o ax cx ay cy (1 + p) (1 + q) w' (CK w' b') (hA.below b') hF (by unfold In64; omega) (by unfold In64; omega)
  have CD1 := fun w' (b' : Below w.heap.size w w') => dmake_any o ax cx ay cy (1 + p) (1 + q) w' (hA.below b') hF
  have NE := hide (stg_ne (o := o) (a := 1 + p) (b := 1 + q))
  unfold opV at CR CM1 CD1 ⊢
  clear CM hF hA hk CK
  cases hbb : bigB 20 [o] 1 with
  | true =>
    have HS := hide (show stB 20 o (1 + p) (1 + q) = false by unfold stB; rw [hbb]; rfl)
    rw [HS.out]
    rw [hbb] at CLT
    clear hbb CR CM1 CD1 NE
    generalize stgOf o (1 + p) (1 + q) = S at *
    obtain ⟨kd, bo, sg, rd, xs, ys, fl, wd, ht⟩ := o
    simp only at CLT P0 hW0 ⊢
    generalize xs.length = nx at *
    generalize ys.length = ny at *
    go_enter Tryz.func9, Tryz.ntmps9
    go_upto_region 1 with fail
    clear hW0
    obtain ⟨g0, g1, g2, g3, g4, g5, g6, g7, g8⟩ := P0.out
    go_upto_region 2 with (go_at_call 24; (with_reducible refine (CLT _ B00.out).mono ?_); rintro e w2 ⟨rfl, b2⟩; have B2 := hide (bt (ba B00.out _) b2); have T2 := hide ((T0.out.below (below1 _ _)).below b2); have U2 := hide ((U0.out.below (below1 _ _)).below b2); obtain ⟨⟨t0, tf0⟩, ⟨t1, tf1⟩, ⟨t2, tf2⟩⟩ := T2.out; obtain ⟨⟨u0, uf0⟩, ⟨u1, uf1⟩, ⟨u2, uf2⟩, ⟨u3, uf3⟩, ⟨u4, uf4⟩⟩ := U2.out)
    go_wp2
    have F35 := hide (fill35_all T2.out U2.out (by omega) B2.out (by omega) (by omega) (.pointer none) (.pointer none) (.int .i64 0) (.slice none 0 0) (.slice none 0 0) (.int .i64 0) (.int .i64 0) (.int .i64 0))
    unfold fill35 at F35
    generalize hE : (((((((w2.setCell ⟨w.heap.size + 1, 0, none⟩ (.pointer none)).setCell ⟨w.heap.size + 1, 1, none⟩ (.pointer none)).setCell ⟨w.heap.size + 1, 2, none⟩ (.int .i64 0)).setCell ⟨w.heap.size + 1 + 1, 0, none⟩ (.slice none 0 0)).setCell ⟨w.heap.size + 1 + 1, 1, none⟩ (.slice none 0 0)).setCell ⟨w.heap.size + 1 + 1, 2, none⟩ (.int .i64 0)).setCell ⟨w.heap.size + 1 + 1, 3, none⟩ (.int .i64 0)).setCell ⟨w.heap.size + 1 + 1, 4, none⟩ (.int .i64 0) = WE at F35 ⊢
    obtain ⟨⟨c0, _⟩, ⟨c1, _⟩, ⟨c2, _⟩⟩ := F35.out.1
    obtain ⟨⟨d0, _⟩, ⟨d1, _⟩, ⟨d2, _⟩, ⟨d3, _⟩, ⟨d4, _⟩⟩ := F35.out.2.1
    exact bodyPost_ret (v := .tuple #[.agg #[.pointer none, .pointer none, .int .i64 0], .agg #[.slice none 0 0, .slice none 0 0, .int .i64 0, .int .i64 0, .int .i64 0], .bool false]) (by simp [results, Tryz.results9, go_sem, c0, c1, c2, d0, d1, d2, d3, d4]) rfl ⟨.inl ⟨rfl, rfl⟩, F35.out.2.2⟩
  | false =>
    rw [hbb] at CLT
    by_cases hz : opCode o (1 + p) (1 + q) = 0
    · have HS := hide (show stB 20 o (1 + p) (1 + q) = true by unfold stB; rw [hbb, hz]; rfl)
      rw [HS.out]
      have NE2 := NE.out hz
      have CM2 : ∀ w', Below w.heap.size w w' → Calls Tryz.prog 22 #[.agg #[.int .i64 o.kd, .int .i64 o.bd, .int .i64 o.sg, .int .i64 o.rd, .slice ax o.xs.length cx, .slice ay o.ys.length cy, .int .i64 o.fl, .int .i64 o.wd, .int .i64 o.ht], .int .i64 (1 + p), .int .i64 (1 + q)] w' fun e w'' => (∃ x y, e = .returned (.tuple #[.agg #[.pointer (some x), .pointer (some y), .int .i64 (stgOf o (1 + p) (1 + q)).sb], .int .i64 0]) ∧ Tab w'' (.pointer (some x)) (stgOf o (1 + p) (1 + q)).fx (stgOf o (1 + p) (1 + q)).lx ∧ Tab w'' (.pointer (some y)) (stgOf o (1 + p) (1 + q)).fy (stgOf o (1 + p) (1 + q)).ly) ∧ Below w'.heap.size w' w'' := fun w' b' =>
        (CM1 w' b').mono fun e w'' ⟨hA, hB⟩ => by
          rw [hz] at hA
          rcases hA with ⟨h0, _⟩ | ⟨_, x, y, he, tx, ty⟩
          · exact absurd rfl h0
          · obtain ⟨ax', rfl⟩ := tx.ptr
            obtain ⟨ay', rfl⟩ := ty.ptr
            exact ⟨⟨ax', ay', he, tx, ty⟩, hB⟩
      have CD2 : ∀ w', Below w.heap.size w w' → Calls Tryz.prog 25 #[.agg #[.int .i64 o.kd, .int .i64 o.bd, .int .i64 o.sg, .int .i64 o.rd, .slice ax o.xs.length cx, .slice ay o.ys.length cy, .int .i64 o.fl, .int .i64 o.wd, .int .i64 o.ht], .int .i64 (1 + p), .int .i64 (1 + q)] w' fun e w'' => (∃ gx px gy py n1 n2, e = .returned (.tuple #[.agg #[.slice (some ⟨gx, 0, none⟩) n1 px, .slice (some ⟨gy, 0, none⟩) n2 py, .int .i64 (stgOf o (1 + p) (1 + q)).fx, .int .i64 (stgOf o (1 + p) (1 + q)).fy, .int .i64 (stgOf o (1 + p) (1 + q)).sb], .int .i64 0]) ∧ (stgOf o (1 + p) (1 + q)).lx.length = n1 ∧ (stgOf o (1 + p) (1 + q)).ly.length = n2 ∧ OwnLs 101 w'' w'.heap.size (.slice (some ⟨gx, 0, none⟩) n1 px) (stgOf o (1 + p) (1 + q)).lx ∧ OwnLs 101 w'' w'.heap.size (.slice (some ⟨gy, 0, none⟩) n2 py) (stgOf o (1 + p) (1 + q)).ly) ∧ Below w'.heap.size w' w'' := fun w' b' =>
        (CD1 w' b').mono fun e w'' ⟨hA, hB⟩ => by
          rw [hz] at hA
          rcases hA with ⟨h0, _⟩ | ⟨_, x, y, he, ox, oy⟩
          · exact absurd rfl h0
          · obtain ⟨gx, px, rfl, _, _⟩ := ox.read NE2.1
            obtain ⟨gy, py, rfl, _, _⟩ := oy.read NE2.2
            exact ⟨⟨gx, px, gy, py, _, _, he, rfl, rfl, ox, oy⟩, hB⟩
      have HNE := hide NE2
      clear hbb CM1 CD1 NE hz NE2
      generalize stgOf o (1 + p) (1 + q) = S at *
      obtain ⟨kd, bo, sg, rd, xs, ys, fl, wd, ht⟩ := o
      simp only at CLT P0 hW0 CR CM2 CD2 ⊢
      generalize xs.length = nx at *
      generalize ys.length = ny at *
      obtain ⟨lx, ly, fx, fy, sb⟩ := S
      simp only at CM2 CD2 HNE
      go_enter Tryz.func9, Tryz.ntmps9
      go_upto_region 1 with fail
      clear hW0
      obtain ⟨g0, g1, g2, g3, g4, g5, g6, g7, g8⟩ := P0.out
      go_upto_region 5 with (first
        | (go_at_call 24; (with_reducible refine (CLT _ B00.out).mono ?_); rintro e w2 ⟨rfl, b2⟩; have B2 := hide (bt (ba B00.out _) b2); have T2 := hide ((T0.out.below (below1 _ _)).below b2); have U2 := hide ((U0.out.below (below1 _ _)).below b2); have P2 := hide ((P0.out.below (below1 _ _)).below b2); clear g0 g1 g2 g3 g4 g5 g6 g7 g8; obtain ⟨h0, h1, h2, h3, h4, h5, h6, h7, h8⟩ := P2.out)
        | (go_at_call 22; (with_reducible refine (CM2 _ B2.out).mono ?_); rintro e w3 ⟨⟨x, y, rfl, tx, ty⟩, b3⟩; have HTX := hide tx; have HTY := hide ty; clear tx ty; have B3 := hide (bt B2.out b3); have T3 := hide (T2.out.below b3); have U3 := hide (U2.out.below b3); have P3 := hide ((P2.out.below b3).below (below1 w3 (.cells #[.pointer (some x), .pointer (some y), .int .i64 sb] 31))); clear h0 h1 h2 h3 h4 h5 h6 h7 h8; obtain ⟨k0, k1, k2, k3, k4, k5, k6, k7, k8⟩ := P3.out)
        | (go_at_call 26; (with_reducible refine (CR _).mono ?_); rintro e w4 ⟨rfl, b4⟩; have B4 := hide (bt (ba B3.out _) b4); have T4 := hide ((T3.out.below (below1 _ _)).below b4); have U4 := hide ((U3.out.below (below1 _ _)).below b4); have S4 := hide ((S3.new w3 31 (.pointer (some x)) (.pointer (some y)) (.int .i64 sb)).below b4); have HTX4 := hide ((HTX.out.below (below1 _ _)).below b4); have HTY4 := hide ((HTY.out.below (below1 _ _)).below b4); clear k0 k1 k2 k3 k4 k5 k6 k7 k8; have Z4 := hide (show w.heap.size + 1 + 1 < w4.heap.size from (by have := B00.out.size; have := Z0.out; have := (bt (bt (ba (Below.refl _ W0) _) b2) b3).size; have := b4.size; simp at *; omega)))
        | (go_at_call 25; (with_reducible refine (CD2 _ B4.out).mono ?_); rintro e w5 ⟨⟨gx, px, gy, py, n1, n2, rfl, e1, e2, ox, oy⟩, b5⟩; have HE1 := hide e1; have HE2 := hide e2; have HOX := hide ox; have HOY := hide oy; have HTX5 := hide (HTX4.out.below b5); have HTY5 := hide (HTY4.out.below b5); clear e1 e2 ox oy; have B5 := hide (bt B4.out b5); have T5 := hide (T4.out.below b5); have U5 := hide (U4.out.below b5); have S5' := hide (S4.out.below b5); have ZB := hide b5.size))
      have T6 := hide (T5.out.below (below1 w5 (.cells #[.slice (some ⟨gx, 0, none⟩) n1 px, .slice (some ⟨gy, 0, none⟩) n2 py, .int .i64 fx, .int .i64 fy, .int .i64 sb] 34)))
      have U6 := hide (U5.out.below (below1 w5 (.cells #[.slice (some ⟨gx, 0, none⟩) n1 px, .slice (some ⟨gy, 0, none⟩) n2 py, .int .i64 fx, .int .i64 fy, .int .i64 sb] 34)))
      have S6 := hide (S5'.out.below (below1 w5 (.cells #[.slice (some ⟨gx, 0, none⟩) n1 px, .slice (some ⟨gy, 0, none⟩) n2 py, .int .i64 fx, .int .i64 fy, .int .i64 sb] 34)))
      have V6 := hide (S5.new w5 34 (.slice (some ⟨gx, 0, none⟩) n1 px) (.slice (some ⟨gy, 0, none⟩) n2 py) (.int .i64 fx) (.int .i64 fy) (.int .i64 sb))
      have B6 := hide (ba B5.out (.cells #[.slice (some ⟨gx, 0, none⟩) n1 px, .slice (some ⟨gy, 0, none⟩) n2 py, .int .i64 fx, .int .i64 fy, .int .i64 sb] 34))
      have OX6 := hide (HOX.out.alloc (.cells #[.slice (some ⟨gx, 0, none⟩) n1 px, .slice (some ⟨gy, 0, none⟩) n2 py, .int .i64 fx, .int .i64 fy, .int .i64 sb] 34))
      have OY6 := hide (HOY.out.alloc (.cells #[.slice (some ⟨gx, 0, none⟩) n1 px, .slice (some ⟨gy, 0, none⟩) n2 py, .int .i64 fx, .int .i64 fy, .int .i64 sb] 34))
      have TX6 := hide (HTX5.out.below (below1 w5 (.cells #[.slice (some ⟨gx, 0, none⟩) n1 px, .slice (some ⟨gy, 0, none⟩) n2 py, .int .i64 fx, .int .i64 fy, .int .i64 sb] 34)))
      have TY6 := hide (HTY5.out.below (below1 w5 (.cells #[.slice (some ⟨gx, 0, none⟩) n1 px, .slice (some ⟨gy, 0, none⟩) n2 py, .int .i64 fx, .int .i64 fy, .int .i64 sb] 34)))
      have z4 : w.heap.size + 1 + 1 < w4.heap.size := Z4.out
      have z5 : w4.heap.size ≤ w5.heap.size := ZB.out
      generalize w5.alloc (.cells #[.slice (some ⟨gx, 0, none⟩) n1 px, .slice (some ⟨gy, 0, none⟩) n2 py, .int .i64 fx, .int .i64 fy, .int .i64 sb] 34) = W6 at T6 U6 S6 V6 B6 OX6 OY6 TX6 TY6 ⊢
      obtain ⟨⟨t0, tf0⟩, ⟨t1, tf1⟩, ⟨t2, tf2⟩⟩ := T6.out
      obtain ⟨⟨u0, uf0⟩, ⟨u1, uf1⟩, ⟨u2, uf2⟩, ⟨u3, uf3⟩, ⟨u4, uf4⟩⟩ := U6.out
      obtain ⟨⟨s0, sf0⟩, ⟨s1, sf1⟩, ⟨s2, sf2⟩⟩ := S6.out
      obtain ⟨⟨v0, vf0⟩, ⟨v1, vf1⟩, ⟨v2, vf2⟩, ⟨v3, vf3⟩, ⟨v4, vf4⟩⟩ := V6.out
      clear T5 U5 S5' B5 HOX HOY HTX5 HTY5 T4 U4 S4 B4 HTX4 HTY4 T3 U3 P3 B3 HTX HTY T2 U2 P2 B2 CM2 CD2 CR CLT
      have FE := hide (fill35_all T6.out U6.out (by omega) B6.out (by omega) (by omega) (.pointer (some x)) (.pointer (some y)) (.int .i64 sb) (.slice (some ⟨gx, 0, none⟩) n1 px) (.slice (some ⟨gy, 0, none⟩) n2 py) (.int .i64 fx) (.int .i64 fy) (.int .i64 sb))
      have FT := hide (And.intro (tab_fills TX6.out T6.out U6.out (by omega) (fun _ e => by cases e) (fun _ e => by cases e) (.pointer (some x)) (.pointer (some y)) (.int .i64 sb) (.slice (some ⟨gx, 0, none⟩) n1 px) (.slice (some ⟨gy, 0, none⟩) n2 py) (.int .i64 fx) (.int .i64 fy) (.int .i64 sb)).1 (tab_fills TY6.out T6.out U6.out (by omega) (fun _ e => by cases e) (fun _ e => by cases e) (.pointer (some x)) (.pointer (some y)) (.int .i64 sb) (.slice (some ⟨gx, 0, none⟩) n1 px) (.slice (some ⟨gy, 0, none⟩) n2 py) (.int .i64 fx) (.int .i64 fy) (.int .i64 sb)).1)
      have FL := hide (And.intro (own_lines (own_ls_fills OX6.out (R := w.heap.size + 1) (Q := w.heap.size + 1 + 1) (by omega) (by omega) (.pointer (some x)) (.pointer (some y)) (.int .i64 sb) (.slice (some ⟨gx, 0, none⟩) n1 px) (.slice (some ⟨gy, 0, none⟩) n2 py) (.int .i64 fx) (.int .i64 fy) (.int .i64 sb)).1 HNE.out.1) (own_lines (own_ls_fills OY6.out (R := w.heap.size + 1) (Q := w.heap.size + 1 + 1) (by omega) (by omega) (.pointer (some x)) (.pointer (some y)) (.int .i64 sb) (.slice (some ⟨gx, 0, none⟩) n1 px) (.slice (some ⟨gy, 0, none⟩) n2 py) (.int .i64 fx) (.int .i64 fy) (.int .i64 sb)).1 HNE.out.2))
      unfold fill35 at FE FT FL
      clear T6 U6 S6 V6 B6 OX6 OY6 TX6 TY6
      go_region
      go_wp2
      generalize (((((((W6.setCell ⟨w.heap.size + 1, 0, none⟩ (.pointer (some x))).setCell ⟨w.heap.size + 1, 1, none⟩ (.pointer (some y))).setCell ⟨w.heap.size + 1, 2, none⟩ (.int .i64 sb)).setCell ⟨w.heap.size + 1 + 1, 0, none⟩ (.slice (some ⟨gx, 0, none⟩) n1 px)).setCell ⟨w.heap.size + 1 + 1, 1, none⟩ (.slice (some ⟨gy, 0, none⟩) n2 py)).setCell ⟨w.heap.size + 1 + 1, 2, none⟩ (.int .i64 fx)).setCell ⟨w.heap.size + 1 + 1, 3, none⟩ (.int .i64 fy)).setCell ⟨w.heap.size + 1 + 1, 4, none⟩ (.int .i64 sb) = WE at FE FT FL ⊢
      obtain ⟨⟨c0, _⟩, ⟨c1, _⟩, ⟨c2, _⟩⟩ := FE.out.1
      obtain ⟨⟨d0, _⟩, ⟨d1, _⟩, ⟨d2, _⟩, ⟨d3, _⟩, ⟨d4, _⟩⟩ := FE.out.2.1
      exact bodyPost_ret (v := .tuple #[.agg #[.pointer (some x), .pointer (some y), .int .i64 sb], .agg #[.slice (some ⟨gx, 0, none⟩) n1 px, .slice (some ⟨gy, 0, none⟩) n2 py, .int .i64 fx, .int .i64 fy, .int .i64 sb], .bool true]) (by simp [results, Tryz.results9, go_sem, c0, c1, c2, d0, d1, d2, d3, d4]) rfl ⟨.inr ⟨rfl, x, y, gx, px, gy, py, by rw [HE1.out, HE2.out], FT.out.1.below (bd (Below.refl _ _)), FT.out.2.below (bd (Below.refl _ _)), lines_drew FL.out.1, lines_drew FL.out.2⟩, bd FE.out.2.2⟩
    · have HS := hide (show stB 20 o (1 + p) (1 + q) = false by unfold stB; rw [hbb]; exact decide_eq_false hz)
      rw [HS.out]
      have CM2 : ∀ w', Below w.heap.size w w' → Calls Tryz.prog 22 #[.agg #[.int .i64 o.kd, .int .i64 o.bd, .int .i64 o.sg, .int .i64 o.rd, .slice ax o.xs.length cx, .slice ay o.ys.length cy, .int .i64 o.fl, .int .i64 o.wd, .int .i64 o.ht], .int .i64 (1 + p), .int .i64 (1 + q)] w' fun e w'' => e = .returned (.tuple #[.agg #[.pointer none, .pointer none, .int .i64 0], .int .i64 (opCode o (1 + p) (1 + q))]) ∧ Below w'.heap.size w' w'' := fun w' b' =>
        (CM1 w' b').mono fun e w'' ⟨hA, hB⟩ => by
          rcases hA with ⟨_, he⟩ | ⟨h0, _⟩
          · exact ⟨he, hB⟩
          · exact absurd h0 hz
      have CD2 : ∀ w', Below w.heap.size w w' → Calls Tryz.prog 25 #[.agg #[.int .i64 o.kd, .int .i64 o.bd, .int .i64 o.sg, .int .i64 o.rd, .slice ax o.xs.length cx, .slice ay o.ys.length cy, .int .i64 o.fl, .int .i64 o.wd, .int .i64 o.ht], .int .i64 (1 + p), .int .i64 (1 + q)] w' fun e w'' => e = .returned (.tuple #[.agg #[.slice none 0 0, .slice none 0 0, .int .i64 0, .int .i64 0, .int .i64 0], .int .i64 (opCode o (1 + p) (1 + q))]) ∧ Below w'.heap.size w' w'' := fun w' b' =>
        (CD1 w' b').mono fun e w'' ⟨hA, hB⟩ => by
          rcases hA with ⟨_, he⟩ | ⟨h0, _⟩
          · exact ⟨he, hB⟩
          · exact absurd h0 hz
      have qz : (opCode o (1 + p) (1 + q) == 0) = false := beq_eq_false_iff_ne.2 hz
      clear hbb CM1 CD1 NE hz
      generalize stgOf o (1 + p) (1 + q) = S at *
      generalize opCode o (1 + p) (1 + q) = kc at *
      obtain ⟨kd, bo, sg, rd, xs, ys, fl, wd, ht⟩ := o
      simp only at CLT P0 hW0 CR CM2 CD2 ⊢
      generalize xs.length = nx at *
      generalize ys.length = ny at *
      go_enter Tryz.func9, Tryz.ntmps9
      go_upto_region 1 with fail
      clear hW0
      obtain ⟨g0, g1, g2, g3, g4, g5, g6, g7, g8⟩ := P0.out
      go_upto_region 5 with (first
        | (go_at_call 24; (with_reducible refine (CLT _ B00.out).mono ?_); rintro e w2 ⟨rfl, b2⟩; have B2 := hide (bt (ba B00.out _) b2); have T2 := hide ((T0.out.below (below1 _ _)).below b2); have U2 := hide ((U0.out.below (below1 _ _)).below b2); have P2 := hide ((P0.out.below (below1 _ _)).below b2); clear g0 g1 g2 g3 g4 g5 g6 g7 g8; obtain ⟨h0, h1, h2, h3, h4, h5, h6, h7, h8⟩ := P2.out)
        | (go_at_call 22; (with_reducible refine (CM2 _ B2.out).mono ?_); rintro e w3 ⟨rfl, b3⟩; have B3 := hide (bt B2.out b3); have T3 := hide (T2.out.below b3); have U3 := hide (U2.out.below b3); have P3 := hide ((P2.out.below b3).below (below1 w3 (.cells #[.pointer none, .pointer none, .int .i64 0] 31))); clear h0 h1 h2 h3 h4 h5 h6 h7 h8; obtain ⟨k0, k1, k2, k3, k4, k5, k6, k7, k8⟩ := P3.out)
        | (go_at_call 26; (with_reducible refine (CR _).mono ?_); rintro e w4 ⟨rfl, b4⟩; have B4 := hide (bt (ba B3.out _) b4); have T4 := hide ((T3.out.below (below1 _ _)).below b4); have U4 := hide ((U3.out.below (below1 _ _)).below b4); have S4 := hide ((S3.new w3 31 (.pointer none) (.pointer none) (.int .i64 0)).below b4); have Z4 := hide (show w.heap.size + 1 + 1 < w4.heap.size from (by have := B00.out.size; have := Z0.out; have := (bt (bt (ba (Below.refl _ W0) _) b2) b3).size; have := b4.size; simp at *; omega)); clear k0 k1 k2 k3 k4 k5 k6 k7 k8)
        | (go_at_call 25; (with_reducible refine (CD2 _ B4.out).mono ?_); rintro e w5 ⟨rfl, b5⟩; have B5 := hide (bt B4.out b5); have T5 := hide (T4.out.below b5); have U5 := hide (U4.out.below b5); have S5' := hide (S4.out.below b5); have ZB := hide b5.size))
      have T6 := hide (T5.out.below (below1 w5 (.cells #[.slice none 0 0, .slice none 0 0, .int .i64 0, .int .i64 0, .int .i64 0] 34)))
      have U6 := hide (U5.out.below (below1 w5 (.cells #[.slice none 0 0, .slice none 0 0, .int .i64 0, .int .i64 0, .int .i64 0] 34)))
      have S6 := hide (S5'.out.below (below1 w5 (.cells #[.slice none 0 0, .slice none 0 0, .int .i64 0, .int .i64 0, .int .i64 0] 34)))
      have V6 := hide (S5.new w5 34 (.slice none 0 0) (.slice none 0 0) (.int .i64 0) (.int .i64 0) (.int .i64 0))
      have B6 := hide (ba B5.out (.cells #[.slice none 0 0, .slice none 0 0, .int .i64 0, .int .i64 0, .int .i64 0] 34))
      have z4 : w.heap.size + 1 + 1 < w4.heap.size := Z4.out
      have z5 : w4.heap.size ≤ w5.heap.size := ZB.out
      generalize w5.alloc (.cells #[.slice none 0 0, .slice none 0 0, .int .i64 0, .int .i64 0, .int .i64 0] 34) = W6 at T6 U6 S6 V6 B6 ⊢
      obtain ⟨⟨t0, tf0⟩, ⟨t1, tf1⟩, ⟨t2, tf2⟩⟩ := T6.out
      obtain ⟨⟨u0, uf0⟩, ⟨u1, uf1⟩, ⟨u2, uf2⟩, ⟨u3, uf3⟩, ⟨u4, uf4⟩⟩ := U6.out
      obtain ⟨⟨s0, sf0⟩, ⟨s1, sf1⟩, ⟨s2, sf2⟩⟩ := S6.out
      obtain ⟨⟨v0, vf0⟩, ⟨v1, vf1⟩, ⟨v2, vf2⟩, ⟨v3, vf3⟩, ⟨v4, vf4⟩⟩ := V6.out
      clear T5 U5 S5' B5 T4 U4 S4 B4 T3 U3 P3 B3 T2 U2 P2 B2 CM2 CD2 CR CLT
      have FE := hide (fill35_all T6.out U6.out (by omega) B6.out (by omega) (by omega) (.pointer none) (.pointer none) (.int .i64 0) (.slice none 0 0) (.slice none 0 0) (.int .i64 0) (.int .i64 0) (.int .i64 0))
      unfold fill35 at FE
      clear T6 U6 S6 V6 B6
      go_region
      go_wp2
      generalize (((((((W6.setCell ⟨w.heap.size + 1, 0, none⟩ (.pointer none)).setCell ⟨w.heap.size + 1, 1, none⟩ (.pointer none)).setCell ⟨w.heap.size + 1, 2, none⟩ (.int .i64 0)).setCell ⟨w.heap.size + 1 + 1, 0, none⟩ (.slice none 0 0)).setCell ⟨w.heap.size + 1 + 1, 1, none⟩ (.slice none 0 0)).setCell ⟨w.heap.size + 1 + 1, 2, none⟩ (.int .i64 0)).setCell ⟨w.heap.size + 1 + 1, 3, none⟩ (.int .i64 0)).setCell ⟨w.heap.size + 1 + 1, 4, none⟩ (.int .i64 0) = WE at FE ⊢
      obtain ⟨⟨c0, _⟩, ⟨c1, _⟩, ⟨c2, _⟩⟩ := FE.out.1
      obtain ⟨⟨d0, _⟩, ⟨d1, _⟩, ⟨d2, _⟩, ⟨d3, _⟩, ⟨d4, _⟩⟩ := FE.out.2.1
      exact bodyPost_ret (v := .tuple #[.agg #[.pointer none, .pointer none, .int .i64 0], .agg #[.slice none 0 0, .slice none 0 0, .int .i64 0, .int .i64 0, .int .i64 0], .bool false]) (by simp [results, Tryz.results9, go_sem, c0, c1, c2, d0, d1, d2, d3, d4]) rfl ⟨.inl ⟨rfl, rfl⟩, bd FE.out.2.2⟩
end Go.Proofs.YtdpkigdfhfippaaGreatDoor
