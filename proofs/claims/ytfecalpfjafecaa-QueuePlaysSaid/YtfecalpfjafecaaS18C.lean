/- The document's queue: New, Send, Receive. -/
import Derived.Test.YtfecalpfjafecaaS18B
import Derived.Test.YtfecalpfjafecaaLE
import Derived.Test.YtfecalpfjafecaaS16O
namespace Go.Proofs.Ytfecalpfjafecaa
open Go.RowKit


set_option maxHeartbeats 4000000 in
theorem dnew18_any (a : Int) (w : World) : Calls Try.prog 15 #[.int .i64 a] w fun e w' => e = .returned (.agg #[.int .i64 (roomQ a), .slice none 0 0, .bool false]) ∧ Below w.heap.size w w' := by
  obtain ⟨x, hx⟩ : ∃ x, roomQ a = x := ⟨_, rfl⟩
  rw [hx]
  have HX := hide hx
  clear hx
  go_enter Try.func15, Try.ntmps15
  go_wp2
  all_goals
    have hx := HX.out
    unfold roomQ at hx
    repeat (first | rw [if_pos (by omega)] at hx | rw [if_neg (by omega)] at hx)
    subst hx
    exact bodyPost_ret (by simp [results, Try.results15, go_sem]) rfl ⟨rfl, below1 _ _⟩
/-- What is behind a slice: the same block, or a new one. -/
def Near18 (w : World) (v v' : Value) : Prop := ∀ g, v'.ownBlock = some g → v.ownBlock = some g ∨ w.heap.size ≤ g
theorem more_below {k : IntKind} {T : TypeId} {W w1 w2 : World} {v : Value} {xs : List Int} {o : Obj} (hb : Below W.heap.size W w1) (ho : OwnI k T w1 W.heap.size v xs) (hg : (w1.alloc o).grownBy w2 v.ownBlock) : Below W.heap.size W w2 :=
  (hb.alloc hb.size o).grown hg (by have := hb.size; simp; omega) (fun j hj => (World.ownsRow.lt ho j hj).1)
set_option maxHeartbeats 4000000 in
theorem drec18_any {w : World} {B room n cap : Nat} {L : List Int} {ad : Option Addr} {cl : Bool} (hn : L.length = n) (hl : n ≤ 4096) (ho : OwnO .i64 w B (.slice ad n cap) L) :
    Calls Try.prog 16 #[.agg #[.int .i64 (room : Int), .slice ad n cap, .bool cl]] w fun e w' => ∃ ad' cap', e = .returned (.tuple #[.agg #[.int .i64 (room : Int), .slice ad' (n - 1) cap', .bool cl], .int .i64 (L.headD 0), .int .i64 (recC L cl)]) ∧ OwnO .i64 w' B (.slice ad' (n - 1) cap') L.tail ∧ Near18 w (.slice ad n cap) (.slice ad' (n - 1) cap') ∧ Below w.heap.size w w' := by
  have HO := hide ho
  cases L with
  | nil =>
    obtain rfl : n = 0 := hn.symm
    have HH : Near18 w (.slice ad 0 cap) (.slice ad 0 cap) := fun g hg => Or.inl hg
    cases cl
    · clear ho hn
      go_enter Try.func16, Try.ntmps16
      go_wp2
      exact bodyPost_ret (by simp [results, Try.results16, go_sem]; rfl) rfl ⟨ad, cap, rfl, HO.out.below (ba (below1 _ _) _), HH, ba (below1 _ _) _⟩
    · clear ho hn
      go_enter Try.func16, Try.ntmps16
      go_wp2
      exact bodyPost_ret (by simp [results, Try.results16, go_sem]; rfl) rfl ⟨ad, cap, rfl, HO.out.below (ba (below1 _ _) _), HH, ba (below1 _ _) _⟩
  | cons x L =>
    obtain ⟨i0, hi, hz0, hz1, hz2⟩ := info_parts infoIntQ
    have hn' := hn
    rcases ho with ⟨_, h0⟩ | ⟨g, off, cap', hv, g1, g2, g3, g4, g5, g6⟩
    · cases h0
    · simp only [Value.slice.injEq] at hv
      obtain ⟨rfl, hln, rfl⟩ := hv
      have cx : w.cell? ⟨g, off, none⟩ = some (.int .i64 x) := g4 0 (by simp)
      have HT := hide (HO.out.tail hn (by rw [← hn]; simp))
      have RT := run_tail (P := Try.prog) (t := 32) (e := 3) (i := i0) Try.underlying32 hi hz1 g off n cap (by rw [← hn]; simp) (by rw [← hn]; exact g3)
      have h1n : 1 ≤ n := by rw [← hn]; simp
      have hne : ((n : Int) == 0) = false := by rw [beq_eq_false_iff_ne]; omega
      have HH : Near18 w (.slice (some ⟨g, off, none⟩) n cap) (.slice (some ⟨g, if cap = 1 then off else off + 1, none⟩) (n - 1) (cap - 1)) := fun g' hg => Or.inl hg
      have cx1 := ca (ob := .cells #[.int .i64 (room : Int), .slice (some ⟨g, off, none⟩) n cap, .bool cl] 34) g2 cx
      clear hn hn' hln g1 g3 g4 g5 g6
      obtain ⟨off2, ho2⟩ : ∃ off2, (if cap = 1 then off else off + 1) = off2 := ⟨_, rfl⟩
      rw [ho2] at HT RT HH
      clear ho2
      go_enter Try.func16, Try.ntmps16
      go_wp2
      exact bodyPost_ret (by simp [results, Try.results16, go_sem]; rfl) rfl ⟨some ⟨g, off2, none⟩, cap - 1, by simp [recC], HT.out.below (ba (below1 _ _) _), HH, ba (below1 _ _) _⟩
set_option maxHeartbeats 4000000 in
theorem dsend18_any {w : World} {B room n cap : Nat} {L : List Int} {ad : Option Addr} {cl : Bool} {x : Int} (hn : L.length = n) (hl : n ≤ 4096) (hB : B ≤ w.heap.size) (ho : OwnO .i64 w B (.slice ad n cap) L) :
    Calls Try.prog 18 #[.agg #[.int .i64 (room : Int), .slice ad n cap, .bool cl], .int .i64 x] w fun e w' => ∃ ad' n' cap', e = .returned (.tuple #[.agg #[.int .i64 (room : Int), .slice ad' n' cap', .bool cl], .int .i64 (sendC room L cl)]) ∧ OwnO .i64 w' B (.slice ad' n' cap') (sendL room L cl x) ∧ Near18 w (.slice ad n cap) (.slice ad' n' cap') ∧ Below w.heap.size w w' := by
  have HO := hide ho
  have HH : Near18 w (.slice ad n cap) (.slice ad n cap) := fun g hg => Or.inl hg
  have HN := hide hn
  cases cl
  · by_cases hlt : n < room
    · obtain ⟨i0, hi, hz0, hz1, hz2⟩ := info_parts infoIntQ
      have q1 : sendC room L false = 0 := by simp [sendC, hn, hlt]
      have q2 : sendL room L false x = L ++ [x] := by simp [sendL, hn, hlt]
      rw [q1, q2]
      obtain ⟨ad0, cap0, hv, hr0, hz0'⟩ := ho.form
      simp only [Value.slice.injEq] at hv
      obtain ⟨rfl, hln0, rfl⟩ := hv
      have HR := hide hr0
      have HZ := hide (fun e => (hz0' e).2)
      have q3 : ¬ room ≤ n := by omega
      have HB := hide hB
      obtain ⟨W2, hW2⟩ : ∃ W2, ((w.alloc (.cells #[.int .i64 (room : Int), .slice ad n cap, .bool false] 34)).alloc (.cells #[.int .i64 0, .slice none 0 0, .bool false] 34)) = W2 := ⟨_, rfl⟩
      have b2 : Below w.heap.size w W2 := by rw [← hW2]; exact ba (below1 _ _) _
      have s2 : W2.heap.size = w.heap.size + 2 := by rw [← hW2]; simp
      obtain ⟨HX, HY⟩ := cel_two (w := w) (W := W2) (x := .int .i64 (room : Int)) (y := .slice ad n cap) (z := .bool false) (p := .int .i64 0) (q := .slice none 0 0) (s := .bool false) (T := 34) (T' := 34) (by rw [hW2]; exact Below.refl _ _)
      obtain ⟨x0, x1, x2, x3, x4, x5⟩ := HX
      obtain ⟨y0, y1, y2, y3, y4, y5⟩ := HY
      have HB2 := hide b2
      have HS2 := hide s2
      have HW := hide hW2
      clear ho hn q1 q2 hr0 hz0' hln0 hB b2 s2 hW2 HH
      go_enter Try.func18, Try.ntmps18
      go_upto_region 5 with fail
      rw [HW.out]
      have xx1 := ca (ob := .cells #[] 3) (cell_ltL x1) x1
      go_wp2_with (first
        | (at_builtin; refine wpList_append_row .i64 _ rfl _ _ 32 rfl W2.heap.size 3 i0 (.int .i64 0) 8 Try.underlying32 hi hz0 hz1 hz2 rfl (.slice (some ⟨W2.heap.size, 0, none⟩) 0 0) [] rfl (own_lit0 _ _ _ _ (Nat.le_refl _)) ad n cap L rfl HN.out ((HR.out.below HB2.out).below (below1 _ _)) HZ.out (by simp; unfold maxLen; omega) (by simp; omega) (by simp) ?_; intro v1 w1 own1 grow1 _; rw [List.nil_append] at own1; have B1 := hide (grown_lit (Below.refl _ _) grow1); have O1 := hide own1; clear own1 grow1)
        | (at_builtin; refine wpList_append_row .i64 _ rfl _ _ 32 rfl W2.heap.size 3 i0 (.int .i64 0) 8 Try.underlying32 hi hz0 hz1 hz2 rfl v1 L rfl (OwnI.alloc O1.out _) (some ⟨w1.heap.size, 0, none⟩) 1 1 [x] rfl rfl (row_lit .i64 w1 3 [x]) (fun e => by cases e) (by rw [HN.out]; unfold maxLen; omega) (by rw [HN.out]; omega) (by simp; have := B1.out.size; omega) ?_; intro v2 w2 own2 grow2 _; have B3 := hide (more_below B1.out O1.out grow2); obtain ⟨ad2, cap2, rfl, _⟩ := own2.form; have O2 := hide own2; have z0 := cb B3.out (cell_ltL x0) x0; have z1 := cb B3.out (cell_ltL x0) x1; have z2 := cb B3.out (cell_ltL x0) x2; have z3 := fb B3.out (cell_ltL x0) x3; have z4 := fb B3.out (cell_ltL x0) x4; have z5 := fb B3.out (cell_ltL x0) x5; have t0 := cb B3.out (cell_ltL y0) y0; have t1 := cb B3.out (cell_ltL y0) y1; have t2 := cb B3.out (cell_ltL y0) y2; have t3 := fb B3.out (cell_ltL y0) y3; have t4 := fb B3.out (cell_ltL y0) y4; have t5 := fb B3.out (cell_ltL y0) y5; clear own2 grow2))
      have hf := own_fresh O2.out
      have OF : Off (fun k => k = w.heap.size ∨ k = w.heap.size + 1) w2 ((((w2.setCell ⟨w.heap.size, 1, none⟩ (.slice ad2 (L.length + 1) cap2)).setCell ⟨w.heap.size + 1, 0, none⟩ (.int .i64 (room : Int))).setCell ⟨w.heap.size + 1, 1, none⟩ (.slice ad2 (L.length + 1) cap2)).setCell ⟨w.heap.size + 1, 2, none⟩ (.bool false)) :=
        ((((Off.refl _ _).set (fun _ => Or.inl rfl) _).set (fun _ => Or.inr rfl) _).set (fun _ => Or.inr rfl) _).set (fun _ => Or.inr rfl) _
      have hs2 := HS2.out
      have OO := (OwnO.of_own O2.out).off OF (fun g hg e => by have := hf g hg; omega)
      rw [List.length_append, List.length_singleton] at OO hf
      exact bodyPost_ret (by simp [results, Try.results18, go_sem, t0, t1, t2]) rfl ⟨ad2, L.length + 1, cap2, rfl, OO.monoB (by have := HB.out; omega), (fun g hg => Or.inr (by have := hf g hg; omega)), bs (bs (bs (bs (bt HB2.out B3.out) (Nat.le_refl _) _) (by omega) _) (by omega) _) (by omega) _⟩
    · have q1 : sendC room L false = 1 := by simp [sendC, hn, hlt]
      have q2 : sendL room L false x = L := by simp [sendL, hn, hlt]
      rw [q1, q2]
      have q3 : room ≤ n := by omega
      clear ho hn q1 q2
      go_enter Try.func18, Try.ntmps18
      go_wp2
      exact bodyPost_ret (by simp [results, Try.results18, go_sem]) rfl ⟨ad, n, cap, rfl, HO.out.below (ba (below1 _ _) _), HH, ba (below1 _ _) _⟩
  · have q1 : sendC room L true = 2 := by simp [sendC]
    have q2 : sendL room L true x = L := by simp [sendL]
    rw [q1, q2]
    clear ho hn q1 q2
    go_enter Try.func18, Try.ntmps18
    go_wp2
    exact bodyPost_ret (by simp [results, Try.results18, go_sem]) rfl ⟨ad, n, cap, rfl, HO.out.below (ba (below1 _ _) _), HH, ba (below1 _ _) _⟩
end Go.Proofs.Ytfecalpfjafecaa
