/- The program's queue: New, Room, Len, Closed, CanSend, CanReceive, Send, Receive, Close, List. -/
import Derived.Test.YtfecalpfjafecaaS18A
import Derived.Test.YtfecalpfjafecaaS16N
import Derived.Laws.CopyOwn
namespace Go.Proofs.Ytfecalpfjafecaa
open Go.RowKit


theorem infoIntQ : (Try.prog.info? 3).map (fun i => (i.zero, i.size, i.bytes)) = some (some (.int .i64 0), 1, 8) := by kernel_rfl
/-- What comes of Send. -/
def sendC (room : Nat) (L : List Int) (cl : Bool) : Int := if cl then 2 else if L.length < room then 0 else 1
def sendL (room : Nat) (L : List Int) (cl : Bool) (x : Int) : List Int := if cl then L else if L.length < room then L ++ [x] else L
/-- What comes of Receive. -/
def recC (L : List Int) (cl : Bool) : Int := if L.length = 0 then (if cl then 2 else 1) else 0
theorem qroom_any {w : World} {base q room : Nat} {S : Nat → Prop} {L : List Int} {cl : Bool} (R : QueueAt w base q S room L cl) :
    Calls Try.prog 13 #[.pointer (some ⟨q, 0, none⟩)] w fun e w' => e = .returned (.int .i64 (room : Int)) ∧ w = w' := by
  have c0 := R.c0
  clear R
  go_enter Try.func13, Try.ntmps13
  go_wp2
  go_ret
  exact ⟨rfl, rfl⟩
theorem qclosed_any {w : World} {base q room : Nat} {S : Nat → Prop} {L : List Int} {cl : Bool} (R : QueueAt w base q S room L cl) :
    Calls Try.prog 19 #[.pointer (some ⟨q, 0, none⟩)] w fun e w' => e = .returned (.bool cl) ∧ w = w' := by
  have c2 := R.c2
  clear R
  go_enter Try.func19, Try.ntmps19
  go_wp2
  go_ret
  exact ⟨rfl, rfl⟩
theorem qlen_any {w : World} {base q room : Nat} {S : Nat → Prop} {L : List Int} {cl : Bool} (R : QueueAt w base q S room L cl) :
    Calls Try.prog 11 #[.pointer (some ⟨q, 0, none⟩)] w fun e w' => e = .returned (.int .i64 (L.length : Int)) ∧ w = w' := by
  obtain ⟨v, c1, ho, _⟩ := R.mem
  obtain ⟨ad, cap, rfl, _⟩ := ho.form
  clear R ho
  generalize L.length = n at *
  go_enter Try.func11, Try.ntmps11
  go_wp2
  go_ret
  exact ⟨rfl, rfl⟩
theorem qcansend_any {w : World} {base q room : Nat} {S : Nat → Prop} {L : List Int} {cl : Bool} (R : QueueAt w base q S room L cl) :
    Calls Try.prog 9 #[.pointer (some ⟨q, 0, none⟩)] w fun e w' => e = .returned (.bool (cl || decide (L.length < room))) ∧ Drew w w' := by
  have c0 := R.c0
  have c2 := R.c2
  have CL := fun m => qlen_any (R.drewN m)
  have hl := R.len
  clear R
  generalize L.length = n at *
  cases cl
  · by_cases hlt : n < room
    · have HD := hide (decide_eq_true hlt)
      go_enter Try.func9, Try.ntmps9
      go_wp2
      go_quiet ((go_at_call 11; with_reducible exact calmE (CL _)))
      go_wp2
      go_ret
      exact ⟨by rw [HD.out]; rfl, ⟨_, rfl⟩⟩
    · have HD := hide (decide_eq_false hlt)
      go_enter Try.func9, Try.ntmps9
      go_wp2
      go_quiet ((go_at_call 11; with_reducible exact calmE (CL _)))
      go_wp2
      go_ret
      exact ⟨by rw [HD.out]; rfl, ⟨_, rfl⟩⟩
  · go_enter Try.func9, Try.ntmps9
    go_wp2
    go_quiet ((go_at_call 11; with_reducible exact calmE (CL _)))
    go_wp2
    go_ret
    exact ⟨by simp, ⟨_, rfl⟩⟩
theorem qcanrec_any {w : World} {base q room : Nat} {S : Nat → Prop} {L : List Int} {cl : Bool} (R : QueueAt w base q S room L cl) :
    Calls Try.prog 14 #[.pointer (some ⟨q, 0, none⟩)] w fun e w' => e = .returned (.bool (cl || decide (0 < L.length))) ∧ Drew w w' := by
  have c2 := R.c2
  have CL := qlen_any R
  have hl := R.len
  clear R
  generalize L.length = n at *
  cases cl
  · by_cases hlt : 0 < n
    · have HD := hide (decide_eq_true hlt)
      go_enter Try.func14, Try.ntmps14
      go_wp2_with (go_at_call 11; (with_reducible refine CL.mono ?_); rintro e w1 ⟨rfl, rfl⟩)
      go_ret
      exact ⟨by rw [HD.out]; rfl, Drew.refl _⟩
    · have HD := hide (decide_eq_false hlt)
      go_enter Try.func14, Try.ntmps14
      go_wp2_with (go_at_call 11; (with_reducible refine CL.mono ?_); rintro e w1 ⟨rfl, rfl⟩)
      go_ret
      exact ⟨by rw [HD.out]; rfl, Drew.refl _⟩
  · go_enter Try.func14, Try.ntmps14
    go_wp2_with (go_at_call 11; (with_reducible refine CL.mono ?_); rintro e w1 ⟨rfl, rfl⟩)
    go_ret
    exact ⟨by simp, Drew.refl _⟩
theorem qnew_any (a : Int) (a1 : -9223372036854775808 ≤ a) (a2 : a ≤ 9223372036854775807) (w : World) :
    Calls Try.prog 8 #[.int .i64 a] w fun e w' => ∃ q S, e = .returned (.pointer (some ⟨q, 0, none⟩)) ∧ QueueAt w' w.heap.size q S (roomQ a).toNat [] false ∧ Below w.heap.size w w' := by
  go_enter Try.func8, Try.ntmps8
  have ra := hide (roomQ_in a)
  go_wp2
  all_goals
    go_ret
    have ra := ra.out
    first
      | refine ⟨_, rfl, ⟨_, queue_new w ?_ (by omega) (by omega) _⟩, below1 _ _⟩
      | refine ⟨_, _, rfl, queue_new w ?_ (by omega) (by omega) _, below1 _ _⟩
    unfold roomQ
    (repeat split) <;> omega
theorem qclose_any {w : World} {base q room : Nat} {S : Nat → Prop} {L : List Int} {cl : Bool} (R : QueueAt w base q S room L cl) :
    Calls Try.prog 17 #[.pointer (some ⟨q, 0, none⟩)] w fun e w' => e = .returned (.bool (!cl)) ∧ QueueAt w' base q S room L true ∧ Off S w w' := by
  have c2 := R.c2
  have f2 := R.fr 2
  have HR := hide R
  clear R
  go_enter Try.func17, Try.ntmps17
  go_wp2
  go_ret
  obtain ⟨h1, h2⟩ := HR.out.shut
  exact ⟨rfl, h1, h2.mono (fun k _ e => by subst e; exact HR.out.sq)⟩
set_option maxHeartbeats 4000000 in
theorem qsend_closed {w : World} {base q room : Nat} {S : Nat → Prop} {L : List Int} {x : Int} (R : QueueAt w base q S room L true) :
    Calls Try.prog 10 #[.pointer (some ⟨q, 0, none⟩), .int .i64 x] w fun e w' => e = .returned (.int .i64 2) ∧ w = w' := by
  have c2 := R.c2
  clear R
  go_enter Try.func10, Try.ntmps10
  go_wp2
  go_ret
  exact ⟨rfl, rfl⟩
set_option maxHeartbeats 4000000 in
theorem qsend_full {w : World} {base q room : Nat} {S : Nat → Prop} {L : List Int} {x : Int} (R : QueueAt w base q S room L false) (hf : ¬ L.length < room) :
    Calls Try.prog 10 #[.pointer (some ⟨q, 0, none⟩), .int .i64 x] w fun e w' => e = .returned (.int .i64 1) ∧ Drew w w' := by
  have c2 := R.c2
  have CS := qcansend_any R
  rw [decide_eq_false hf] at CS
  clear R hf
  go_enter Try.func10, Try.ntmps10
  go_wp2_with (go_at_call 9; (with_reducible refine CS.mono ?_); rintro e w1 ⟨rfl, ⟨m, rfl⟩⟩)
  go_ret
  exact ⟨rfl, ⟨_, rfl⟩⟩
theorem sent_cells {w w1 : World} {q : Nat} {v : Value} {o : Obj} (hq : q < w.heap.size) (hc : w.cell? ⟨q, 1, none⟩ = some v) (hf : w.frozen? ⟨q, 1, none⟩ = false) (hn : ∀ g, v.ownBlock = some g → g ≠ q) (h2 : (w.alloc o).grownBy w1 v.ownBlock) :
    w1.cell? ⟨q, 1, none⟩ = some v ∧ w1.frozen? ⟨q, 1, none⟩ = false := by
  have ne : some q ≠ v.ownBlock := fun e => hn q e.symm rfl
  exact ⟨cg h2 ne (ca hq hc), fg h2 ne (ca hq hc) (fa hq hf)⟩
set_option maxHeartbeats 4000000 in
theorem qsend_ok {w : World} {base q room : Nat} {S : Nat → Prop} {L : List Int} {x : Int} (R : QueueAt w base q S room L false) (hl : L.length < room) :
    Calls Try.prog 10 #[.pointer (some ⟨q, 0, none⟩), .int .i64 x] w fun e w' => e = .returned (.int .i64 0) ∧ ∃ S', QueueAt w' base q S' room (L ++ [x]) false ∧ Off S w w' ∧ (∀ k, S' k → S k ∨ w.heap.size ≤ k) ∧ ∀ k, S k → S' k := by
  obtain ⟨i0, hi, hz0, hz1, hz2⟩ := info_parts infoIntQ
  have c2 := R.c2
  have CS := qcansend_any R
  rw [decide_eq_true hl] at CS
  obtain ⟨v, c1, ho, hb⟩ := R.mem
  have hq := R.hi q R.sq
  have hbase := R.lo q R.sq
  have f1 := R.fr 1
  obtain ⟨ad, cap, hv, hrow, hz⟩ := ho.form
  have HR := hide R
  have HL := hide hl
  have HO := hide ho
  have HB := hide hb
  have HC1 := hide c1
  have HV := hide hv
  have h2 := R.r2
  obtain ⟨n, hn⟩ : ∃ n, L.length = n := ⟨_, rfl⟩
  rw [hn] at hv hl
  subst hv
  have HN := hide hn
  have HQ := hide hq
  have HBS := hide hbase
  clear R ho hb hrow hz hn hq hbase
  go_enter Try.func10, Try.ntmps10
  go_wp2_with (first
    | (go_at_call 9; (with_reducible refine CS.mono ?_); rintro e w1 ⟨rfl, ⟨m, rfl⟩⟩; have HOD := hide (HO.out.below (bdN (Below.refl _ _) m)); have HCD := hide (cb (bdN (Below.refl _ _) m) HQ.out HC1.out); have HFD := hide (fb (bdN (Below.refl _ _) m) HQ.out f1))
    | (at_builtin; go_loud (refine wpList_append_o .i64 _ rfl _ _ 32 rfl 3 i0 (.int .i64 0) 8 Try.underlying32 hi hz0 hz1 hz2 rfl base (.slice ad n cap) L rfl (HOD.out.alloc _) (by simp; have := HQ.out; have := HBS.out; omega) ⟨(w.drewN m).heap.size, 0, none⟩ 1 x rfl (new_one _ _ _) (by rw [HN.out]; unfold maxLen; omega) (by rw [HN.out]; omega) ?_; intro v2 w2 own2 grow2 hat2; obtain ⟨z1, g1⟩ := sent_cells (w := w.drewN m) HQ.out HCD.out HFD.out (fun g hg => (HB.out g hg).2) grow2; have HS := hide (HR.out.drewN m |>.sent HCD.out HB.out HL.out own2 grow2 hat2); have HH := hide hat2; obtain ⟨ad2, cap2, rfl, _⟩ := own2.form; clear own2 grow2)))
  go_ret
  obtain ⟨s1, s2⟩ := HS.out
  have hh := HH.out
  rw [List.length_append, List.length_singleton] at s1 s2 hh
  refine ⟨rfl, _, s1, ((Off.refl S w).drewN m).trans s2 (fun k _ h => h), fun k hk => ?_, fun k hk => Or.inl hk⟩
  rcases hk with hk | hk
  · exact Or.inl hk
  · rcases hh with e | e
    · exact Or.inl (HB.out k (e ▸ hk)).1
    · have := e k hk
      simp at this
      exact Or.inr (by omega)
/-- Send, whatever the queue is. -/
theorem qsend_any {w : World} {base q room : Nat} {S : Nat → Prop} {L : List Int} {cl : Bool} {x : Int} (R : QueueAt w base q S room L cl) :
    Calls Try.prog 10 #[.pointer (some ⟨q, 0, none⟩), .int .i64 x] w fun e w' => e = .returned (.int .i64 (sendC room L cl)) ∧ ∃ S', QueueAt w' base q S' room (sendL room L cl x) cl ∧ Off S w w' ∧ (∀ k, S' k → S k ∨ w.heap.size ≤ k) ∧ ∀ k, S k → S' k := by
  cases cl
  · by_cases hl : L.length < room
    · refine (qsend_ok R hl).mono ?_
      rintro e w' ⟨rfl, S', h1, h2, h3, h4⟩
      refine ⟨by simp [sendC, hl], S', by simpa [sendL, hl] using h1, h2, h3, h4⟩
    · refine (qsend_full R hl).mono ?_
      rintro e w' ⟨rfl, m, rfl⟩
      refine ⟨by simp [sendC, hl], S, by simpa [sendL, hl] using R.drewN m, (Off.refl S w).drewN m, fun k hk => Or.inl hk, fun k hk => hk⟩
  · refine (qsend_closed R).mono ?_
    rintro e w' ⟨rfl, rfl⟩
    exact ⟨by simp [sendC], S, by simpa [sendL] using R, Off.refl S w, fun k hk => Or.inl hk, fun k hk => hk⟩
set_option maxHeartbeats 4000000 in
theorem qrec_none {w : World} {base q room : Nat} {S : Nat → Prop} {cl : Bool} (R : QueueAt w base q S room [] cl) :
    Calls Try.prog 12 #[.pointer (some ⟨q, 0, none⟩)] w fun e w' => e = .returned (.tuple #[.int .i64 0, .int .i64 (if cl then 2 else 1)]) ∧ Drew w w' := by
  have CS := qcanrec_any R
  have CL := fun m => qlen_any (R.drewN m)
  rw [show (decide (0 < ([] : List Int).length)) = false from rfl] at CS
  rw [show ([] : List Int).length = 0 from rfl] at CL
  clear R
  cases cl
  · go_enter Try.func12, Try.ntmps12
    go_wp2_with (go_at_call 14; (with_reducible refine CS.mono ?_); rintro e w1 ⟨rfl, ⟨m, rfl⟩⟩)
    go_ret2
    exact ⟨rfl, ⟨_, rfl⟩⟩
  · go_enter Try.func12, Try.ntmps12
    go_wp2_with (first
      | (go_at_call 14; (with_reducible refine CS.mono ?_); rintro e w1 ⟨rfl, ⟨m, rfl⟩⟩)
      | (go_at_call 11; (with_reducible refine (CL _).mono ?_); rintro e w2 ⟨rfl, rfl⟩))
    go_ret2
    exact ⟨rfl, ⟨_, rfl⟩⟩
set_option maxHeartbeats 4000000 in
theorem qrec_some {w : World} {base q room : Nat} {S : Nat → Prop} {L : List Int} {cl : Bool} {x : Int} (R : QueueAt w base q S room (x :: L) cl) :
    Calls Try.prog 12 #[.pointer (some ⟨q, 0, none⟩)] w fun e w' => e = .returned (.tuple #[.int .i64 x, .int .i64 0]) ∧ QueueAt w' base q S room L cl ∧ Off S w w' := by
  obtain ⟨i0, hi, hz0, hz1, hz2⟩ := info_parts infoIntQ
  have CS := qcanrec_any R
  have CL := fun m => qlen_any (R.drewN m)
  rw [show (cl || decide (0 < (x :: L).length)) = true by simp] at CS
  obtain ⟨v, c1, ho, hb⟩ := R.mem
  have f1 := R.fr 1
  rcases ho with ⟨_, h0⟩ | ⟨g, off, cap, rfl, g1, g2, g3, g4, g5, g6⟩
  · cases h0
  · have ho : OwnO .i64 w base (.slice (some ⟨g, off, none⟩) (x :: L).length cap) (x :: L) := Or.inr ⟨g, off, cap, rfl, g1, g2, g3, g4, g5, g6⟩
    have cx : w.cell? ⟨g, off, none⟩ = some (.int .i64 x) := g4 0 (by simp)
    have HP := hide (fun m => ((R.drewN m).received c1 (ho.below (bdN (Below.refl _ _) m)) (hb g rfl) rfl (by simp)))
    have hr2 := R.r2
    have hrl := R.len
    have RT := run_tail (P := Try.prog) (t := 32) (e := 3) (i := i0) Try.underlying32 hi hz1 g off (x :: L).length cap (by simp) g3
    have HS := hide R.sq
    clear R ho g4 g5 g6 g1 g2
    obtain ⟨n, hn⟩ : ∃ n, (x :: L).length = n := ⟨_, rfl⟩
    have h1n : 1 ≤ n := by rw [← hn]; simp
    rw [hn] at CL c1 HP g3 hrl RT
    have hne : ((n : Int) == 0) = false := by rw [beq_eq_false_iff_ne]; omega
    clear hn
    generalize (if cap = 1 then off else off + 1) = off2 at *
    go_enter Try.func12, Try.ntmps12
    go_wp2_with (first
      | (go_at_call 14; (with_reducible refine CS.mono ?_); rintro e w1 ⟨rfl, ⟨m, rfl⟩⟩)
      | (go_at_call 11; (with_reducible refine (CL _).mono ?_); rintro e w2 ⟨rfl, rfl⟩))
    go_ret2
    obtain ⟨p1, p2⟩ := HP.out m
    exact ⟨rfl, p1, ((Off.refl S w).drewN m).trans p2 (fun k _ e => by subst e; exact HS.out)⟩
/-- Receive, whatever the queue is. -/
theorem qrec_any {w : World} {base q room : Nat} {S : Nat → Prop} {L : List Int} {cl : Bool} (R : QueueAt w base q S room L cl) :
    Calls Try.prog 12 #[.pointer (some ⟨q, 0, none⟩)] w fun e w' => e = .returned (.tuple #[.int .i64 (L.headD 0), .int .i64 (recC L cl)]) ∧ QueueAt w' base q S room L.tail cl ∧ Off S w w' := by
  cases L with
  | nil =>
    refine (qrec_none R).mono ?_
    rintro e w' ⟨rfl, m, rfl⟩
    exact ⟨by simp [recC], R.drewN m, (Off.refl S w).drewN m⟩
  | cons x L =>
    refine (qrec_some R).mono ?_
    rintro e w' ⟨rfl, h1, h2⟩
    exact ⟨by simp [recC], h1, h2⟩
/-- slices.Clone. -/
theorem cloneInt (xs : List Int) (n : Nat) (hn : xs.length = n) (ad : Option Addr) (cap : Nat) (h1 : n ≤ 1048576) (hz : ad = none → n = 0 ∧ cap = 0) (w : World) (hr : RowAt .i64 w ad xs) :
    Calls Try.prog 22 #[.slice ad n cap] w fun e w' => ∃ v, e = .returned v ∧ OwnI .i64 3 w' w.heap.size v xs ∧ Below w.heap.size w w' := by
  have HR := hide hr
  have HN := hide hn
  obtain ⟨i0, hi, hz0, hz1, hz2⟩ := info_parts infoIntQ
  rcases ad with _ | ad
  · obtain ⟨rfl, rfl⟩ := hz rfl
    obtain rfl : xs = [] := List.eq_nil_of_length_eq_zero hn
    have q : ∀ w : World, (binOp .eql 32 (.slice none 0 0) (.slice none 0 0)).run Try.prog w = .ok (.bool true) w := fun w => Lib.run_eql_slice_nil w _ _ _ 0 0 0 0 Try.underlying32
    clear hr hn hz
    go_enter Try.func22, Try.ntmps22
    go_wp2
    go_ret
    exact ⟨_, rfl, OwnI.nil _ _ _ _, Below.refl _ _⟩
  · have q : ∀ w : World, (binOp .eql 32 (.slice (some ad) n cap) (.slice none 0 0)).run Try.prog w = .ok (.bool false) w := fun w => Lib.run_eql_slice_nil w _ _ _ n cap 0 0 Try.underlying32
    clear hr hn hz
    go_enter Try.func22, Try.ntmps22
    go_wp2_with (at_builtin; refine wpList_append_row .i64 _ rfl _ _ 32 rfl w.heap.size 3 i0 (.int .i64 0) 8 Try.underlying32 hi hz0 hz1 hz2 rfl (.slice (some ⟨w.heap.size, 0, none⟩) 0 0) [] rfl (own_lit0 _ _ _ _ (Nat.le_refl _)) (some ad) n cap xs rfl HN.out (HR.out.below (below1 _ _)) (fun e => by cases e) (by simp; unfold maxLen; omega) (by simp; omega) (by simp) ?_; intro v1 w2 own2 grow2 _; have bw2 := grown_lit (Below.refl _ _) grow2; rw [List.nil_append] at own2)
    go_ret
    exact ⟨v1, rfl, own2, bw2⟩
theorem qlist_any {w : World} {base q room : Nat} {S : Nat → Prop} {L : List Int} {cl : Bool} (R : QueueAt w base q S room L cl) :
    Calls Try.prog 21 #[.pointer (some ⟨q, 0, none⟩)] w fun e w' => ∃ v, e = .returned v ∧ OwnI .i64 3 w' w.heap.size v L ∧ Below w.heap.size w w' := by
  obtain ⟨v, c1, ho, _⟩ := R.mem
  obtain ⟨ad, cap, rfl, hrow, hz⟩ := ho.form
  have h1 := R.len
  have h2 := R.r2
  have CC := cloneInt L L.length rfl ad cap (by omega) (fun e => by
    obtain ⟨rfl, rfl⟩ := hz e
    exact ⟨rfl, rfl⟩) w hrow
  clear R ho hrow hz h1 h2
  generalize L.length = n at *
  go_enter Try.func21, Try.ntmps21
  go_wp2_with (go_at_call 22; (with_reducible refine CC.mono ?_); rintro e w1 ⟨v, rfl, ho, hb⟩; have HO := hide ho; have HB := hide hb; clear ho hb)
  go_ret
  exact ⟨v, rfl, HO.out, HB.out⟩
end Go.Proofs.Ytfecalpfjafecaa
