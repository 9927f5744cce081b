/- The methods of a heap of numbers, through an interface that holds a pointer to a field. -/
import Derived.Test.YtkkoemcciemloaaS16B
import Derived.Test.YtkkoemcciemloaaS16C
import Derived.Test.YtkkoemcciemloaaLM
import Derived.Shelf.Abstract
import Derived.Deep.LoopGhost
namespace Go.Proofs.Ytkkoemcciemloaa
open Go.RowKit


theorem run_hd {r : Nat} {v : Value} {w : World} (h : w.cell? ⟨r, 3, none⟩ = some v) : (loadVar 54 ⟨r, 3, none⟩).run Try.prog w = .ok v w := by
  simp [loadVar, h]
theorem run_nilChk (P : Program) (ts : Array TypeId) (ty : TypeId) (a : Addr) (s s' : ByteArray) (w : World) : (Builtin.ssaWrapNilChk_ ts ty #[.pointer (some a), .string s, .string s']).run P w = .ok (.pointer (some a)) w := rfl
/-- A method of the value, reached by a pointer to it. -/
theorem run_methV {P : Program} {t e : TypeId} {name : String} {f : FuncId} (n : Nat)
    (hi : (P.info? t).map (fun i => (i.methods.find? (·.name == name)).map (fun m => (m.path, m.func))) = some (some (#[], some (f, false)))) (ht : P.underlying t = some (.pointer e)) {a : Addr} {v : Value} {w : World} (hl : (loadVar e a).run P w = .ok v w) :
    Sem.run P (method (n + 1) t (.pointer (some a)) name) w = .ok (f, v) w := by
  rcases hI : P.info? t with _ | i
  · rw [hI] at hi; cases hi
  · rw [hI] at hi
    rcases hM : i.methods.find? (·.name == name) with _ | m
    · rw [Option.map_some, hM] at hi; cases hi
    · rw [Option.map_some, hM, Option.map_some] at hi
      simp only [Option.some.injEq, Prod.mk.injEq] at hi
      obtain ⟨hp, hf⟩ := hi
      have hT : (typeInfo t).run P w = .ok i w := by simp [typeInfo, hI]
      simp [method, hT, hM, hp, hf, follow, receiverAt, run_underlying ht, run_nilChk, strVal, Place.get, hl, asAddr, Result.andThen]
/-- One of the pointer itself. -/
theorem run_methP {P : Program} {t e : TypeId} {name : String} {f : FuncId} (n : Nat)
    (hi : (P.info? t).map (fun i => (i.methods.find? (·.name == name)).map (fun m => (m.path, m.func))) = some (some (#[], some (f, true)))) (ht : P.underlying t = some (.pointer e)) {a : Addr} {w : World} :
    Sem.run P (method (n + 1) t (.pointer (some a)) name) w = .ok (f, .pointer (some a)) w := by
  rcases hI : P.info? t with _ | i
  · rw [hI] at hi; cases hi
  · rw [hI] at hi
    rcases hM : i.methods.find? (·.name == name) with _ | m
    · rw [Option.map_some, hM] at hi; cases hi
    · rw [Option.map_some, hM, Option.map_some] at hi
      simp only [Option.some.injEq, Prod.mk.injEq] at hi
      obtain ⟨hp, hf⟩ := hi
      have hT : (typeInfo t).run P w = .ok i w := by simp [typeInfo, hI]
      simp [method, hT, hM, hp, hf, follow, receiverAt, run_underlying ht, Place.get, Result.andThen]
theorem meth_len {r : Nat} {v : Value} {w : World} (h : w.cell? ⟨r, 3, none⟩ = some v) (n : Nat) : Sem.run Try.prog (method (n + 1) 63 (.pointer (some ⟨r, 3, none⟩)) "Len") w = .ok (50, v) w :=
  run_methV _ (by kernel_rfl) Try.underlying63 (run_hd h)
theorem meth_less {r : Nat} {v : Value} {w : World} (h : w.cell? ⟨r, 3, none⟩ = some v) (n : Nat) : Sem.run Try.prog (method (n + 1) 63 (.pointer (some ⟨r, 3, none⟩)) "Less") w = .ok (51, v) w :=
  run_methV _ (by kernel_rfl) Try.underlying63 (run_hd h)
theorem meth_swap {r : Nat} {v : Value} {w : World} (h : w.cell? ⟨r, 3, none⟩ = some v) (n : Nat) : Sem.run Try.prog (method (n + 1) 63 (.pointer (some ⟨r, 3, none⟩)) "Swap") w = .ok (52, v) w :=
  run_methV _ (by kernel_rfl) Try.underlying63 (run_hd h)
theorem meth_push (r : Nat) (w : World) (n : Nat) : Sem.run Try.prog (method (n + 1) 63 (.pointer (some ⟨r, 3, none⟩)) "Push") w = .ok (54, .pointer (some ⟨r, 3, none⟩)) w :=
  run_methP _ (by kernel_rfl) Try.underlying63
theorem meth_pop (r : Nat) (w : World) (n : Nat) : Sem.run Try.prog (method (n + 1) 63 (.pointer (some ⟨r, 3, none⟩)) "Pop") w = .ok (53, .pointer (some ⟨r, 3, none⟩)) w :=
  run_methP _ (by kernel_rfl) Try.underlying63
theorem ent_len : ∀ args w, (callFunc 50 args).run Try.prog w = .ok (.enter 50 args) w := Go.Proofs.enters_of Try.func50 (by kernel_rfl) rfl
theorem ent_less : ∀ args w, (callFunc 51 args).run Try.prog w = .ok (.enter 51 args) w := Go.Proofs.enters_of Try.func51 (by kernel_rfl) rfl
theorem ent_swap : ∀ args w, (callFunc 52 args).run Try.prog w = .ok (.enter 52 args) w := Go.Proofs.enters_of Try.func52 (by kernel_rfl) rfl
theorem ent_push : ∀ args w, (callFunc 54 args).run Try.prog w = .ok (.enter 54 args) w := Go.Proofs.enters_of Try.func54 (by kernel_rfl) rfl
theorem ent_pop : ∀ args w, (callFunc 53 args).run Try.prog w = .ok (.enter 53 args) w := Go.Proofs.enters_of Try.func53 (by kernel_rfl) rfl
set_option maxHeartbeats 2000000 in
theorem h_len (ad : Option Addr) (n cap : Nat) (W : World) : Calls Try.prog 50 #[.slice ad n cap] W fun e w' => e = .returned (.int .i64 n) ∧ W = w' := by
  go_enter Try.func50, Try.ntmps50
  go_wp2
  go_ret
  exact ⟨rfl, rfl⟩
set_option maxHeartbeats 2000000 in
theorem h_less (b n cap : Nat) (x y : Int) (i j : Nat) (hi : i < n) (hj : j < n) (_hn : n ≤ 4294967296) (W : World) (ci : W.cell? ⟨b, i, none⟩ = some (.int .i64 x)) (cj : W.cell? ⟨b, j, none⟩ = some (.int .i64 y)) :
    Calls Try.prog 51 #[.slice (some ⟨b, 0, none⟩) n cap, .int .i64 i, .int .i64 j] W fun e w' => e = .returned (.bool (decide (x < y))) ∧ Drew W w' := by
  go_enter Try.func51, Try.ntmps51
  go_wp2
  go_quiet (fail)
  go_wp2
  go_ret
  exact ⟨rfl, nq, rfl⟩
set_option maxHeartbeats 2000000 in
theorem h_swap (b n cap : Nat) (x y : Int) (i j : Nat) (hi : i < n) (hj : j < n) (_hn : n ≤ 4294967296) (W : World)
    (ci : W.cell? ⟨b, i, none⟩ = some (.int .i64 x)) (cj : W.cell? ⟨b, j, none⟩ = some (.int .i64 y)) (fi : W.frozen? ⟨b, i, none⟩ = false) (fj : W.frozen? ⟨b, j, none⟩ = false) :
    Calls Try.prog 52 #[.slice (some ⟨b, 0, none⟩) n cap, .int .i64 i, .int .i64 j] W fun e w' => e = .returned (.tuple #[]) ∧ ∃ q, w' = ((W.setCell ⟨b, i, none⟩ (.int .i64 y)).setCell ⟨b, j, none⟩ (.int .i64 x)).drewN q := by
  obtain ⟨v', hy'⟩ := cell?_setCell_some (w := W) (p := ⟨b, i, none⟩) (x := .int .i64 y) (q := ⟨b, j, none⟩) cj
  go_enter Try.func52, Try.ntmps52
  go_wp2
  go_region
  all_goals (try go_wp2)
  all_goals go_end0
  all_goals exact ⟨rfl, 1, rfl⟩
/-- The numbers of a heap, in a block of its own. -/
def NumAt (w : World) (r base b n cap : Nat) (h : List Int) : Prop := w.cell? ⟨r, 3, none⟩ = some (.slice (some ⟨b, 0, none⟩) n cap) ∧ OwnI .i64 2 w base (.slice (some ⟨b, 0, none⟩) n cap) h ∧ h.length = n
theorem own_drewN {k : IntKind} {T : TypeId} {w : World} {base : Nat} {v : Value} {xs : List Int} (h : OwnI k T w base v xs) (q : Nat) : OwnI k T (w.drewN q) base v xs := h
theorem NumAt.drewN {w : World} {r base b n cap : Nat} {h : List Int} (H : NumAt w r base b n cap h) (q : Nat) : NumAt (w.drewN q) r base b n cap h := H
theorem NumAt.swap {w : World} {r base b n cap i j : Nat} {h : List Int} (H : NumAt w r base b n cap h) (hr : r ≠ b) (q : Nat) :
    NumAt (((w.setCell ⟨b, i, none⟩ (.int .i64 (h.getD j 0))).setCell ⟨b, j, none⟩ (.int .i64 (h.getD i 0))).drewN q) r base b n cap (swp h i j) ∧ w.grownBy (((w.setCell ⟨b, i, none⟩ (.int .i64 (h.getD j 0))).setCell ⟨b, j, none⟩ (.int .i64 (h.getD i 0))).drewN q) (some b) := by
  obtain ⟨h1, h2, h3⟩ := H
  have g1 := grown_set w b i (.int .i64 (h.getD j 0))
  have g2 := grown_set (w.setCell ⟨b, i, none⟩ (.int .i64 (h.getD j 0))) b j (.int .i64 (h.getD i 0))
  have g : w.grownBy (((w.setCell ⟨b, i, none⟩ (.int .i64 (h.getD j 0))).setCell ⟨b, j, none⟩ (.int .i64 (h.getD i 0))).drewN q) (some b) :=
    ⟨rfl, rfl, rfl, Nat.le_trans g1.size g2.size, fun k hk hne => (g2.block k (Nat.lt_of_lt_of_le hk g1.size) hne).trans (g1.block k hk hne)⟩
  refine ⟨⟨?_, ?_, by rw [swp_length]; exact h3⟩, g⟩
  · exact cg g (fun e => hr (Option.some.inj e)) h1
  · refine own_drewN ?_ q
    exact (h2.stored h3 i _).stored (by rw [List.length_set]; exact h3) j _
end Go.Proofs.Ytkkoemcciemloaa
