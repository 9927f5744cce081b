/- For every input the laws SincNear and SincLanczos return true and leave their arguments as they were: the cards: the tables of package math, which the row lists, are tied to the program's text. The card speaks of a pruned copy of the project: what was left out could still write these variables. -/
import Derived.Test.YthakcpjlnopcfaaDoorS04J
import Derived.Test.YthakcpjlnopcfaaDoorTie
import Derived.Test.YthakcpjlnopcfaaDoorCards
import Derived.SevenTiedAt
namespace Go.Proofs.YthakcpjlnopcfaaDoor
open Go


theorem card_SincNear : Rows.SincNearCardSaid :=
  Claim7.holds_tied_plain_at .later [] [.data, .data, .data] true Rows.sincNearCard.stood.harness false
    said_SincNear (fun _ h => by cases h) (by kernel_rfl) (fun _ h => by cases h) sincNear_row_tie rfl ⟨rfl, rfl⟩ (by kernel_rfl) rfl
    (fun f fn hf hfn => by
      obtain rfl : f = 3 := Option.some.inj ((show Tryd.prog.funcNamed "smalto/smaltolaw04.SincNear" = some 3 by kernel_rfl).symm.trans hf) |>.symm
      obtain rfl : fn = Tryd.f3 := (Option.some.inj (Tryd.func3.symm.trans hfn)).symm
      exact ⟨by kernel_rfl, fun j t ht => by
        rw [Tryd.params3] at ht
        have hm : t ∈ [2, 2] := by simpa using Array.mem_of_getElem? ht
        have hall : ([2, 2].all fun u => !Tryd.prog.wantsStandIn u) = true := by kernel_rfl
        exact (show Tryd.prog.wantsStandIn t = false by simpa using List.all_eq_true.1 hall t hm)⟩)
    (by kernel_rfl)
theorem card_SincLanczos : Rows.SincLanczosCardSaid :=
  Claim7.holds_tied_plain_at .later [] [.data, .data, .data] true Rows.sincLanczosCard.stood.harness false
    said_SincLanczos (fun _ h => by cases h) (by kernel_rfl) (fun _ h => by cases h) sincLanczos_row_tie rfl ⟨rfl, rfl⟩ (by kernel_rfl) rfl
    (fun f fn hf hfn => by
      obtain rfl : f = 4 := Option.some.inj ((show Tryd.prog.funcNamed "smalto/smaltolaw04.SincLanczos" = some 4 by kernel_rfl).symm.trans hf) |>.symm
      obtain rfl : fn = Tryd.f4 := (Option.some.inj (Tryd.func4.symm.trans hfn)).symm
      exact ⟨by kernel_rfl, fun j t ht => by
        rw [Tryd.params4] at ht
        have hm : t ∈ [2, 2] := by simpa using Array.mem_of_getElem? ht
        have hall : ([2, 2].all fun u => !Tryd.prog.wantsStandIn u) = true := by kernel_rfl
        exact (show Tryd.prog.wantsStandIn t = false by simpa using List.all_eq_true.1 hall t hm)⟩)
    (by kernel_rfl)
end Go.Proofs.YthakcpjlnopcfaaDoor
