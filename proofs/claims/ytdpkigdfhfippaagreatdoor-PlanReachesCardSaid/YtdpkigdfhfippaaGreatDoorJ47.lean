/- Parts, joined. -/
import Derived.Test.YtdpkigdfhfippaaGreatDoorJ45
import Derived.Test.YtdpkigdfhfippaaGreatDoorJ46
import Derived.Test.YtdpkigdfhfippaaGreatDoorJ21
import Derived.Test.YtdpkigdfhfippaaGreatDoorJ29
import Derived.Test.YtdpkigdfhfippaaGreatDoorJ35
import Derived.Test.YtdpkigdfhfippaaGreatDoorJ30
import Derived.Test.YtdpkigdfhfippaaGreatDoorJ23
import Derived.Test.YtdpkigdfhfippaaGreatDoorJ31
import Derived.Test.YtdpkigdfhfippaaGreatDoorRows
import Derived.Test.YtdpkigdfhfippaaGreatDoorJ39
import Derived.Test.YtdpkigdfhfippaaGreatDoorJ41
import Derived.Test.YtdpkigdfhfippaaGreatDoorJ44
import Derived.Deep.LoopGhost
import Derived.Deep.RegionHeld3
import Derived.Deep.DeepCutAuto
import Derived.BigQuiet
/- Operations: the tables out of what the rows list; the laws, of memory that holds these. -/
namespace Go.Proofs.YtdpkigdfhfippaaGreatDoor
open Go.ChangeShapes Go.WideShapes Go.ChangeAt Go.WideMaps Go.WideElems Go.RowKit

def dLaid12 {H : Type} : List (String × DataW H) := [("smalto/border.names", Rows.laid_smalto_border_names), ("smalto/raw.kinds", Rows.laid_smalto_raw_kinds)]
theorem door_met12 (os : Os) (args : Array Value) : laidMetH Tryz.prog dLaid12 ((World.doorLaid Tryz.prog 400 os).forCall (fun _ _ => 0) ⟨#[], args, []⟩).memory :=
  laidMetH_of_parts3 (fuel := 8) (laidMet_of_run' 8 (by kernel_rfl) (by kernel_rfl)) (by kernel_rfl) (by kernel_rfl)
theorem opk_of_laid {W : World} (h : laidMetH Tryz.prog dLaid12 W) : OpK W := by
  rw [MakeChecks.laidMetH_plain _ _ _ (by kernel_rfl)] at h
  obtain ⟨ps, ⟨g0, t0, cs0, f0, p0, q0, hg0, ht0, hv0, hd0, ⟨g1, t1, cs1, f1, p1, q1, hg1, ht1, hv1, hd1, _, _⟩, _⟩, _, _⟩ := h
  obtain rfl := Option.some.inj (gNamesE.symm.trans hg0)
  obtain rfl := Option.some.inj (tNamesE.symm.trans ht0)
  obtain rfl := names_cells hd0
  obtain rfl := Option.some.inj (gKinds.symm.trans hg1)
  obtain rfl := Option.some.inj (tKinds.symm.trans ht1)
  obtain rfl := kinds_cells hd1
  exact ⟨⟨World.var?_cell hg1 hv1 0, World.var?_cell hg1 hv1 1, World.var?_cell hg1 hv1 2, World.var?_cell hg1 hv1 3, World.var?_cell hg1 hv1 4, World.var?_cell hg1 hv1 5⟩, World.var?_cell hg0 hv0 0, World.var?_cell hg0 hv0 1, World.var?_cell hg0 hv0 2⟩
end Go.Proofs.YtdpkigdfhfippaaGreatDoor

/- Plans: the laws, of memory that holds the tables that the rows list. -/
namespace Go.Proofs.YtdpkigdfhfippaaGreatDoor
open Go.RowKit

theorem lives12_any (w : World) (hk : OpK w) : Calls Tryz.prog 23 #[] w fun e w' => e = .returned (.bool true) ∧ Below w.heap.size w w' := olives opk_below (fun _ h => h.1) omake_any w hk
theorem law_PlanNone (a b c : Int) (w : World) (hk : OpK w) (ha : -9223372036854775808 ≤ a ∧ a ≤ 9223372036854775807) (hb : -9223372036854775808 ≤ b ∧ b ≤ 9223372036854775807) (hc : 0 ≤ c ∧ c ≤ 255) :
    Calls Tryz.prog 7 #[.int .i64 a, .int .i64 b, .int .u8 c] w fun e w' => e = .returned (.bool true) ∧ Below w.heap.size w w' :=
  of_PlanNone opk_below omake_any plan_c lives12_any a b c w hk ha hb hc.1 hc.2
theorem law_PlanAll (o : Opr) (ax : Option Addr) (cx : Nat) (ay : Option Addr) (cy : Nat) (a b c d : Int) (w : World) (hk : OpK w) (ho : OpAt w o ax cx ay cy ∧ OpFits o) (ha : 0 ≤ a ∧ a ≤ 255) (hb : 0 ≤ b ∧ b ≤ 255) (hc : 0 ≤ c ∧ c ≤ 255) (hd : 0 ≤ d ∧ d ≤ 255) :
    Calls Tryz.prog 3 #[opV o ax cx ay cy, .int .u8 a, .int .u8 b, .int .u8 c, .int .u8 d] w fun e w' => e = .returned (.bool true) ∧ Below w.heap.size w w' :=
  of_PlanAll opk_below omake_any plan_c lives12_any o ax cx ay cy a b c d w hk ho.1 ho.2 ha hb hc hd
theorem law_PlanReaches (o : Opr) (ax : Option Addr) (cx : Nat) (ay : Option Addr) (cy : Nat) (a b c d e : Int) (w : World) (hk : OpK w) (ho : OpAt w o ax cx ay cy ∧ OpFits o) (ha : 0 ≤ a ∧ a ≤ 255) (hb : 0 ≤ b ∧ b ≤ 255) (hc : 0 ≤ c ∧ c ≤ 255) (hd : 0 ≤ d ∧ d ≤ 255) (_ : -9223372036854775808 ≤ e ∧ e ≤ 9223372036854775807) :
    Calls Tryz.prog 6 #[opV o ax cx ay cy, .int .u8 a, .int .u8 b, .int .u8 c, .int .u8 d, .int .i64 e] w fun e w' => e = .returned (.bool true) ∧ Below w.heap.size w w' :=
  of_PlanReaches opk_below omake_any plan_c lives12_any o ax cx ay cy a b c d w hk ho.1 ho.2 ha hb hc hd e
theorem law_PlanCovers (o : Opr) (ax : Option Addr) (cx : Nat) (ay : Option Addr) (cy : Nat) (a b c d x y : Int) (w : World) (hk : OpK w) (ho : OpAt w o ax cx ay cy ∧ OpFits o) (ha : 0 ≤ a ∧ a ≤ 255) (hb : 0 ≤ b ∧ b ≤ 255) (hc : 0 ≤ c ∧ c ≤ 255) (hd : 0 ≤ d ∧ d ≤ 255) (hx : -9223372036854775808 ≤ x ∧ x ≤ 9223372036854775807) (hy : -9223372036854775808 ≤ y ∧ y ≤ 9223372036854775807) :
    Calls Tryz.prog 5 #[opV o ax cx ay cy, .int .u8 a, .int .u8 b, .int .u8 c, .int .u8 d, .int .i64 x, .int .i64 y] w fun e w' => e = .returned (.bool true) ∧ Below w.heap.size w w' :=
  of_PlanCovers opk_below omake_any plan_c lives12_any o ax cx ay cy a b c d w hk ho.1 ho.2 ha hb hc hd x y hx hy
theorem law_PlanTiles (o : Opr) (ax : Option Addr) (cx : Nat) (ay : Option Addr) (cy : Nat) (a b x y i : Int) (w : World) (hk : OpK w) (ho : OpAt w o ax cx ay cy ∧ OpFits o) (ha : 0 ≤ a ∧ a ≤ 255) (hb : 0 ≤ b ∧ b ≤ 255) (hx : -9223372036854775808 ≤ x ∧ x ≤ 9223372036854775807) (hy : -9223372036854775808 ≤ y ∧ y ≤ 9223372036854775807) (hi : -9223372036854775808 ≤ i ∧ i ≤ 9223372036854775807) :
    Calls Tryz.prog 4 #[opV o ax cx ay cy, .int .u8 a, .int .u8 b, .int .i64 x, .int .i64 y, .int .i64 i] w fun e w' => e = .returned (.bool true) ∧ Below w.heap.size w w' :=
  of_PlanTiles opk_below omake_any plan_c lives12_any o ax cx ay cy a b x y i w hk ho.1 ho.2 ha hb hx hy hi
end Go.Proofs.YtdpkigdfhfippaaGreatDoor
