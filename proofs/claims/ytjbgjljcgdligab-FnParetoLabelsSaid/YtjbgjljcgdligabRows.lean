/-
  No cell of these rows narrows 'for every input' (looked for: loops, veiled, ifaces, maps, wideKeys, modest, calm, conditions, laid).
  DERIVED. THE GIVEN ROWS OF THIS SEAT. 12 by the template 'for every input the law returns true; each argument reads behind the call as it read before'; 0 by the template 'total and deterministic' (their statements: YtjbgjljcgdligabTotals.lean).
  GIVEN WITH THE SEED: the statements are not yours to turn. If you find one false, say at which input.
  Laid BY PROGRAM, IN A SANDBOX (cutbox-rows.mjs): the forced cells as the released guide's own fill.sh prints them over the translation 59146ca66b27eb20… (all of the seat's roots in one cut). By AI agents, Wed Nov 11 2026. No macro, syntax, notation, axiom, sorry.
-/
import Derived.Test.YtjbgjljcgdligabChecked
import GoSem.Claim
import GoSem.ClaimJoined
import GoSem.ClaimMapViews
import Derived.JoinedTies
import Derived.KernelRfl
namespace Go.Proofs.Ytjbgjljcgdligab
/- THE CELL 'sum', in the pinned program and in every row, IS THE sha256 OF THE DUMP (.gsa) THAT YtjbgjljcgdligabProg.lean LOADS. Nothing in Lean hashes anything: it is a label: what it is worth is what the hold of that sum in a sandbox is worth. -/
noncomputable def Try.pinned : Pinned := { name := "ytjbgjljcgdligab", sum := "59146ca66b27eb202f2298dd19227998c1e9144cf3f86b00aafd190db426d3a8", checked := Try.checked }
namespace Rows
def none {H : Type} : Left H := { results := [], args := [] }

/-- 'laws.FnStockLevels': WHATEVER THE INPUT: true; the input reads as it did. -/
def fnStockLevelsSpec : ChangeSpec := { name := "fnStockLevels", fn := fun _ => fun
  | [d] => { results := [.lit (.bool true)], args := [d] }
  | _ => none }
def fnStockLevelsRow : OpenClaim := { program := "ytjbgjljcgdligab", sum := "59146ca66b27eb202f2298dd19227998c1e9144cf3f86b00aafd190db426d3a8", func := "loop.example/integerplanner/laws.FnStockLevels", spec := "fnStockLevels", apart := false }
def FnStockLevelsSaid : Prop := fnStockLevelsRow.holds Try.pinned (OpenSpec.ofChange fnStockLevelsSpec)

/-- ITS FALSE NEIGHBOUR: 'it returns false'. Refute it at one input. -/
def fnStockLevelsWrong : ChangeSpec := { name := "fnStockLevels", fn := fun _ => fun
  | [d] => { results := [.lit (.bool false)], args := [d] }
  | _ => none }
def FnStockLevelsWrongFalsely : Prop := fnStockLevelsRow.holds Try.pinned (OpenSpec.ofChange fnStockLevelsWrong)

/-- 'laws.FnLotPlan': WHATEVER THE INPUT: true; the input reads as it did. -/
def fnLotPlanSpec : ChangeSpec := { name := "fnLotPlan", fn := fun _ => fun
  | [d] => { results := [.lit (.bool true)], args := [d] }
  | _ => none }
def fnLotPlanRow : OpenClaim := { program := "ytjbgjljcgdligab", sum := "59146ca66b27eb202f2298dd19227998c1e9144cf3f86b00aafd190db426d3a8", func := "loop.example/integerplanner/laws.FnLotPlan", spec := "fnLotPlan", apart := false }
def FnLotPlanSaid : Prop := fnLotPlanRow.holds Try.pinned (OpenSpec.ofChange fnLotPlanSpec)

/-- ITS FALSE NEIGHBOUR: 'it returns false'. Refute it at one input. -/
def fnLotPlanWrong : ChangeSpec := { name := "fnLotPlan", fn := fun _ => fun
  | [d] => { results := [.lit (.bool false)], args := [d] }
  | _ => none }
def FnLotPlanWrongFalsely : Prop := fnLotPlanRow.holds Try.pinned (OpenSpec.ofChange fnLotPlanWrong)

/-- 'laws.FnLineOk': WHATEVER THE INPUT: true; the input reads as it did. -/
def fnLineOkSpec : ChangeSpec := { name := "fnLineOk", fn := fun _ => fun
  | [d] => { results := [.lit (.bool true)], args := [d] }
  | _ => none }
def fnLineOkRow : OpenClaim := { program := "ytjbgjljcgdligab", sum := "59146ca66b27eb202f2298dd19227998c1e9144cf3f86b00aafd190db426d3a8", func := "loop.example/integerplanner/laws.FnLineOk", spec := "fnLineOk", apart := false }
def FnLineOkSaid : Prop := fnLineOkRow.holds Try.pinned (OpenSpec.ofChange fnLineOkSpec)

/-- ITS FALSE NEIGHBOUR: 'it returns false'. Refute it at one input. -/
def fnLineOkWrong : ChangeSpec := { name := "fnLineOk", fn := fun _ => fun
  | [d] => { results := [.lit (.bool false)], args := [d] }
  | _ => none }
def FnLineOkWrongFalsely : Prop := fnLineOkRow.holds Try.pinned (OpenSpec.ofChange fnLineOkWrong)

/-- 'laws.FnRosterOk': WHATEVER THE INPUT: true; the input reads as it did. -/
def fnRosterOkSpec : ChangeSpec := { name := "fnRosterOk", fn := fun _ => fun
  | [d] => { results := [.lit (.bool true)], args := [d] }
  | _ => none }
def fnRosterOkRow : OpenClaim := { program := "ytjbgjljcgdligab", sum := "59146ca66b27eb202f2298dd19227998c1e9144cf3f86b00aafd190db426d3a8", func := "loop.example/integerplanner/laws.FnRosterOk", spec := "fnRosterOk", recurses := true, apart := false }
def FnRosterOkSaid : Prop := fnRosterOkRow.holds Try.pinned (OpenSpec.ofChange fnRosterOkSpec)

/-- ITS FALSE NEIGHBOUR: 'it returns false'. Refute it at one input. -/
def fnRosterOkWrong : ChangeSpec := { name := "fnRosterOk", fn := fun _ => fun
  | [d] => { results := [.lit (.bool false)], args := [d] }
  | _ => none }
def FnRosterOkWrongFalsely : Prop := fnRosterOkRow.holds Try.pinned (OpenSpec.ofChange fnRosterOkWrong)

/-- 'laws.FnWorkOf': WHATEVER THE INPUT: true; the input reads as it did. -/
def fnWorkOfSpec : ChangeSpec := { name := "fnWorkOf", fn := fun _ => fun
  | [d] => { results := [.lit (.bool true)], args := [d] }
  | _ => none }
def fnWorkOfRow : OpenClaim := { program := "ytjbgjljcgdligab", sum := "59146ca66b27eb202f2298dd19227998c1e9144cf3f86b00aafd190db426d3a8", func := "loop.example/integerplanner/laws.FnWorkOf", spec := "fnWorkOf", recurses := true, apart := false }
def FnWorkOfSaid : Prop := fnWorkOfRow.holds Try.pinned (OpenSpec.ofChange fnWorkOfSpec)

/-- ITS FALSE NEIGHBOUR: 'it returns false'. Refute it at one input. -/
def fnWorkOfWrong : ChangeSpec := { name := "fnWorkOf", fn := fun _ => fun
  | [d] => { results := [.lit (.bool false)], args := [d] }
  | _ => none }
def FnWorkOfWrongFalsely : Prop := fnWorkOfRow.holds Try.pinned (OpenSpec.ofChange fnWorkOfWrong)

/-- 'laws.FnCrewBound': WHATEVER THE INPUT: true; the input reads as it did. -/
def fnCrewBoundSpec : ChangeSpec := { name := "fnCrewBound", fn := fun _ => fun
  | [d] => { results := [.lit (.bool true)], args := [d] }
  | _ => none }
def fnCrewBoundRow : OpenClaim := { program := "ytjbgjljcgdligab", sum := "59146ca66b27eb202f2298dd19227998c1e9144cf3f86b00aafd190db426d3a8", func := "loop.example/integerplanner/laws.FnCrewBound", spec := "fnCrewBound", apart := false }
def FnCrewBoundSaid : Prop := fnCrewBoundRow.holds Try.pinned (OpenSpec.ofChange fnCrewBoundSpec)

/-- ITS FALSE NEIGHBOUR: 'it returns false'. Refute it at one input. -/
def fnCrewBoundWrong : ChangeSpec := { name := "fnCrewBound", fn := fun _ => fun
  | [d] => { results := [.lit (.bool false)], args := [d] }
  | _ => none }
def FnCrewBoundWrongFalsely : Prop := fnCrewBoundRow.holds Try.pinned (OpenSpec.ofChange fnCrewBoundWrong)

/-- 'laws.FnFlowValueBack': WHATEVER THE INPUT: true; the input reads as it did. -/
def fnFlowValueBackSpec : ChangeSpec := { name := "fnFlowValueBack", fn := fun _ => fun
  | [d] => { results := [.lit (.bool true)], args := [d] }
  | _ => none }
def fnFlowValueBackRow : OpenClaim := { program := "ytjbgjljcgdligab", sum := "59146ca66b27eb202f2298dd19227998c1e9144cf3f86b00aafd190db426d3a8", func := "loop.example/integerplanner/laws.FnFlowValueBack", spec := "fnFlowValueBack", recurses := true, apart := false }
def FnFlowValueBackSaid : Prop := fnFlowValueBackRow.holds Try.pinned (OpenSpec.ofChange fnFlowValueBackSpec)

/-- ITS FALSE NEIGHBOUR: 'it returns false'. Refute it at one input. -/
def fnFlowValueBackWrong : ChangeSpec := { name := "fnFlowValueBack", fn := fun _ => fun
  | [d] => { results := [.lit (.bool false)], args := [d] }
  | _ => none }
def FnFlowValueBackWrongFalsely : Prop := fnFlowValueBackRow.holds Try.pinned (OpenSpec.ofChange fnFlowValueBackWrong)

/-- 'laws.FnParetoLabels': WHATEVER THE INPUT: true; the input reads as it did. -/
def fnParetoLabelsSpec : ChangeSpec := { name := "fnParetoLabels", fn := fun _ => fun
  | [d] => { results := [.lit (.bool true)], args := [d] }
  | _ => none }
def fnParetoLabelsRow : OpenClaim := { program := "ytjbgjljcgdligab", sum := "59146ca66b27eb202f2298dd19227998c1e9144cf3f86b00aafd190db426d3a8", func := "loop.example/integerplanner/laws.FnParetoLabels", spec := "fnParetoLabels", unfollowed := true, recurses := true, apart := false }
def FnParetoLabelsSaid : Prop := fnParetoLabelsRow.holds Try.pinned (OpenSpec.ofChange fnParetoLabelsSpec)

/-- ITS FALSE NEIGHBOUR: 'it returns false'. Refute it at one input. -/
def fnParetoLabelsWrong : ChangeSpec := { name := "fnParetoLabels", fn := fun _ => fun
  | [d] => { results := [.lit (.bool false)], args := [d] }
  | _ => none }
def FnParetoLabelsWrongFalsely : Prop := fnParetoLabelsRow.holds Try.pinned (OpenSpec.ofChange fnParetoLabelsWrong)

/-- 'laws.FnValidFleet': WHATEVER THE INPUT: true; the input reads as it did. -/
def fnValidFleetSpec : ChangeSpec := { name := "fnValidFleet", fn := fun _ => fun
  | [d] => { results := [.lit (.bool true)], args := [d] }
  | _ => none }
def fnValidFleetRow : OpenClaim := { program := "ytjbgjljcgdligab", sum := "59146ca66b27eb202f2298dd19227998c1e9144cf3f86b00aafd190db426d3a8", func := "loop.example/integerplanner/laws.FnValidFleet", spec := "fnValidFleet", apart := false }
def FnValidFleetSaid : Prop := fnValidFleetRow.holds Try.pinned (OpenSpec.ofChange fnValidFleetSpec)

/-- ITS FALSE NEIGHBOUR: 'it returns false'. Refute it at one input. -/
def fnValidFleetWrong : ChangeSpec := { name := "fnValidFleet", fn := fun _ => fun
  | [d] => { results := [.lit (.bool false)], args := [d] }
  | _ => none }
def FnValidFleetWrongFalsely : Prop := fnValidFleetRow.holds Try.pinned (OpenSpec.ofChange fnValidFleetWrong)

/-- 'laws.FnExtendLabel': WHATEVER THE INPUT: true; the input reads as it did. -/
def fnExtendLabelSpec : ChangeSpec := { name := "fnExtendLabel", fn := fun _ => fun
  | [d] => { results := [.lit (.bool true)], args := [d] }
  | _ => none }
def fnExtendLabelRow : OpenClaim := { program := "ytjbgjljcgdligab", sum := "59146ca66b27eb202f2298dd19227998c1e9144cf3f86b00aafd190db426d3a8", func := "loop.example/integerplanner/laws.FnExtendLabel", spec := "fnExtendLabel", unfollowed := true, recurses := true, apart := false }
def FnExtendLabelSaid : Prop := fnExtendLabelRow.holds Try.pinned (OpenSpec.ofChange fnExtendLabelSpec)

/-- ITS FALSE NEIGHBOUR: 'it returns false'. Refute it at one input. -/
def fnExtendLabelWrong : ChangeSpec := { name := "fnExtendLabel", fn := fun _ => fun
  | [d] => { results := [.lit (.bool false)], args := [d] }
  | _ => none }
def FnExtendLabelWrongFalsely : Prop := fnExtendLabelRow.holds Try.pinned (OpenSpec.ofChange fnExtendLabelWrong)

/-- 'laws.FnRedundantRows': WHATEVER THE INPUT: true; the input reads as it did. -/
def fnRedundantRowsSpec : ChangeSpec := { name := "fnRedundantRows", fn := fun _ => fun
  | [d] => { results := [.lit (.bool true)], args := [d] }
  | _ => none }
def fnRedundantRowsRow : OpenClaim := { program := "ytjbgjljcgdligab", sum := "59146ca66b27eb202f2298dd19227998c1e9144cf3f86b00aafd190db426d3a8", func := "loop.example/integerplanner/laws.FnRedundantRows", spec := "fnRedundantRows", unfollowed := true, recurses := true, apart := false }
def FnRedundantRowsSaid : Prop := fnRedundantRowsRow.holds Try.pinned (OpenSpec.ofChange fnRedundantRowsSpec)

/-- ITS FALSE NEIGHBOUR: 'it returns false'. Refute it at one input. -/
def fnRedundantRowsWrong : ChangeSpec := { name := "fnRedundantRows", fn := fun _ => fun
  | [d] => { results := [.lit (.bool false)], args := [d] }
  | _ => none }
def FnRedundantRowsWrongFalsely : Prop := fnRedundantRowsRow.holds Try.pinned (OpenSpec.ofChange fnRedundantRowsWrong)

/-- 'laws.FnValidBox': WHATEVER THE INPUT: true; the input reads as it did. -/
def fnValidBoxSpec : ChangeSpec := { name := "fnValidBox", fn := fun _ => fun
  | [d] => { results := [.lit (.bool true)], args := [d] }
  | _ => none }
def fnValidBoxRow : OpenClaim := { program := "ytjbgjljcgdligab", sum := "59146ca66b27eb202f2298dd19227998c1e9144cf3f86b00aafd190db426d3a8", func := "loop.example/integerplanner/laws.FnValidBox", spec := "fnValidBox", apart := false }
def FnValidBoxSaid : Prop := fnValidBoxRow.holds Try.pinned (OpenSpec.ofChange fnValidBoxSpec)

/-- ITS FALSE NEIGHBOUR: 'it returns false'. Refute it at one input. -/
def fnValidBoxWrong : ChangeSpec := { name := "fnValidBox", fn := fun _ => fun
  | [d] => { results := [.lit (.bool false)], args := [d] }
  | _ => none }
def FnValidBoxWrongFalsely : Prop := fnValidBoxRow.holds Try.pinned (OpenSpec.ofChange fnValidBoxWrong)

/- THE SECOND FORM. 'bulk': how many values and letters a reading holds, each counted each time it is reached (what is shared counts as often as it is met; a slice's spare places count too). A statement '..UptoSaid' is the law's where the arguments, and the package variables that the reading takes, are together of bulk at most 1048576: NARROWER than '..Said'. Prove '..Said' where nothing that the law and all that it calls make is longer than what came in: it says more and counts as full. Else prove '..UptoSaid'. A law counts once. -/
mutual
def uptoBulk {H : Type} : DataW H → Nat
  | .lit (.string bytes) => bytes.length + 1
  | .lit _ => 1
  | .nil => 1
  | .ptr d => uptoBulk d + 1
  | .slice elems spare => uptoBulkAll elems + uptoBulkAll spare + 1
  | .agg parts => uptoBulkAll parts + 1
  | .iface _ d => uptoBulk d + 1
  | .map entries => uptoBulkEntries entries + 1
  | .held _ => 1
def uptoBulkAll {H : Type} : List (DataW H) → Nat
  | [] => 0
  | d :: r => uptoBulk d + uptoBulkAll r
def uptoBulkEntries {H : Type} : List (Lit × DataW H) → Nat
  | [] => 0
  | x :: r => uptoBulkEntry x + uptoBulkEntries r
def uptoBulkEntry {H : Type} : Lit × DataW H → Nat
  | (.string bytes, d) => bytes.length + uptoBulk d + 1
  | (_, d) => uptoBulk d + 1
 end
def uptoSmall : (H : Type) → List (DataW H) → Bool := fun _ ds => decide (uptoBulkAll ds ≤ 1048576)
def OpenSpec.upto (s : _root_.Go.ChangeSpec) : _root_.Go.OpenSpec := { _root_.Go.OpenSpec.ofChange s with cond := some uptoSmall }

/-- 'laws.FnStockLevels', WHERE WHAT IT READS IS OF BULK AT MOST 1048576: true; the input reads as it did. -/
def fnStockLevelsUptoRow : OpenClaim := { program := "ytjbgjljcgdligab", sum := "59146ca66b27eb202f2298dd19227998c1e9144cf3f86b00aafd190db426d3a8", func := "loop.example/integerplanner/laws.FnStockLevels", spec := "fnStockLevels", apart := false, narrowed := true }
def FnStockLevelsUptoSaid : Prop := fnStockLevelsUptoRow.holds Try.pinned (OpenSpec.upto fnStockLevelsSpec)

/-- 'laws.FnLotPlan', WHERE WHAT IT READS IS OF BULK AT MOST 1048576: true; the input reads as it did. -/
def fnLotPlanUptoRow : OpenClaim := { program := "ytjbgjljcgdligab", sum := "59146ca66b27eb202f2298dd19227998c1e9144cf3f86b00aafd190db426d3a8", func := "loop.example/integerplanner/laws.FnLotPlan", spec := "fnLotPlan", apart := false, narrowed := true }
def FnLotPlanUptoSaid : Prop := fnLotPlanUptoRow.holds Try.pinned (OpenSpec.upto fnLotPlanSpec)

/-- 'laws.FnLineOk', WHERE WHAT IT READS IS OF BULK AT MOST 1048576: true; the input reads as it did. -/
def fnLineOkUptoRow : OpenClaim := { program := "ytjbgjljcgdligab", sum := "59146ca66b27eb202f2298dd19227998c1e9144cf3f86b00aafd190db426d3a8", func := "loop.example/integerplanner/laws.FnLineOk", spec := "fnLineOk", apart := false, narrowed := true }
def FnLineOkUptoSaid : Prop := fnLineOkUptoRow.holds Try.pinned (OpenSpec.upto fnLineOkSpec)

/-- 'laws.FnRosterOk', WHERE WHAT IT READS IS OF BULK AT MOST 1048576: true; the input reads as it did. -/
def fnRosterOkUptoRow : OpenClaim := { program := "ytjbgjljcgdligab", sum := "59146ca66b27eb202f2298dd19227998c1e9144cf3f86b00aafd190db426d3a8", func := "loop.example/integerplanner/laws.FnRosterOk", spec := "fnRosterOk", recurses := true, apart := false, narrowed := true }
def FnRosterOkUptoSaid : Prop := fnRosterOkUptoRow.holds Try.pinned (OpenSpec.upto fnRosterOkSpec)

/-- 'laws.FnWorkOf', WHERE WHAT IT READS IS OF BULK AT MOST 1048576: true; the input reads as it did. -/
def fnWorkOfUptoRow : OpenClaim := { program := "ytjbgjljcgdligab", sum := "59146ca66b27eb202f2298dd19227998c1e9144cf3f86b00aafd190db426d3a8", func := "loop.example/integerplanner/laws.FnWorkOf", spec := "fnWorkOf", recurses := true, apart := false, narrowed := true }
def FnWorkOfUptoSaid : Prop := fnWorkOfUptoRow.holds Try.pinned (OpenSpec.upto fnWorkOfSpec)

/-- 'laws.FnCrewBound', WHERE WHAT IT READS IS OF BULK AT MOST 1048576: true; the input reads as it did. -/
def fnCrewBoundUptoRow : OpenClaim := { program := "ytjbgjljcgdligab", sum := "59146ca66b27eb202f2298dd19227998c1e9144cf3f86b00aafd190db426d3a8", func := "loop.example/integerplanner/laws.FnCrewBound", spec := "fnCrewBound", apart := false, narrowed := true }
def FnCrewBoundUptoSaid : Prop := fnCrewBoundUptoRow.holds Try.pinned (OpenSpec.upto fnCrewBoundSpec)

/-- 'laws.FnFlowValueBack', WHERE WHAT IT READS IS OF BULK AT MOST 1048576: true; the input reads as it did. -/
def fnFlowValueBackUptoRow : OpenClaim := { program := "ytjbgjljcgdligab", sum := "59146ca66b27eb202f2298dd19227998c1e9144cf3f86b00aafd190db426d3a8", func := "loop.example/integerplanner/laws.FnFlowValueBack", spec := "fnFlowValueBack", recurses := true, apart := false, narrowed := true }
def FnFlowValueBackUptoSaid : Prop := fnFlowValueBackUptoRow.holds Try.pinned (OpenSpec.upto fnFlowValueBackSpec)

/-- 'laws.FnParetoLabels', WHERE WHAT IT READS IS OF BULK AT MOST 1048576: true; the input reads as it did. -/
def fnParetoLabelsUptoRow : OpenClaim := { program := "ytjbgjljcgdligab", sum := "59146ca66b27eb202f2298dd19227998c1e9144cf3f86b00aafd190db426d3a8", func := "loop.example/integerplanner/laws.FnParetoLabels", spec := "fnParetoLabels", unfollowed := true, recurses := true, apart := false, narrowed := true }
def FnParetoLabelsUptoSaid : Prop := fnParetoLabelsUptoRow.holds Try.pinned (OpenSpec.upto fnParetoLabelsSpec)

/-- 'laws.FnValidFleet', WHERE WHAT IT READS IS OF BULK AT MOST 1048576: true; the input reads as it did. -/
def fnValidFleetUptoRow : OpenClaim := { program := "ytjbgjljcgdligab", sum := "59146ca66b27eb202f2298dd19227998c1e9144cf3f86b00aafd190db426d3a8", func := "loop.example/integerplanner/laws.FnValidFleet", spec := "fnValidFleet", apart := false, narrowed := true }
def FnValidFleetUptoSaid : Prop := fnValidFleetUptoRow.holds Try.pinned (OpenSpec.upto fnValidFleetSpec)

/-- 'laws.FnExtendLabel', WHERE WHAT IT READS IS OF BULK AT MOST 1048576: true; the input reads as it did. -/
def fnExtendLabelUptoRow : OpenClaim := { program := "ytjbgjljcgdligab", sum := "59146ca66b27eb202f2298dd19227998c1e9144cf3f86b00aafd190db426d3a8", func := "loop.example/integerplanner/laws.FnExtendLabel", spec := "fnExtendLabel", unfollowed := true, recurses := true, apart := false, narrowed := true }
def FnExtendLabelUptoSaid : Prop := fnExtendLabelUptoRow.holds Try.pinned (OpenSpec.upto fnExtendLabelSpec)

/-- 'laws.FnRedundantRows', WHERE WHAT IT READS IS OF BULK AT MOST 1048576: true; the input reads as it did. -/
def fnRedundantRowsUptoRow : OpenClaim := { program := "ytjbgjljcgdligab", sum := "59146ca66b27eb202f2298dd19227998c1e9144cf3f86b00aafd190db426d3a8", func := "loop.example/integerplanner/laws.FnRedundantRows", spec := "fnRedundantRows", unfollowed := true, recurses := true, apart := false, narrowed := true }
def FnRedundantRowsUptoSaid : Prop := fnRedundantRowsUptoRow.holds Try.pinned (OpenSpec.upto fnRedundantRowsSpec)

/-- 'laws.FnValidBox', WHERE WHAT IT READS IS OF BULK AT MOST 1048576: true; the input reads as it did. -/
def fnValidBoxUptoRow : OpenClaim := { program := "ytjbgjljcgdligab", sum := "59146ca66b27eb202f2298dd19227998c1e9144cf3f86b00aafd190db426d3a8", func := "loop.example/integerplanner/laws.FnValidBox", spec := "fnValidBox", apart := false, narrowed := true }
def FnValidBoxUptoSaid : Prop := fnValidBoxUptoRow.holds Try.pinned (OpenSpec.upto fnValidBoxSpec)

end Rows
end Go.Proofs.Ytjbgjljcgdligab
