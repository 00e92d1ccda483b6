/-
  No cell of these rows narrows 'for every input' (looked for: loops, veiled, ifaces, maps, wideKeys, modest, calm, conditions, laid).
  DERIVED. THE GIVEN ROWS OF THIS SEAT. 12 by the template 'for every input the law returns true; each argument reads behind the call as it read before'; 0 by the template 'total and deterministic' (their statements: YtjbgjljcgdligaaTotals.lean).
  GIVEN WITH THE SEED: the statements are not yours to turn. If you find one false, say at which input.
  Laid BY PROGRAM, IN A SANDBOX (cutbox-rows.mjs): the forced cells as the released guide's own fill.sh prints them over the translation 8d669061329685da… (all of the seat's roots in one cut). By AI agents, Wed Nov 11 2026. No macro, syntax, notation, axiom, sorry.
-/
import Derived.Test.YtjbgjljcgdligaaChecked
import GoSem.Claim
import GoSem.ClaimJoined
import GoSem.ClaimMapViews
import Derived.JoinedTies
import Derived.KernelRfl
namespace Go.Proofs.Ytjbgjljcgdligaa
/- THE CELL 'sum', in the pinned program and in every row, IS THE sha256 OF THE DUMP (.gsa) THAT YtjbgjljcgdligaaProg.lean LOADS. Nothing in Lean hashes anything: it is a label: what it is worth is what the hold of that sum in a sandbox is worth. -/
noncomputable def Try.pinned : Pinned := { name := "ytjbgjljcgdligaa", sum := "8d669061329685da60adfdf7849f9741bb19b5961a9b6cde53aea82f50690a61", checked := Try.checked }
namespace Rows
def none {H : Type} : Left H := { results := [], args := [] }

/-- 'laws.FnExactStockLevels': WHATEVER THE INPUT: true; the input reads as it did. -/
def fnExactStockLevelsSpec : ChangeSpec := { name := "fnExactStockLevels", fn := fun _ => fun
  | [d1, d2] => { results := [.lit (.bool true)], args := [d1, d2] }
  | _ => none }
def fnExactStockLevelsRow : OpenClaim := { program := "ytjbgjljcgdligaa", sum := "8d669061329685da60adfdf7849f9741bb19b5961a9b6cde53aea82f50690a61", func := "loop.example/integerplanner/laws.FnExactStockLevels", spec := "fnExactStockLevels", apart := false }
def FnExactStockLevelsSaid : Prop := fnExactStockLevelsRow.holds Try.pinned (OpenSpec.ofChange fnExactStockLevelsSpec)

/-- ITS FALSE NEIGHBOUR: 'it returns false'. Refute it at one input. -/
def fnExactStockLevelsWrong : ChangeSpec := { name := "fnExactStockLevels", fn := fun _ => fun
  | [d1, d2] => { results := [.lit (.bool false)], args := [d1, d2] }
  | _ => none }
def FnExactStockLevelsWrongFalsely : Prop := fnExactStockLevelsRow.holds Try.pinned (OpenSpec.ofChange fnExactStockLevelsWrong)

/-- 'laws.FnExactLotPlan': WHATEVER THE INPUT: true; the input reads as it did. -/
def fnExactLotPlanSpec : ChangeSpec := { name := "fnExactLotPlan", fn := fun _ => fun
  | [d1, d2] => { results := [.lit (.bool true)], args := [d1, d2] }
  | _ => none }
def fnExactLotPlanRow : OpenClaim := { program := "ytjbgjljcgdligaa", sum := "8d669061329685da60adfdf7849f9741bb19b5961a9b6cde53aea82f50690a61", func := "loop.example/integerplanner/laws.FnExactLotPlan", spec := "fnExactLotPlan", apart := false }
def FnExactLotPlanSaid : Prop := fnExactLotPlanRow.holds Try.pinned (OpenSpec.ofChange fnExactLotPlanSpec)

/-- ITS FALSE NEIGHBOUR: 'it returns false'. Refute it at one input. -/
def fnExactLotPlanWrong : ChangeSpec := { name := "fnExactLotPlan", fn := fun _ => fun
  | [d1, d2] => { results := [.lit (.bool false)], args := [d1, d2] }
  | _ => none }
def FnExactLotPlanWrongFalsely : Prop := fnExactLotPlanRow.holds Try.pinned (OpenSpec.ofChange fnExactLotPlanWrong)

/-- 'laws.FnExactLineOk': WHATEVER THE INPUT: true; the input reads as it did. -/
def fnExactLineOkSpec : ChangeSpec := { name := "fnExactLineOk", fn := fun _ => fun
  | [d1, d2, d3, d4] => { results := [.lit (.bool true)], args := [d1, d2, d3, d4] }
  | _ => none }
def fnExactLineOkRow : OpenClaim := { program := "ytjbgjljcgdligaa", sum := "8d669061329685da60adfdf7849f9741bb19b5961a9b6cde53aea82f50690a61", func := "loop.example/integerplanner/laws.FnExactLineOk", spec := "fnExactLineOk", apart := false }
def FnExactLineOkSaid : Prop := fnExactLineOkRow.holds Try.pinned (OpenSpec.ofChange fnExactLineOkSpec)

/-- ITS FALSE NEIGHBOUR: 'it returns false'. Refute it at one input. -/
def fnExactLineOkWrong : ChangeSpec := { name := "fnExactLineOk", fn := fun _ => fun
  | [d1, d2, d3, d4] => { results := [.lit (.bool false)], args := [d1, d2, d3, d4] }
  | _ => none }
def FnExactLineOkWrongFalsely : Prop := fnExactLineOkRow.holds Try.pinned (OpenSpec.ofChange fnExactLineOkWrong)

/-- 'laws.FnExactRosterOk': WHATEVER THE INPUT: true; the input reads as it did. -/
def fnExactRosterOkSpec : ChangeSpec := { name := "fnExactRosterOk", fn := fun _ => fun
  | [d1, d2, d3, d4] => { results := [.lit (.bool true)], args := [d1, d2, d3, d4] }
  | _ => none }
def fnExactRosterOkRow : OpenClaim := { program := "ytjbgjljcgdligaa", sum := "8d669061329685da60adfdf7849f9741bb19b5961a9b6cde53aea82f50690a61", func := "loop.example/integerplanner/laws.FnExactRosterOk", spec := "fnExactRosterOk", apart := false }
def FnExactRosterOkSaid : Prop := fnExactRosterOkRow.holds Try.pinned (OpenSpec.ofChange fnExactRosterOkSpec)

/-- ITS FALSE NEIGHBOUR: 'it returns false'. Refute it at one input. -/
def fnExactRosterOkWrong : ChangeSpec := { name := "fnExactRosterOk", fn := fun _ => fun
  | [d1, d2, d3, d4] => { results := [.lit (.bool false)], args := [d1, d2, d3, d4] }
  | _ => none }
def FnExactRosterOkWrongFalsely : Prop := fnExactRosterOkRow.holds Try.pinned (OpenSpec.ofChange fnExactRosterOkWrong)

/-- 'laws.FnExactWorkOf': WHATEVER THE INPUT: true; the input reads as it did. -/
def fnExactWorkOfSpec : ChangeSpec := { name := "fnExactWorkOf", fn := fun _ => fun
  | [d1, d2] => { results := [.lit (.bool true)], args := [d1, d2] }
  | _ => none }
def fnExactWorkOfRow : OpenClaim := { program := "ytjbgjljcgdligaa", sum := "8d669061329685da60adfdf7849f9741bb19b5961a9b6cde53aea82f50690a61", func := "loop.example/integerplanner/laws.FnExactWorkOf", spec := "fnExactWorkOf", apart := false }
def FnExactWorkOfSaid : Prop := fnExactWorkOfRow.holds Try.pinned (OpenSpec.ofChange fnExactWorkOfSpec)

/-- ITS FALSE NEIGHBOUR: 'it returns false'. Refute it at one input. -/
def fnExactWorkOfWrong : ChangeSpec := { name := "fnExactWorkOf", fn := fun _ => fun
  | [d1, d2] => { results := [.lit (.bool false)], args := [d1, d2] }
  | _ => none }
def FnExactWorkOfWrongFalsely : Prop := fnExactWorkOfRow.holds Try.pinned (OpenSpec.ofChange fnExactWorkOfWrong)

/-- 'laws.FnExactCrewBound': WHATEVER THE INPUT: true; the input reads as it did. -/
def fnExactCrewBoundSpec : ChangeSpec := { name := "fnExactCrewBound", fn := fun _ => fun
  | [d1, d2] => { results := [.lit (.bool true)], args := [d1, d2] }
  | _ => none }
def fnExactCrewBoundRow : OpenClaim := { program := "ytjbgjljcgdligaa", sum := "8d669061329685da60adfdf7849f9741bb19b5961a9b6cde53aea82f50690a61", func := "loop.example/integerplanner/laws.FnExactCrewBound", spec := "fnExactCrewBound", apart := false }
def FnExactCrewBoundSaid : Prop := fnExactCrewBoundRow.holds Try.pinned (OpenSpec.ofChange fnExactCrewBoundSpec)

/-- ITS FALSE NEIGHBOUR: 'it returns false'. Refute it at one input. -/
def fnExactCrewBoundWrong : ChangeSpec := { name := "fnExactCrewBound", fn := fun _ => fun
  | [d1, d2] => { results := [.lit (.bool false)], args := [d1, d2] }
  | _ => none }
def FnExactCrewBoundWrongFalsely : Prop := fnExactCrewBoundRow.holds Try.pinned (OpenSpec.ofChange fnExactCrewBoundWrong)

/-- 'laws.FnExactFlowValue': WHATEVER THE INPUT: true; the input reads as it did. -/
def fnExactFlowValueSpec : ChangeSpec := { name := "fnExactFlowValue", fn := fun _ => fun
  | [d1, d2, d3, d4, d5] => { results := [.lit (.bool true)], args := [d1, d2, d3, d4, d5] }
  | _ => none }
def fnExactFlowValueRow : OpenClaim := { program := "ytjbgjljcgdligaa", sum := "8d669061329685da60adfdf7849f9741bb19b5961a9b6cde53aea82f50690a61", func := "loop.example/integerplanner/laws.FnExactFlowValue", spec := "fnExactFlowValue", apart := false }
def FnExactFlowValueSaid : Prop := fnExactFlowValueRow.holds Try.pinned (OpenSpec.ofChange fnExactFlowValueSpec)

/-- ITS FALSE NEIGHBOUR: 'it returns false'. Refute it at one input. -/
def fnExactFlowValueWrong : ChangeSpec := { name := "fnExactFlowValue", fn := fun _ => fun
  | [d1, d2, d3, d4, d5] => { results := [.lit (.bool false)], args := [d1, d2, d3, d4, d5] }
  | _ => none }
def FnExactFlowValueWrongFalsely : Prop := fnExactFlowValueRow.holds Try.pinned (OpenSpec.ofChange fnExactFlowValueWrong)

/-- 'laws.FnExactCutCapacity': WHATEVER THE INPUT: true; the input reads as it did. -/
def fnExactCutCapacitySpec : ChangeSpec := { name := "fnExactCutCapacity", fn := fun _ => fun
  | [d1, d2, d3, d4, d5] => { results := [.lit (.bool true)], args := [d1, d2, d3, d4, d5] }
  | _ => none }
def fnExactCutCapacityRow : OpenClaim := { program := "ytjbgjljcgdligaa", sum := "8d669061329685da60adfdf7849f9741bb19b5961a9b6cde53aea82f50690a61", func := "loop.example/integerplanner/laws.FnExactCutCapacity", spec := "fnExactCutCapacity", apart := false }
def FnExactCutCapacitySaid : Prop := fnExactCutCapacityRow.holds Try.pinned (OpenSpec.ofChange fnExactCutCapacitySpec)

/-- ITS FALSE NEIGHBOUR: 'it returns false'. Refute it at one input. -/
def fnExactCutCapacityWrong : ChangeSpec := { name := "fnExactCutCapacity", fn := fun _ => fun
  | [d1, d2, d3, d4, d5] => { results := [.lit (.bool false)], args := [d1, d2, d3, d4, d5] }
  | _ => none }
def FnExactCutCapacityWrongFalsely : Prop := fnExactCutCapacityRow.holds Try.pinned (OpenSpec.ofChange fnExactCutCapacityWrong)

/-- 'laws.FnExactTreeCost': WHATEVER THE INPUT: true; the input reads as it did. -/
def fnExactTreeCostSpec : ChangeSpec := { name := "fnExactTreeCost", fn := fun _ => fun
  | [d1, d2, d3] => { results := [.lit (.bool true)], args := [d1, d2, d3] }
  | _ => none }
def fnExactTreeCostRow : OpenClaim := { program := "ytjbgjljcgdligaa", sum := "8d669061329685da60adfdf7849f9741bb19b5961a9b6cde53aea82f50690a61", func := "loop.example/integerplanner/laws.FnExactTreeCost", spec := "fnExactTreeCost", apart := false }
def FnExactTreeCostSaid : Prop := fnExactTreeCostRow.holds Try.pinned (OpenSpec.ofChange fnExactTreeCostSpec)

/-- ITS FALSE NEIGHBOUR: 'it returns false'. Refute it at one input. -/
def fnExactTreeCostWrong : ChangeSpec := { name := "fnExactTreeCost", fn := fun _ => fun
  | [d1, d2, d3] => { results := [.lit (.bool false)], args := [d1, d2, d3] }
  | _ => none }
def FnExactTreeCostWrongFalsely : Prop := fnExactTreeCostRow.holds Try.pinned (OpenSpec.ofChange fnExactTreeCostWrong)

/-- 'laws.FnExactExtendLabel': WHATEVER THE INPUT: true; the input reads as it did. -/
def fnExactExtendLabelSpec : ChangeSpec := { name := "fnExactExtendLabel", fn := fun _ => fun
  | [d1, d2, d3, d4] => { results := [.lit (.bool true)], args := [d1, d2, d3, d4] }
  | _ => none }
def fnExactExtendLabelRow : OpenClaim := { program := "ytjbgjljcgdligaa", sum := "8d669061329685da60adfdf7849f9741bb19b5961a9b6cde53aea82f50690a61", func := "loop.example/integerplanner/laws.FnExactExtendLabel", spec := "fnExactExtendLabel", apart := false }
def FnExactExtendLabelSaid : Prop := fnExactExtendLabelRow.holds Try.pinned (OpenSpec.ofChange fnExactExtendLabelSpec)

/-- ITS FALSE NEIGHBOUR: 'it returns false'. Refute it at one input. -/
def fnExactExtendLabelWrong : ChangeSpec := { name := "fnExactExtendLabel", fn := fun _ => fun
  | [d1, d2, d3, d4] => { results := [.lit (.bool false)], args := [d1, d2, d3, d4] }
  | _ => none }
def FnExactExtendLabelWrongFalsely : Prop := fnExactExtendLabelRow.holds Try.pinned (OpenSpec.ofChange fnExactExtendLabelWrong)

/-- 'laws.FnExactMulUnit': WHATEVER THE INPUT: true; the input reads as it did. -/
def fnExactMulUnitSpec : ChangeSpec := { name := "fnExactMulUnit", fn := fun _ => fun
  | [d1, d2] => { results := [.lit (.bool true)], args := [d1, d2] }
  | _ => none }
def fnExactMulUnitRow : OpenClaim := { program := "ytjbgjljcgdligaa", sum := "8d669061329685da60adfdf7849f9741bb19b5961a9b6cde53aea82f50690a61", func := "loop.example/integerplanner/laws.FnExactMulUnit", spec := "fnExactMulUnit", apart := false }
def FnExactMulUnitSaid : Prop := fnExactMulUnitRow.holds Try.pinned (OpenSpec.ofChange fnExactMulUnitSpec)

/-- ITS FALSE NEIGHBOUR: 'it returns false'. Refute it at one input. -/
def fnExactMulUnitWrong : ChangeSpec := { name := "fnExactMulUnit", fn := fun _ => fun
  | [d1, d2] => { results := [.lit (.bool false)], args := [d1, d2] }
  | _ => none }
def FnExactMulUnitWrongFalsely : Prop := fnExactMulUnitRow.holds Try.pinned (OpenSpec.ofChange fnExactMulUnitWrong)

/-- 'laws.FnExactDivUnit': WHATEVER THE INPUT: true; the input reads as it did. -/
def fnExactDivUnitSpec : ChangeSpec := { name := "fnExactDivUnit", fn := fun _ => fun
  | [d1, d2] => { results := [.lit (.bool true)], args := [d1, d2] }
  | _ => none }
def fnExactDivUnitRow : OpenClaim := { program := "ytjbgjljcgdligaa", sum := "8d669061329685da60adfdf7849f9741bb19b5961a9b6cde53aea82f50690a61", func := "loop.example/integerplanner/laws.FnExactDivUnit", spec := "fnExactDivUnit", apart := false }
def FnExactDivUnitSaid : Prop := fnExactDivUnitRow.holds Try.pinned (OpenSpec.ofChange fnExactDivUnitSpec)

/-- ITS FALSE NEIGHBOUR: 'it returns false'. Refute it at one input. -/
def fnExactDivUnitWrong : ChangeSpec := { name := "fnExactDivUnit", fn := fun _ => fun
  | [d1, d2] => { results := [.lit (.bool false)], args := [d1, d2] }
  | _ => none }
def FnExactDivUnitWrongFalsely : Prop := fnExactDivUnitRow.holds Try.pinned (OpenSpec.ofChange fnExactDivUnitWrong)

/- THE SECOND FORM. 'bulk': how many values and letters a reading holds, each counted each time it is reached (what is shared counts as often as it is met; a slice's spare places count too). A statement '..UptoSaid' is the law's where the arguments, and the package variables that the reading takes, are together of bulk at most 1048576: NARROWER than '..Said'. Prove '..Said' where nothing that the law and all that it calls make is longer than what came in: it says more and counts as full. Else prove '..UptoSaid'. A law counts once. -/
mutual
def uptoBulk {H : Type} : DataW H → Nat
  | .lit (.string bytes) => bytes.length + 1
  | .lit _ => 1
  | .nil => 1
  | .ptr d => uptoBulk d + 1
  | .slice elems spare => uptoBulkAll elems + uptoBulkAll spare + 1
  | .agg parts => uptoBulkAll parts + 1
  | .iface _ d => uptoBulk d + 1
  | .map entries => uptoBulkEntries entries + 1
  | .held _ => 1
def uptoBulkAll {H : Type} : List (DataW H) → Nat
  | [] => 0
  | d :: r => uptoBulk d + uptoBulkAll r
def uptoBulkEntries {H : Type} : List (Lit × DataW H) → Nat
  | [] => 0
  | x :: r => uptoBulkEntry x + uptoBulkEntries r
def uptoBulkEntry {H : Type} : Lit × DataW H → Nat
  | (.string bytes, d) => bytes.length + uptoBulk d + 1
  | (_, d) => uptoBulk d + 1
 end
def uptoSmall : (H : Type) → List (DataW H) → Bool := fun _ ds => decide (uptoBulkAll ds ≤ 1048576)
def OpenSpec.upto (s : _root_.Go.ChangeSpec) : _root_.Go.OpenSpec := { _root_.Go.OpenSpec.ofChange s with cond := some uptoSmall }

/-- 'laws.FnExactStockLevels', WHERE WHAT IT READS IS OF BULK AT MOST 1048576: true; the input reads as it did. -/
def fnExactStockLevelsUptoRow : OpenClaim := { program := "ytjbgjljcgdligaa", sum := "8d669061329685da60adfdf7849f9741bb19b5961a9b6cde53aea82f50690a61", func := "loop.example/integerplanner/laws.FnExactStockLevels", spec := "fnExactStockLevels", apart := false, narrowed := true }
def FnExactStockLevelsUptoSaid : Prop := fnExactStockLevelsUptoRow.holds Try.pinned (OpenSpec.upto fnExactStockLevelsSpec)

/-- 'laws.FnExactLotPlan', WHERE WHAT IT READS IS OF BULK AT MOST 1048576: true; the input reads as it did. -/
def fnExactLotPlanUptoRow : OpenClaim := { program := "ytjbgjljcgdligaa", sum := "8d669061329685da60adfdf7849f9741bb19b5961a9b6cde53aea82f50690a61", func := "loop.example/integerplanner/laws.FnExactLotPlan", spec := "fnExactLotPlan", apart := false, narrowed := true }
def FnExactLotPlanUptoSaid : Prop := fnExactLotPlanUptoRow.holds Try.pinned (OpenSpec.upto fnExactLotPlanSpec)

/-- 'laws.FnExactLineOk', WHERE WHAT IT READS IS OF BULK AT MOST 1048576: true; the input reads as it did. -/
def fnExactLineOkUptoRow : OpenClaim := { program := "ytjbgjljcgdligaa", sum := "8d669061329685da60adfdf7849f9741bb19b5961a9b6cde53aea82f50690a61", func := "loop.example/integerplanner/laws.FnExactLineOk", spec := "fnExactLineOk", apart := false, narrowed := true }
def FnExactLineOkUptoSaid : Prop := fnExactLineOkUptoRow.holds Try.pinned (OpenSpec.upto fnExactLineOkSpec)

/-- 'laws.FnExactRosterOk', WHERE WHAT IT READS IS OF BULK AT MOST 1048576: true; the input reads as it did. -/
def fnExactRosterOkUptoRow : OpenClaim := { program := "ytjbgjljcgdligaa", sum := "8d669061329685da60adfdf7849f9741bb19b5961a9b6cde53aea82f50690a61", func := "loop.example/integerplanner/laws.FnExactRosterOk", spec := "fnExactRosterOk", apart := false, narrowed := true }
def FnExactRosterOkUptoSaid : Prop := fnExactRosterOkUptoRow.holds Try.pinned (OpenSpec.upto fnExactRosterOkSpec)

/-- 'laws.FnExactWorkOf', WHERE WHAT IT READS IS OF BULK AT MOST 1048576: true; the input reads as it did. -/
def fnExactWorkOfUptoRow : OpenClaim := { program := "ytjbgjljcgdligaa", sum := "8d669061329685da60adfdf7849f9741bb19b5961a9b6cde53aea82f50690a61", func := "loop.example/integerplanner/laws.FnExactWorkOf", spec := "fnExactWorkOf", apart := false, narrowed := true }
def FnExactWorkOfUptoSaid : Prop := fnExactWorkOfUptoRow.holds Try.pinned (OpenSpec.upto fnExactWorkOfSpec)

/-- 'laws.FnExactCrewBound', WHERE WHAT IT READS IS OF BULK AT MOST 1048576: true; the input reads as it did. -/
def fnExactCrewBoundUptoRow : OpenClaim := { program := "ytjbgjljcgdligaa", sum := "8d669061329685da60adfdf7849f9741bb19b5961a9b6cde53aea82f50690a61", func := "loop.example/integerplanner/laws.FnExactCrewBound", spec := "fnExactCrewBound", apart := false, narrowed := true }
def FnExactCrewBoundUptoSaid : Prop := fnExactCrewBoundUptoRow.holds Try.pinned (OpenSpec.upto fnExactCrewBoundSpec)

/-- 'laws.FnExactFlowValue', WHERE WHAT IT READS IS OF BULK AT MOST 1048576: true; the input reads as it did. -/
def fnExactFlowValueUptoRow : OpenClaim := { program := "ytjbgjljcgdligaa", sum := "8d669061329685da60adfdf7849f9741bb19b5961a9b6cde53aea82f50690a61", func := "loop.example/integerplanner/laws.FnExactFlowValue", spec := "fnExactFlowValue", apart := false, narrowed := true }
def FnExactFlowValueUptoSaid : Prop := fnExactFlowValueUptoRow.holds Try.pinned (OpenSpec.upto fnExactFlowValueSpec)

/-- 'laws.FnExactCutCapacity', WHERE WHAT IT READS IS OF BULK AT MOST 1048576: true; the input reads as it did. -/
def fnExactCutCapacityUptoRow : OpenClaim := { program := "ytjbgjljcgdligaa", sum := "8d669061329685da60adfdf7849f9741bb19b5961a9b6cde53aea82f50690a61", func := "loop.example/integerplanner/laws.FnExactCutCapacity", spec := "fnExactCutCapacity", apart := false, narrowed := true }
def FnExactCutCapacityUptoSaid : Prop := fnExactCutCapacityUptoRow.holds Try.pinned (OpenSpec.upto fnExactCutCapacitySpec)

/-- 'laws.FnExactTreeCost', WHERE WHAT IT READS IS OF BULK AT MOST 1048576: true; the input reads as it did. -/
def fnExactTreeCostUptoRow : OpenClaim := { program := "ytjbgjljcgdligaa", sum := "8d669061329685da60adfdf7849f9741bb19b5961a9b6cde53aea82f50690a61", func := "loop.example/integerplanner/laws.FnExactTreeCost", spec := "fnExactTreeCost", apart := false, narrowed := true }
def FnExactTreeCostUptoSaid : Prop := fnExactTreeCostUptoRow.holds Try.pinned (OpenSpec.upto fnExactTreeCostSpec)

/-- 'laws.FnExactExtendLabel', WHERE WHAT IT READS IS OF BULK AT MOST 1048576: true; the input reads as it did. -/
def fnExactExtendLabelUptoRow : OpenClaim := { program := "ytjbgjljcgdligaa", sum := "8d669061329685da60adfdf7849f9741bb19b5961a9b6cde53aea82f50690a61", func := "loop.example/integerplanner/laws.FnExactExtendLabel", spec := "fnExactExtendLabel", apart := false, narrowed := true }
def FnExactExtendLabelUptoSaid : Prop := fnExactExtendLabelUptoRow.holds Try.pinned (OpenSpec.upto fnExactExtendLabelSpec)

/-- 'laws.FnExactMulUnit', WHERE WHAT IT READS IS OF BULK AT MOST 1048576: true; the input reads as it did. -/
def fnExactMulUnitUptoRow : OpenClaim := { program := "ytjbgjljcgdligaa", sum := "8d669061329685da60adfdf7849f9741bb19b5961a9b6cde53aea82f50690a61", func := "loop.example/integerplanner/laws.FnExactMulUnit", spec := "fnExactMulUnit", apart := false, narrowed := true }
def FnExactMulUnitUptoSaid : Prop := fnExactMulUnitUptoRow.holds Try.pinned (OpenSpec.upto fnExactMulUnitSpec)

/-- 'laws.FnExactDivUnit', WHERE WHAT IT READS IS OF BULK AT MOST 1048576: true; the input reads as it did. -/
def fnExactDivUnitUptoRow : OpenClaim := { program := "ytjbgjljcgdligaa", sum := "8d669061329685da60adfdf7849f9741bb19b5961a9b6cde53aea82f50690a61", func := "loop.example/integerplanner/laws.FnExactDivUnit", spec := "fnExactDivUnit", apart := false, narrowed := true }
def FnExactDivUnitUptoSaid : Prop := fnExactDivUnitUptoRow.holds Try.pinned (OpenSpec.upto fnExactDivUnitSpec)

end Rows
end Go.Proofs.Ytjbgjljcgdligaa
