/-
  No cell of these rows narrows 'for every input' (looked for: loops, veiled, ifaces, maps, wideKeys, modest, calm, conditions, laid).
  DERIVED. THE GIVEN ROWS OF THIS SEAT. 11 by the template 'for every input the law returns true; each argument reads behind the call as it read before'; 0 by the template 'total and deterministic' (their statements: YtppdomoifnokpabTotals.lean).
  GIVEN WITH THE SEED: the statements are not yours to turn. If you find one false, say at which input.
  Laid BY PROGRAM, IN A SANDBOX (cutbox-rows.mjs): the forced cells as the released guide's own fill.sh prints them over the translation ce96f2e16837f98d… (all of the seat's roots in one cut). By AI agents, Wed Nov 11 2026. No macro, syntax, notation, axiom, sorry.
-/
import Derived.Test.YtppdomoifnokpabChecked
import GoSem.Claim
import GoSem.ClaimJoined
import GoSem.ClaimMapViews
import Derived.JoinedTies
import Derived.KernelRfl
namespace Go.Proofs.Ytppdomoifnokpab
/- THE CELL 'sum', in the pinned program and in every row, IS THE sha256 OF THE DUMP (.gsa) THAT YtppdomoifnokpabProg.lean LOADS. Nothing in Lean hashes anything: it is a label: what it is worth is what the hold of that sum in a sandbox is worth. -/
noncomputable def Try.pinned : Pinned := { name := "ytppdomoifnokpab", sum := "ce96f2e16837f98ddebfff5d6ddbcb8ed585f659e6b0cfa1046656aa47da585e", checked := Try.checked }
namespace Rows
def none {H : Type} : Left H := { results := [], args := [] }

/-- 'laws.FnConflictEdges': WHATEVER THE INPUT: true; the input reads as it did. -/
def fnConflictEdgesSpec : ChangeSpec := { name := "fnConflictEdges", fn := fun _ => fun
  | [d] => { results := [.lit (.bool true)], args := [d] }
  | _ => none }
def fnConflictEdgesRow : OpenClaim := { program := "ytppdomoifnokpab", sum := "ce96f2e16837f98ddebfff5d6ddbcb8ed585f659e6b0cfa1046656aa47da585e", func := "loop.example/integerplanner/laws.FnConflictEdges", spec := "fnConflictEdges", apart := false }
def FnConflictEdgesSaid : Prop := fnConflictEdgesRow.holds Try.pinned (OpenSpec.ofChange fnConflictEdgesSpec)

/-- ITS FALSE NEIGHBOUR: 'it returns false'. Refute it at one input. -/
def fnConflictEdgesWrong : ChangeSpec := { name := "fnConflictEdges", fn := fun _ => fun
  | [d] => { results := [.lit (.bool false)], args := [d] }
  | _ => none }
def FnConflictEdgesWrongFalsely : Prop := fnConflictEdgesRow.holds Try.pinned (OpenSpec.ofChange fnConflictEdgesWrong)

/-- 'laws.FnDominates': WHATEVER THE INPUT: true; the input reads as it did. -/
def fnDominatesSpec : ChangeSpec := { name := "fnDominates", fn := fun _ => fun
  | [d] => { results := [.lit (.bool true)], args := [d] }
  | _ => none }
def fnDominatesRow : OpenClaim := { program := "ytppdomoifnokpab", sum := "ce96f2e16837f98ddebfff5d6ddbcb8ed585f659e6b0cfa1046656aa47da585e", func := "loop.example/integerplanner/laws.FnDominates", spec := "fnDominates", apart := false }
def FnDominatesSaid : Prop := fnDominatesRow.holds Try.pinned (OpenSpec.ofChange fnDominatesSpec)

/-- ITS FALSE NEIGHBOUR: 'it returns false'. Refute it at one input. -/
def fnDominatesWrong : ChangeSpec := { name := "fnDominates", fn := fun _ => fun
  | [d] => { results := [.lit (.bool false)], args := [d] }
  | _ => none }
def FnDominatesWrongFalsely : Prop := fnDominatesRow.holds Try.pinned (OpenSpec.ofChange fnDominatesWrong)

/-- 'laws.FnDominatesBetter': WHATEVER THE INPUT: true; the input reads as it did. -/
def fnDominatesBetterSpec : ChangeSpec := { name := "fnDominatesBetter", fn := fun _ => fun
  | [d] => { results := [.lit (.bool true)], args := [d] }
  | _ => none }
def fnDominatesBetterRow : OpenClaim := { program := "ytppdomoifnokpab", sum := "ce96f2e16837f98ddebfff5d6ddbcb8ed585f659e6b0cfa1046656aa47da585e", func := "loop.example/integerplanner/laws.FnDominatesBetter", spec := "fnDominatesBetter", apart := false }
def FnDominatesBetterSaid : Prop := fnDominatesBetterRow.holds Try.pinned (OpenSpec.ofChange fnDominatesBetterSpec)

/-- ITS FALSE NEIGHBOUR: 'it returns false'. Refute it at one input. -/
def fnDominatesBetterWrong : ChangeSpec := { name := "fnDominatesBetter", fn := fun _ => fun
  | [d] => { results := [.lit (.bool false)], args := [d] }
  | _ => none }
def FnDominatesBetterWrongFalsely : Prop := fnDominatesBetterRow.holds Try.pinned (OpenSpec.ofChange fnDominatesBetterWrong)

/-- 'laws.FnValidFleet': WHATEVER THE INPUT: true; the input reads as it did. -/
def fnValidFleetSpec : ChangeSpec := { name := "fnValidFleet", fn := fun _ => fun
  | [d] => { results := [.lit (.bool true)], args := [d] }
  | _ => none }
def fnValidFleetRow : OpenClaim := { program := "ytppdomoifnokpab", sum := "ce96f2e16837f98ddebfff5d6ddbcb8ed585f659e6b0cfa1046656aa47da585e", func := "loop.example/integerplanner/laws.FnValidFleet", spec := "fnValidFleet", apart := false }
def FnValidFleetSaid : Prop := fnValidFleetRow.holds Try.pinned (OpenSpec.ofChange fnValidFleetSpec)

/-- ITS FALSE NEIGHBOUR: 'it returns false'. Refute it at one input. -/
def fnValidFleetWrong : ChangeSpec := { name := "fnValidFleet", fn := fun _ => fun
  | [d] => { results := [.lit (.bool false)], args := [d] }
  | _ => none }
def FnValidFleetWrongFalsely : Prop := fnValidFleetRow.holds Try.pinned (OpenSpec.ofChange fnValidFleetWrong)

/-- 'laws.FnRouteTimes': WHATEVER THE INPUT: true; the input reads as it did. -/
def fnRouteTimesSpec : ChangeSpec := { name := "fnRouteTimes", fn := fun _ => fun
  | [d] => { results := [.lit (.bool true)], args := [d] }
  | _ => none }
def fnRouteTimesRow : OpenClaim := { program := "ytppdomoifnokpab", sum := "ce96f2e16837f98ddebfff5d6ddbcb8ed585f659e6b0cfa1046656aa47da585e", func := "loop.example/integerplanner/laws.FnRouteTimes", spec := "fnRouteTimes", unfollowed := true, recurses := true, apart := false }
def FnRouteTimesSaid : Prop := fnRouteTimesRow.holds Try.pinned (OpenSpec.ofChange fnRouteTimesSpec)

/-- ITS FALSE NEIGHBOUR: 'it returns false'. Refute it at one input. -/
def fnRouteTimesWrong : ChangeSpec := { name := "fnRouteTimes", fn := fun _ => fun
  | [d] => { results := [.lit (.bool false)], args := [d] }
  | _ => none }
def FnRouteTimesWrongFalsely : Prop := fnRouteTimesRow.holds Try.pinned (OpenSpec.ofChange fnRouteTimesWrong)

/-- 'laws.FnRouteTimesPrefix': WHATEVER THE INPUT: true; the input reads as it did. -/
def fnRouteTimesPrefixSpec : ChangeSpec := { name := "fnRouteTimesPrefix", fn := fun _ => fun
  | [d] => { results := [.lit (.bool true)], args := [d] }
  | _ => none }
def fnRouteTimesPrefixRow : OpenClaim := { program := "ytppdomoifnokpab", sum := "ce96f2e16837f98ddebfff5d6ddbcb8ed585f659e6b0cfa1046656aa47da585e", func := "loop.example/integerplanner/laws.FnRouteTimesPrefix", spec := "fnRouteTimesPrefix", unfollowed := true, recurses := true, apart := false }
def FnRouteTimesPrefixSaid : Prop := fnRouteTimesPrefixRow.holds Try.pinned (OpenSpec.ofChange fnRouteTimesPrefixSpec)

/-- ITS FALSE NEIGHBOUR: 'it returns false'. Refute it at one input. -/
def fnRouteTimesPrefixWrong : ChangeSpec := { name := "fnRouteTimesPrefix", fn := fun _ => fun
  | [d] => { results := [.lit (.bool false)], args := [d] }
  | _ => none }
def FnRouteTimesPrefixWrongFalsely : Prop := fnRouteTimesPrefixRow.holds Try.pinned (OpenSpec.ofChange fnRouteTimesPrefixWrong)

/-- 'laws.FnRouteCost': WHATEVER THE INPUT: true; the input reads as it did. -/
def fnRouteCostSpec : ChangeSpec := { name := "fnRouteCost", fn := fun _ => fun
  | [d] => { results := [.lit (.bool true)], args := [d] }
  | _ => none }
def fnRouteCostRow : OpenClaim := { program := "ytppdomoifnokpab", sum := "ce96f2e16837f98ddebfff5d6ddbcb8ed585f659e6b0cfa1046656aa47da585e", func := "loop.example/integerplanner/laws.FnRouteCost", spec := "fnRouteCost", unfollowed := true, recurses := true, apart := false }
def FnRouteCostSaid : Prop := fnRouteCostRow.holds Try.pinned (OpenSpec.ofChange fnRouteCostSpec)

/-- ITS FALSE NEIGHBOUR: 'it returns false'. Refute it at one input. -/
def fnRouteCostWrong : ChangeSpec := { name := "fnRouteCost", fn := fun _ => fun
  | [d] => { results := [.lit (.bool false)], args := [d] }
  | _ => none }
def FnRouteCostWrongFalsely : Prop := fnRouteCostRow.holds Try.pinned (OpenSpec.ofChange fnRouteCostWrong)

/-- 'laws.FnParetoLabels': WHATEVER THE INPUT: true; the input reads as it did. -/
def fnParetoLabelsSpec : ChangeSpec := { name := "fnParetoLabels", fn := fun _ => fun
  | [d] => { results := [.lit (.bool true)], args := [d] }
  | _ => none }
def fnParetoLabelsRow : OpenClaim := { program := "ytppdomoifnokpab", sum := "ce96f2e16837f98ddebfff5d6ddbcb8ed585f659e6b0cfa1046656aa47da585e", func := "loop.example/integerplanner/laws.FnParetoLabels", spec := "fnParetoLabels", unfollowed := true, recurses := true, apart := false }
def FnParetoLabelsSaid : Prop := fnParetoLabelsRow.holds Try.pinned (OpenSpec.ofChange fnParetoLabelsSpec)

/-- ITS FALSE NEIGHBOUR: 'it returns false'. Refute it at one input. -/
def fnParetoLabelsWrong : ChangeSpec := { name := "fnParetoLabels", fn := fun _ => fun
  | [d] => { results := [.lit (.bool false)], args := [d] }
  | _ => none }
def FnParetoLabelsWrongFalsely : Prop := fnParetoLabelsRow.holds Try.pinned (OpenSpec.ofChange fnParetoLabelsWrong)

/-- 'laws.FnExtendLabel': WHATEVER THE INPUT: true; the input reads as it did. -/
def fnExtendLabelSpec : ChangeSpec := { name := "fnExtendLabel", fn := fun _ => fun
  | [d] => { results := [.lit (.bool true)], args := [d] }
  | _ => none }
def fnExtendLabelRow : OpenClaim := { program := "ytppdomoifnokpab", sum := "ce96f2e16837f98ddebfff5d6ddbcb8ed585f659e6b0cfa1046656aa47da585e", func := "loop.example/integerplanner/laws.FnExtendLabel", spec := "fnExtendLabel", unfollowed := true, recurses := true, apart := false }
def FnExtendLabelSaid : Prop := fnExtendLabelRow.holds Try.pinned (OpenSpec.ofChange fnExtendLabelSpec)

/-- ITS FALSE NEIGHBOUR: 'it returns false'. Refute it at one input. -/
def fnExtendLabelWrong : ChangeSpec := { name := "fnExtendLabel", fn := fun _ => fun
  | [d] => { results := [.lit (.bool false)], args := [d] }
  | _ => none }
def FnExtendLabelWrongFalsely : Prop := fnExtendLabelRow.holds Try.pinned (OpenSpec.ofChange fnExtendLabelWrong)

/-- 'laws.FnValidBox': WHATEVER THE INPUT: true; the input reads as it did. -/
def fnValidBoxSpec : ChangeSpec := { name := "fnValidBox", fn := fun _ => fun
  | [d] => { results := [.lit (.bool true)], args := [d] }
  | _ => none }
def fnValidBoxRow : OpenClaim := { program := "ytppdomoifnokpab", sum := "ce96f2e16837f98ddebfff5d6ddbcb8ed585f659e6b0cfa1046656aa47da585e", func := "loop.example/integerplanner/laws.FnValidBox", spec := "fnValidBox", apart := false }
def FnValidBoxSaid : Prop := fnValidBoxRow.holds Try.pinned (OpenSpec.ofChange fnValidBoxSpec)

/-- ITS FALSE NEIGHBOUR: 'it returns false'. Refute it at one input. -/
def fnValidBoxWrong : ChangeSpec := { name := "fnValidBox", fn := fun _ => fun
  | [d] => { results := [.lit (.bool false)], args := [d] }
  | _ => none }
def FnValidBoxWrongFalsely : Prop := fnValidBoxRow.holds Try.pinned (OpenSpec.ofChange fnValidBoxWrong)

/-- 'laws.FnRowRange': WHATEVER THE INPUT: true; the input reads as it did. -/
def fnRowRangeSpec : ChangeSpec := { name := "fnRowRange", fn := fun _ => fun
  | [d] => { results := [.lit (.bool true)], args := [d] }
  | _ => none }
def fnRowRangeRow : OpenClaim := { program := "ytppdomoifnokpab", sum := "ce96f2e16837f98ddebfff5d6ddbcb8ed585f659e6b0cfa1046656aa47da585e", func := "loop.example/integerplanner/laws.FnRowRange", spec := "fnRowRange", apart := false }
def FnRowRangeSaid : Prop := fnRowRangeRow.holds Try.pinned (OpenSpec.ofChange fnRowRangeSpec)

/-- ITS FALSE NEIGHBOUR: 'it returns false'. Refute it at one input. -/
def fnRowRangeWrong : ChangeSpec := { name := "fnRowRange", fn := fun _ => fun
  | [d] => { results := [.lit (.bool false)], args := [d] }
  | _ => none }
def FnRowRangeWrongFalsely : Prop := fnRowRangeRow.holds Try.pinned (OpenSpec.ofChange fnRowRangeWrong)

/- THE SECOND FORM. 'bulk': how many values and letters a reading holds, each counted each time it is reached (what is shared counts as often as it is met; a slice's spare places count too). A statement '..UptoSaid' is the law's where the arguments, and the package variables that the reading takes, are together of bulk at most 1048576: NARROWER than '..Said'. Prove '..Said' where nothing that the law and all that it calls make is longer than what came in: it says more and counts as full. Else prove '..UptoSaid'. A law counts once. -/
mutual
def uptoBulk {H : Type} : DataW H → Nat
  | .lit (.string bytes) => bytes.length + 1
  | .lit _ => 1
  | .nil => 1
  | .ptr d => uptoBulk d + 1
  | .slice elems spare => uptoBulkAll elems + uptoBulkAll spare + 1
  | .agg parts => uptoBulkAll parts + 1
  | .iface _ d => uptoBulk d + 1
  | .map entries => uptoBulkEntries entries + 1
  | .held _ => 1
def uptoBulkAll {H : Type} : List (DataW H) → Nat
  | [] => 0
  | d :: r => uptoBulk d + uptoBulkAll r
def uptoBulkEntries {H : Type} : List (Lit × DataW H) → Nat
  | [] => 0
  | x :: r => uptoBulkEntry x + uptoBulkEntries r
def uptoBulkEntry {H : Type} : Lit × DataW H → Nat
  | (.string bytes, d) => bytes.length + uptoBulk d + 1
  | (_, d) => uptoBulk d + 1
 end
def uptoSmall : (H : Type) → List (DataW H) → Bool := fun _ ds => decide (uptoBulkAll ds ≤ 1048576)
def OpenSpec.upto (s : _root_.Go.ChangeSpec) : _root_.Go.OpenSpec := { _root_.Go.OpenSpec.ofChange s with cond := some uptoSmall }

/-- 'laws.FnConflictEdges', WHERE WHAT IT READS IS OF BULK AT MOST 1048576: true; the input reads as it did. -/
def fnConflictEdgesUptoRow : OpenClaim := { program := "ytppdomoifnokpab", sum := "ce96f2e16837f98ddebfff5d6ddbcb8ed585f659e6b0cfa1046656aa47da585e", func := "loop.example/integerplanner/laws.FnConflictEdges", spec := "fnConflictEdges", apart := false, narrowed := true }
def FnConflictEdgesUptoSaid : Prop := fnConflictEdgesUptoRow.holds Try.pinned (OpenSpec.upto fnConflictEdgesSpec)

/-- 'laws.FnDominates', WHERE WHAT IT READS IS OF BULK AT MOST 1048576: true; the input reads as it did. -/
def fnDominatesUptoRow : OpenClaim := { program := "ytppdomoifnokpab", sum := "ce96f2e16837f98ddebfff5d6ddbcb8ed585f659e6b0cfa1046656aa47da585e", func := "loop.example/integerplanner/laws.FnDominates", spec := "fnDominates", apart := false, narrowed := true }
def FnDominatesUptoSaid : Prop := fnDominatesUptoRow.holds Try.pinned (OpenSpec.upto fnDominatesSpec)

/-- 'laws.FnDominatesBetter', WHERE WHAT IT READS IS OF BULK AT MOST 1048576: true; the input reads as it did. -/
def fnDominatesBetterUptoRow : OpenClaim := { program := "ytppdomoifnokpab", sum := "ce96f2e16837f98ddebfff5d6ddbcb8ed585f659e6b0cfa1046656aa47da585e", func := "loop.example/integerplanner/laws.FnDominatesBetter", spec := "fnDominatesBetter", apart := false, narrowed := true }
def FnDominatesBetterUptoSaid : Prop := fnDominatesBetterUptoRow.holds Try.pinned (OpenSpec.upto fnDominatesBetterSpec)

/-- 'laws.FnValidFleet', WHERE WHAT IT READS IS OF BULK AT MOST 1048576: true; the input reads as it did. -/
def fnValidFleetUptoRow : OpenClaim := { program := "ytppdomoifnokpab", sum := "ce96f2e16837f98ddebfff5d6ddbcb8ed585f659e6b0cfa1046656aa47da585e", func := "loop.example/integerplanner/laws.FnValidFleet", spec := "fnValidFleet", apart := false, narrowed := true }
def FnValidFleetUptoSaid : Prop := fnValidFleetUptoRow.holds Try.pinned (OpenSpec.upto fnValidFleetSpec)

/-- 'laws.FnRouteTimes', WHERE WHAT IT READS IS OF BULK AT MOST 1048576: true; the input reads as it did. -/
def fnRouteTimesUptoRow : OpenClaim := { program := "ytppdomoifnokpab", sum := "ce96f2e16837f98ddebfff5d6ddbcb8ed585f659e6b0cfa1046656aa47da585e", func := "loop.example/integerplanner/laws.FnRouteTimes", spec := "fnRouteTimes", unfollowed := true, recurses := true, apart := false, narrowed := true }
def FnRouteTimesUptoSaid : Prop := fnRouteTimesUptoRow.holds Try.pinned (OpenSpec.upto fnRouteTimesSpec)

/-- 'laws.FnRouteTimesPrefix', WHERE WHAT IT READS IS OF BULK AT MOST 1048576: true; the input reads as it did. -/
def fnRouteTimesPrefixUptoRow : OpenClaim := { program := "ytppdomoifnokpab", sum := "ce96f2e16837f98ddebfff5d6ddbcb8ed585f659e6b0cfa1046656aa47da585e", func := "loop.example/integerplanner/laws.FnRouteTimesPrefix", spec := "fnRouteTimesPrefix", unfollowed := true, recurses := true, apart := false, narrowed := true }
def FnRouteTimesPrefixUptoSaid : Prop := fnRouteTimesPrefixUptoRow.holds Try.pinned (OpenSpec.upto fnRouteTimesPrefixSpec)

/-- 'laws.FnRouteCost', WHERE WHAT IT READS IS OF BULK AT MOST 1048576: true; the input reads as it did. -/
def fnRouteCostUptoRow : OpenClaim := { program := "ytppdomoifnokpab", sum := "ce96f2e16837f98ddebfff5d6ddbcb8ed585f659e6b0cfa1046656aa47da585e", func := "loop.example/integerplanner/laws.FnRouteCost", spec := "fnRouteCost", unfollowed := true, recurses := true, apart := false, narrowed := true }
def FnRouteCostUptoSaid : Prop := fnRouteCostUptoRow.holds Try.pinned (OpenSpec.upto fnRouteCostSpec)

/-- 'laws.FnParetoLabels', WHERE WHAT IT READS IS OF BULK AT MOST 1048576: true; the input reads as it did. -/
def fnParetoLabelsUptoRow : OpenClaim := { program := "ytppdomoifnokpab", sum := "ce96f2e16837f98ddebfff5d6ddbcb8ed585f659e6b0cfa1046656aa47da585e", func := "loop.example/integerplanner/laws.FnParetoLabels", spec := "fnParetoLabels", unfollowed := true, recurses := true, apart := false, narrowed := true }
def FnParetoLabelsUptoSaid : Prop := fnParetoLabelsUptoRow.holds Try.pinned (OpenSpec.upto fnParetoLabelsSpec)

/-- 'laws.FnExtendLabel', WHERE WHAT IT READS IS OF BULK AT MOST 1048576: true; the input reads as it did. -/
def fnExtendLabelUptoRow : OpenClaim := { program := "ytppdomoifnokpab", sum := "ce96f2e16837f98ddebfff5d6ddbcb8ed585f659e6b0cfa1046656aa47da585e", func := "loop.example/integerplanner/laws.FnExtendLabel", spec := "fnExtendLabel", unfollowed := true, recurses := true, apart := false, narrowed := true }
def FnExtendLabelUptoSaid : Prop := fnExtendLabelUptoRow.holds Try.pinned (OpenSpec.upto fnExtendLabelSpec)

/-- 'laws.FnValidBox', WHERE WHAT IT READS IS OF BULK AT MOST 1048576: true; the input reads as it did. -/
def fnValidBoxUptoRow : OpenClaim := { program := "ytppdomoifnokpab", sum := "ce96f2e16837f98ddebfff5d6ddbcb8ed585f659e6b0cfa1046656aa47da585e", func := "loop.example/integerplanner/laws.FnValidBox", spec := "fnValidBox", apart := false, narrowed := true }
def FnValidBoxUptoSaid : Prop := fnValidBoxUptoRow.holds Try.pinned (OpenSpec.upto fnValidBoxSpec)

/-- 'laws.FnRowRange', WHERE WHAT IT READS IS OF BULK AT MOST 1048576: true; the input reads as it did. -/
def fnRowRangeUptoRow : OpenClaim := { program := "ytppdomoifnokpab", sum := "ce96f2e16837f98ddebfff5d6ddbcb8ed585f659e6b0cfa1046656aa47da585e", func := "loop.example/integerplanner/laws.FnRowRange", spec := "fnRowRange", apart := false, narrowed := true }
def FnRowRangeUptoSaid : Prop := fnRowRangeUptoRow.holds Try.pinned (OpenSpec.upto fnRowRangeSpec)

end Rows
end Go.Proofs.Ytppdomoifnokpab
