/-
  No cell of these rows narrows 'for every input' (looked for: loops, veiled, ifaces, maps, wideKeys, modest, calm, conditions, laid).
  DERIVED. THE GIVEN ROWS OF THIS SEAT. 9 by the template 'for every input the law returns true; each argument reads behind the call as it read before'; 0 by the template 'total and deterministic' (their statements: YtppdomoifnokpaaTotals.lean).
  GIVEN WITH THE SEED: the statements are not yours to turn. If you find one false, say at which input.
  Laid BY PROGRAM, IN A SANDBOX (cutbox-rows.mjs): the forced cells as the released guide's own fill.sh prints them over the translation fa2f39b372d5abe5… (all of the seat's roots in one cut). By AI agents, Wed Nov 11 2026. No macro, syntax, notation, axiom, sorry.
-/
import Derived.Test.YtppdomoifnokpaaChecked
import GoSem.Claim
import GoSem.ClaimJoined
import GoSem.ClaimMapViews
import Derived.JoinedTies
import Derived.KernelRfl
namespace Go.Proofs.Ytppdomoifnokpaa
/- THE CELL 'sum', in the pinned program and in every row, IS THE sha256 OF THE DUMP (.gsa) THAT YtppdomoifnokpaaProg.lean LOADS. Nothing in Lean hashes anything: it is a label: what it is worth is what the hold of that sum in a sandbox is worth. -/
noncomputable def Try.pinned : Pinned := { name := "ytppdomoifnokpaa", sum := "fa2f39b372d5abe57a22021461d76e4e9b54071b71ed08eb1ce740da95e2f257", checked := Try.checked }
namespace Rows
def none {H : Type} : Left H := { results := [], args := [] }

/-- 'laws.FnExactConflictEdges': WHATEVER THE INPUT: true; the input reads as it did. -/
def fnExactConflictEdgesSpec : ChangeSpec := { name := "fnExactConflictEdges", fn := fun _ => fun
  | [d1, d2] => { results := [.lit (.bool true)], args := [d1, d2] }
  | _ => none }
def fnExactConflictEdgesRow : OpenClaim := { program := "ytppdomoifnokpaa", sum := "fa2f39b372d5abe57a22021461d76e4e9b54071b71ed08eb1ce740da95e2f257", func := "loop.example/integerplanner/laws.FnExactConflictEdges", spec := "fnExactConflictEdges", apart := false }
def FnExactConflictEdgesSaid : Prop := fnExactConflictEdgesRow.holds Try.pinned (OpenSpec.ofChange fnExactConflictEdgesSpec)

/-- ITS FALSE NEIGHBOUR: 'it returns false'. Refute it at one input. -/
def fnExactConflictEdgesWrong : ChangeSpec := { name := "fnExactConflictEdges", fn := fun _ => fun
  | [d1, d2] => { results := [.lit (.bool false)], args := [d1, d2] }
  | _ => none }
def FnExactConflictEdgesWrongFalsely : Prop := fnExactConflictEdgesRow.holds Try.pinned (OpenSpec.ofChange fnExactConflictEdgesWrong)

/-- 'laws.FnExactDominates': WHATEVER THE INPUT: true; the input reads as it did. -/
def fnExactDominatesSpec : ChangeSpec := { name := "fnExactDominates", fn := fun _ => fun
  | [d1, d2] => { results := [.lit (.bool true)], args := [d1, d2] }
  | _ => none }
def fnExactDominatesRow : OpenClaim := { program := "ytppdomoifnokpaa", sum := "fa2f39b372d5abe57a22021461d76e4e9b54071b71ed08eb1ce740da95e2f257", func := "loop.example/integerplanner/laws.FnExactDominates", spec := "fnExactDominates", apart := false }
def FnExactDominatesSaid : Prop := fnExactDominatesRow.holds Try.pinned (OpenSpec.ofChange fnExactDominatesSpec)

/-- ITS FALSE NEIGHBOUR: 'it returns false'. Refute it at one input. -/
def fnExactDominatesWrong : ChangeSpec := { name := "fnExactDominates", fn := fun _ => fun
  | [d1, d2] => { results := [.lit (.bool false)], args := [d1, d2] }
  | _ => none }
def FnExactDominatesWrongFalsely : Prop := fnExactDominatesRow.holds Try.pinned (OpenSpec.ofChange fnExactDominatesWrong)

/-- 'laws.FnExactValidFleet': WHATEVER THE INPUT: true; the input reads as it did. -/
def fnExactValidFleetSpec : ChangeSpec := { name := "fnExactValidFleet", fn := fun _ => fun
  | [d] => { results := [.lit (.bool true)], args := [d] }
  | _ => none }
def fnExactValidFleetRow : OpenClaim := { program := "ytppdomoifnokpaa", sum := "fa2f39b372d5abe57a22021461d76e4e9b54071b71ed08eb1ce740da95e2f257", func := "loop.example/integerplanner/laws.FnExactValidFleet", spec := "fnExactValidFleet", apart := false }
def FnExactValidFleetSaid : Prop := fnExactValidFleetRow.holds Try.pinned (OpenSpec.ofChange fnExactValidFleetSpec)

/-- ITS FALSE NEIGHBOUR: 'it returns false'. Refute it at one input. -/
def fnExactValidFleetWrong : ChangeSpec := { name := "fnExactValidFleet", fn := fun _ => fun
  | [d] => { results := [.lit (.bool false)], args := [d] }
  | _ => none }
def FnExactValidFleetWrongFalsely : Prop := fnExactValidFleetRow.holds Try.pinned (OpenSpec.ofChange fnExactValidFleetWrong)

/-- 'laws.FnExactRouteTimes': WHATEVER THE INPUT: true; the input reads as it did. -/
def fnExactRouteTimesSpec : ChangeSpec := { name := "fnExactRouteTimes", fn := fun _ => fun
  | [d1, d2] => { results := [.lit (.bool true)], args := [d1, d2] }
  | _ => none }
def fnExactRouteTimesRow : OpenClaim := { program := "ytppdomoifnokpaa", sum := "fa2f39b372d5abe57a22021461d76e4e9b54071b71ed08eb1ce740da95e2f257", func := "loop.example/integerplanner/laws.FnExactRouteTimes", spec := "fnExactRouteTimes", unfollowed := true, recurses := true, apart := false }
def FnExactRouteTimesSaid : Prop := fnExactRouteTimesRow.holds Try.pinned (OpenSpec.ofChange fnExactRouteTimesSpec)

/-- ITS FALSE NEIGHBOUR: 'it returns false'. Refute it at one input. -/
def fnExactRouteTimesWrong : ChangeSpec := { name := "fnExactRouteTimes", fn := fun _ => fun
  | [d1, d2] => { results := [.lit (.bool false)], args := [d1, d2] }
  | _ => none }
def FnExactRouteTimesWrongFalsely : Prop := fnExactRouteTimesRow.holds Try.pinned (OpenSpec.ofChange fnExactRouteTimesWrong)

/-- 'laws.FnExactRouteCost': WHATEVER THE INPUT: true; the input reads as it did. -/
def fnExactRouteCostSpec : ChangeSpec := { name := "fnExactRouteCost", fn := fun _ => fun
  | [d1, d2] => { results := [.lit (.bool true)], args := [d1, d2] }
  | _ => none }
def fnExactRouteCostRow : OpenClaim := { program := "ytppdomoifnokpaa", sum := "fa2f39b372d5abe57a22021461d76e4e9b54071b71ed08eb1ce740da95e2f257", func := "loop.example/integerplanner/laws.FnExactRouteCost", spec := "fnExactRouteCost", unfollowed := true, recurses := true, apart := false }
def FnExactRouteCostSaid : Prop := fnExactRouteCostRow.holds Try.pinned (OpenSpec.ofChange fnExactRouteCostSpec)

/-- ITS FALSE NEIGHBOUR: 'it returns false'. Refute it at one input. -/
def fnExactRouteCostWrong : ChangeSpec := { name := "fnExactRouteCost", fn := fun _ => fun
  | [d1, d2] => { results := [.lit (.bool false)], args := [d1, d2] }
  | _ => none }
def FnExactRouteCostWrongFalsely : Prop := fnExactRouteCostRow.holds Try.pinned (OpenSpec.ofChange fnExactRouteCostWrong)

/-- 'laws.FnExactPartitionCost': WHATEVER THE INPUT: true; the input reads as it did. -/
def fnExactPartitionCostSpec : ChangeSpec := { name := "fnExactPartitionCost", fn := fun _ => fun
  | [d1, d2, d3] => { results := [.lit (.bool true)], args := [d1, d2, d3] }
  | _ => none }
def fnExactPartitionCostRow : OpenClaim := { program := "ytppdomoifnokpaa", sum := "fa2f39b372d5abe57a22021461d76e4e9b54071b71ed08eb1ce740da95e2f257", func := "loop.example/integerplanner/laws.FnExactPartitionCost", spec := "fnExactPartitionCost", apart := false }
def FnExactPartitionCostSaid : Prop := fnExactPartitionCostRow.holds Try.pinned (OpenSpec.ofChange fnExactPartitionCostSpec)

/-- ITS FALSE NEIGHBOUR: 'it returns false'. Refute it at one input. -/
def fnExactPartitionCostWrong : ChangeSpec := { name := "fnExactPartitionCost", fn := fun _ => fun
  | [d1, d2, d3] => { results := [.lit (.bool false)], args := [d1, d2, d3] }
  | _ => none }
def FnExactPartitionCostWrongFalsely : Prop := fnExactPartitionCostRow.holds Try.pinned (OpenSpec.ofChange fnExactPartitionCostWrong)

/-- 'laws.FnExactReducedCosts': WHATEVER THE INPUT: true; the input reads as it did. -/
def fnExactReducedCostsSpec : ChangeSpec := { name := "fnExactReducedCosts", fn := fun _ => fun
  | [d1, d2, d3] => { results := [.lit (.bool true)], args := [d1, d2, d3] }
  | _ => none }
def fnExactReducedCostsRow : OpenClaim := { program := "ytppdomoifnokpaa", sum := "fa2f39b372d5abe57a22021461d76e4e9b54071b71ed08eb1ce740da95e2f257", func := "loop.example/integerplanner/laws.FnExactReducedCosts", spec := "fnExactReducedCosts", apart := false }
def FnExactReducedCostsSaid : Prop := fnExactReducedCostsRow.holds Try.pinned (OpenSpec.ofChange fnExactReducedCostsSpec)

/-- ITS FALSE NEIGHBOUR: 'it returns false'. Refute it at one input. -/
def fnExactReducedCostsWrong : ChangeSpec := { name := "fnExactReducedCosts", fn := fun _ => fun
  | [d1, d2, d3] => { results := [.lit (.bool false)], args := [d1, d2, d3] }
  | _ => none }
def FnExactReducedCostsWrongFalsely : Prop := fnExactReducedCostsRow.holds Try.pinned (OpenSpec.ofChange fnExactReducedCostsWrong)

/-- 'laws.FnExactExtendLabel': WHATEVER THE INPUT: true; the input reads as it did. -/
def fnExactExtendLabelSpec : ChangeSpec := { name := "fnExactExtendLabel", fn := fun _ => fun
  | [d1, d2, d3, d4] => { results := [.lit (.bool true)], args := [d1, d2, d3, d4] }
  | _ => none }
def fnExactExtendLabelRow : OpenClaim := { program := "ytppdomoifnokpaa", sum := "fa2f39b372d5abe57a22021461d76e4e9b54071b71ed08eb1ce740da95e2f257", func := "loop.example/integerplanner/laws.FnExactExtendLabel", spec := "fnExactExtendLabel", apart := false }
def FnExactExtendLabelSaid : Prop := fnExactExtendLabelRow.holds Try.pinned (OpenSpec.ofChange fnExactExtendLabelSpec)

/-- ITS FALSE NEIGHBOUR: 'it returns false'. Refute it at one input. -/
def fnExactExtendLabelWrong : ChangeSpec := { name := "fnExactExtendLabel", fn := fun _ => fun
  | [d1, d2, d3, d4] => { results := [.lit (.bool false)], args := [d1, d2, d3, d4] }
  | _ => none }
def FnExactExtendLabelWrongFalsely : Prop := fnExactExtendLabelRow.holds Try.pinned (OpenSpec.ofChange fnExactExtendLabelWrong)

/-- 'laws.FnExactParetoLabels': WHATEVER THE INPUT: true; the input reads as it did. -/
def fnExactParetoLabelsSpec : ChangeSpec := { name := "fnExactParetoLabels", fn := fun _ => fun
  | [d] => { results := [.lit (.bool true)], args := [d] }
  | _ => none }
def fnExactParetoLabelsRow : OpenClaim := { program := "ytppdomoifnokpaa", sum := "fa2f39b372d5abe57a22021461d76e4e9b54071b71ed08eb1ce740da95e2f257", func := "loop.example/integerplanner/laws.FnExactParetoLabels", spec := "fnExactParetoLabels", unfollowed := true, recurses := true, apart := false }
def FnExactParetoLabelsSaid : Prop := fnExactParetoLabelsRow.holds Try.pinned (OpenSpec.ofChange fnExactParetoLabelsSpec)

/-- ITS FALSE NEIGHBOUR: 'it returns false'. Refute it at one input. -/
def fnExactParetoLabelsWrong : ChangeSpec := { name := "fnExactParetoLabels", fn := fun _ => fun
  | [d] => { results := [.lit (.bool false)], args := [d] }
  | _ => none }
def FnExactParetoLabelsWrongFalsely : Prop := fnExactParetoLabelsRow.holds Try.pinned (OpenSpec.ofChange fnExactParetoLabelsWrong)

/- THE SECOND FORM. 'bulk': how many values and letters a reading holds, each counted each time it is reached (what is shared counts as often as it is met; a slice's spare places count too). A statement '..UptoSaid' is the law's where the arguments, and the package variables that the reading takes, are together of bulk at most 1048576: NARROWER than '..Said'. Prove '..Said' where nothing that the law and all that it calls make is longer than what came in: it says more and counts as full. Else prove '..UptoSaid'. A law counts once. -/
mutual
def uptoBulk {H : Type} : DataW H → Nat
  | .lit (.string bytes) => bytes.length + 1
  | .lit _ => 1
  | .nil => 1
  | .ptr d => uptoBulk d + 1
  | .slice elems spare => uptoBulkAll elems + uptoBulkAll spare + 1
  | .agg parts => uptoBulkAll parts + 1
  | .iface _ d => uptoBulk d + 1
  | .map entries => uptoBulkEntries entries + 1
  | .held _ => 1
def uptoBulkAll {H : Type} : List (DataW H) → Nat
  | [] => 0
  | d :: r => uptoBulk d + uptoBulkAll r
def uptoBulkEntries {H : Type} : List (Lit × DataW H) → Nat
  | [] => 0
  | x :: r => uptoBulkEntry x + uptoBulkEntries r
def uptoBulkEntry {H : Type} : Lit × DataW H → Nat
  | (.string bytes, d) => bytes.length + uptoBulk d + 1
  | (_, d) => uptoBulk d + 1
 end
def uptoSmall : (H : Type) → List (DataW H) → Bool := fun _ ds => decide (uptoBulkAll ds ≤ 1048576)
def OpenSpec.upto (s : _root_.Go.ChangeSpec) : _root_.Go.OpenSpec := { _root_.Go.OpenSpec.ofChange s with cond := some uptoSmall }

/-- 'laws.FnExactConflictEdges', WHERE WHAT IT READS IS OF BULK AT MOST 1048576: true; the input reads as it did. -/
def fnExactConflictEdgesUptoRow : OpenClaim := { program := "ytppdomoifnokpaa", sum := "fa2f39b372d5abe57a22021461d76e4e9b54071b71ed08eb1ce740da95e2f257", func := "loop.example/integerplanner/laws.FnExactConflictEdges", spec := "fnExactConflictEdges", apart := false, narrowed := true }
def FnExactConflictEdgesUptoSaid : Prop := fnExactConflictEdgesUptoRow.holds Try.pinned (OpenSpec.upto fnExactConflictEdgesSpec)

/-- 'laws.FnExactDominates', WHERE WHAT IT READS IS OF BULK AT MOST 1048576: true; the input reads as it did. -/
def fnExactDominatesUptoRow : OpenClaim := { program := "ytppdomoifnokpaa", sum := "fa2f39b372d5abe57a22021461d76e4e9b54071b71ed08eb1ce740da95e2f257", func := "loop.example/integerplanner/laws.FnExactDominates", spec := "fnExactDominates", apart := false, narrowed := true }
def FnExactDominatesUptoSaid : Prop := fnExactDominatesUptoRow.holds Try.pinned (OpenSpec.upto fnExactDominatesSpec)

/-- 'laws.FnExactValidFleet', WHERE WHAT IT READS IS OF BULK AT MOST 1048576: true; the input reads as it did. -/
def fnExactValidFleetUptoRow : OpenClaim := { program := "ytppdomoifnokpaa", sum := "fa2f39b372d5abe57a22021461d76e4e9b54071b71ed08eb1ce740da95e2f257", func := "loop.example/integerplanner/laws.FnExactValidFleet", spec := "fnExactValidFleet", apart := false, narrowed := true }
def FnExactValidFleetUptoSaid : Prop := fnExactValidFleetUptoRow.holds Try.pinned (OpenSpec.upto fnExactValidFleetSpec)

/-- 'laws.FnExactRouteTimes', WHERE WHAT IT READS IS OF BULK AT MOST 1048576: true; the input reads as it did. -/
def fnExactRouteTimesUptoRow : OpenClaim := { program := "ytppdomoifnokpaa", sum := "fa2f39b372d5abe57a22021461d76e4e9b54071b71ed08eb1ce740da95e2f257", func := "loop.example/integerplanner/laws.FnExactRouteTimes", spec := "fnExactRouteTimes", unfollowed := true, recurses := true, apart := false, narrowed := true }
def FnExactRouteTimesUptoSaid : Prop := fnExactRouteTimesUptoRow.holds Try.pinned (OpenSpec.upto fnExactRouteTimesSpec)

/-- 'laws.FnExactRouteCost', WHERE WHAT IT READS IS OF BULK AT MOST 1048576: true; the input reads as it did. -/
def fnExactRouteCostUptoRow : OpenClaim := { program := "ytppdomoifnokpaa", sum := "fa2f39b372d5abe57a22021461d76e4e9b54071b71ed08eb1ce740da95e2f257", func := "loop.example/integerplanner/laws.FnExactRouteCost", spec := "fnExactRouteCost", unfollowed := true, recurses := true, apart := false, narrowed := true }
def FnExactRouteCostUptoSaid : Prop := fnExactRouteCostUptoRow.holds Try.pinned (OpenSpec.upto fnExactRouteCostSpec)

/-- 'laws.FnExactPartitionCost', WHERE WHAT IT READS IS OF BULK AT MOST 1048576: true; the input reads as it did. -/
def fnExactPartitionCostUptoRow : OpenClaim := { program := "ytppdomoifnokpaa", sum := "fa2f39b372d5abe57a22021461d76e4e9b54071b71ed08eb1ce740da95e2f257", func := "loop.example/integerplanner/laws.FnExactPartitionCost", spec := "fnExactPartitionCost", apart := false, narrowed := true }
def FnExactPartitionCostUptoSaid : Prop := fnExactPartitionCostUptoRow.holds Try.pinned (OpenSpec.upto fnExactPartitionCostSpec)

/-- 'laws.FnExactReducedCosts', WHERE WHAT IT READS IS OF BULK AT MOST 1048576: true; the input reads as it did. -/
def fnExactReducedCostsUptoRow : OpenClaim := { program := "ytppdomoifnokpaa", sum := "fa2f39b372d5abe57a22021461d76e4e9b54071b71ed08eb1ce740da95e2f257", func := "loop.example/integerplanner/laws.FnExactReducedCosts", spec := "fnExactReducedCosts", apart := false, narrowed := true }
def FnExactReducedCostsUptoSaid : Prop := fnExactReducedCostsUptoRow.holds Try.pinned (OpenSpec.upto fnExactReducedCostsSpec)

/-- 'laws.FnExactExtendLabel', WHERE WHAT IT READS IS OF BULK AT MOST 1048576: true; the input reads as it did. -/
def fnExactExtendLabelUptoRow : OpenClaim := { program := "ytppdomoifnokpaa", sum := "fa2f39b372d5abe57a22021461d76e4e9b54071b71ed08eb1ce740da95e2f257", func := "loop.example/integerplanner/laws.FnExactExtendLabel", spec := "fnExactExtendLabel", apart := false, narrowed := true }
def FnExactExtendLabelUptoSaid : Prop := fnExactExtendLabelUptoRow.holds Try.pinned (OpenSpec.upto fnExactExtendLabelSpec)

/-- 'laws.FnExactParetoLabels', WHERE WHAT IT READS IS OF BULK AT MOST 1048576: true; the input reads as it did. -/
def fnExactParetoLabelsUptoRow : OpenClaim := { program := "ytppdomoifnokpaa", sum := "fa2f39b372d5abe57a22021461d76e4e9b54071b71ed08eb1ce740da95e2f257", func := "loop.example/integerplanner/laws.FnExactParetoLabels", spec := "fnExactParetoLabels", unfollowed := true, recurses := true, apart := false, narrowed := true }
def FnExactParetoLabelsUptoSaid : Prop := fnExactParetoLabelsUptoRow.holds Try.pinned (OpenSpec.upto fnExactParetoLabelsSpec)

end Rows
end Go.Proofs.Ytppdomoifnokpaa
