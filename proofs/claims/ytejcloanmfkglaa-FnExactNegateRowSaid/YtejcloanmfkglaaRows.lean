/-
  No cell of these rows narrows 'for every input' (looked for: loops, veiled, ifaces, maps, wideKeys, modest, calm, conditions, laid).
  DERIVED. THE GIVEN ROWS OF THIS SEAT. 12 by the template 'for every input the law returns true; each argument reads behind the call as it read before'; 0 by the template 'total and deterministic' (their statements: YtejcloanmfkglaaTotals.lean).
  GIVEN WITH THE SEED: the statements are not yours to turn. If you find one false, say at which input.
  Laid BY PROGRAM, IN A SANDBOX (cutbox-rows.mjs): the forced cells as the released guide's own fill.sh prints them over the translation 8757b3fb7258edec… (all of the seat's roots in one cut). By AI agents, Wed Nov 11 2026. No macro, syntax, notation, axiom, sorry.
-/
import Derived.Test.YtejcloanmfkglaaChecked
import GoSem.Claim
import GoSem.ClaimJoined
import GoSem.ClaimMapViews
import Derived.JoinedTies
import Derived.KernelRfl
namespace Go.Proofs.Ytejcloanmfkglaa
/- THE CELL 'sum', in the pinned program and in every row, IS THE sha256 OF THE DUMP (.gsa) THAT YtejcloanmfkglaaProg.lean LOADS. Nothing in Lean hashes anything: it is a label: what it is worth is what the hold of that sum in a sandbox is worth. -/
noncomputable def Try.pinned : Pinned := { name := "ytejcloanmfkglaa", sum := "8757b3fb7258edec7d04b253b337ba1298a122568409b6999f6b17b762b16273", checked := Try.checked }
namespace Rows
def none {H : Type} : Left H := { results := [], args := [] }

/-- 'laws.FnExactMulUnit': WHATEVER THE INPUT: true; the input reads as it did. -/
def fnExactMulUnitSpec : ChangeSpec := { name := "fnExactMulUnit", fn := fun _ => fun
  | [d1, d2] => { results := [.lit (.bool true)], args := [d1, d2] }
  | _ => none }
def fnExactMulUnitRow : OpenClaim := { program := "ytejcloanmfkglaa", sum := "8757b3fb7258edec7d04b253b337ba1298a122568409b6999f6b17b762b16273", func := "loop.example/integerplanner/laws.FnExactMulUnit", spec := "fnExactMulUnit", apart := false }
def FnExactMulUnitSaid : Prop := fnExactMulUnitRow.holds Try.pinned (OpenSpec.ofChange fnExactMulUnitSpec)

/-- ITS FALSE NEIGHBOUR: 'it returns false'. Refute it at one input. -/
def fnExactMulUnitWrong : ChangeSpec := { name := "fnExactMulUnit", fn := fun _ => fun
  | [d1, d2] => { results := [.lit (.bool false)], args := [d1, d2] }
  | _ => none }
def FnExactMulUnitWrongFalsely : Prop := fnExactMulUnitRow.holds Try.pinned (OpenSpec.ofChange fnExactMulUnitWrong)

/-- 'laws.FnExactDivUnit': WHATEVER THE INPUT: true; the input reads as it did. -/
def fnExactDivUnitSpec : ChangeSpec := { name := "fnExactDivUnit", fn := fun _ => fun
  | [d1, d2] => { results := [.lit (.bool true)], args := [d1, d2] }
  | _ => none }
def fnExactDivUnitRow : OpenClaim := { program := "ytejcloanmfkglaa", sum := "8757b3fb7258edec7d04b253b337ba1298a122568409b6999f6b17b762b16273", func := "loop.example/integerplanner/laws.FnExactDivUnit", spec := "fnExactDivUnit", apart := false }
def FnExactDivUnitSaid : Prop := fnExactDivUnitRow.holds Try.pinned (OpenSpec.ofChange fnExactDivUnitSpec)

/-- ITS FALSE NEIGHBOUR: 'it returns false'. Refute it at one input. -/
def fnExactDivUnitWrong : ChangeSpec := { name := "fnExactDivUnit", fn := fun _ => fun
  | [d1, d2] => { results := [.lit (.bool false)], args := [d1, d2] }
  | _ => none }
def FnExactDivUnitWrongFalsely : Prop := fnExactDivUnitRow.holds Try.pinned (OpenSpec.ofChange fnExactDivUnitWrong)

/-- 'laws.FnExactCheckUnits': WHATEVER THE INPUT: true; the input reads as it did. -/
def fnExactCheckUnitsSpec : ChangeSpec := { name := "fnExactCheckUnits", fn := fun _ => fun
  | [d1, d2, d3] => { results := [.lit (.bool true)], args := [d1, d2, d3] }
  | _ => none }
def fnExactCheckUnitsRow : OpenClaim := { program := "ytejcloanmfkglaa", sum := "8757b3fb7258edec7d04b253b337ba1298a122568409b6999f6b17b762b16273", func := "loop.example/integerplanner/laws.FnExactCheckUnits", spec := "fnExactCheckUnits", apart := false }
def FnExactCheckUnitsSaid : Prop := fnExactCheckUnitsRow.holds Try.pinned (OpenSpec.ofChange fnExactCheckUnitsSpec)

/-- ITS FALSE NEIGHBOUR: 'it returns false'. Refute it at one input. -/
def fnExactCheckUnitsWrong : ChangeSpec := { name := "fnExactCheckUnits", fn := fun _ => fun
  | [d1, d2, d3] => { results := [.lit (.bool false)], args := [d1, d2, d3] }
  | _ => none }
def FnExactCheckUnitsWrongFalsely : Prop := fnExactCheckUnitsRow.holds Try.pinned (OpenSpec.ofChange fnExactCheckUnitsWrong)

/-- 'laws.FnExactValidRow': WHATEVER THE INPUT: true; the input reads as it did. -/
def fnExactValidRowSpec : ChangeSpec := { name := "fnExactValidRow", fn := fun _ => fun
  | [d1, d2] => { results := [.lit (.bool true)], args := [d1, d2] }
  | _ => none }
def fnExactValidRowRow : OpenClaim := { program := "ytejcloanmfkglaa", sum := "8757b3fb7258edec7d04b253b337ba1298a122568409b6999f6b17b762b16273", func := "loop.example/integerplanner/laws.FnExactValidRow", spec := "fnExactValidRow", apart := false }
def FnExactValidRowSaid : Prop := fnExactValidRowRow.holds Try.pinned (OpenSpec.ofChange fnExactValidRowSpec)

/-- ITS FALSE NEIGHBOUR: 'it returns false'. Refute it at one input. -/
def fnExactValidRowWrong : ChangeSpec := { name := "fnExactValidRow", fn := fun _ => fun
  | [d1, d2] => { results := [.lit (.bool false)], args := [d1, d2] }
  | _ => none }
def FnExactValidRowWrongFalsely : Prop := fnExactValidRowRow.holds Try.pinned (OpenSpec.ofChange fnExactValidRowWrong)

/-- 'laws.FnExactRowHolds': WHATEVER THE INPUT: true; the input reads as it did. -/
def fnExactRowHoldsSpec : ChangeSpec := { name := "fnExactRowHolds", fn := fun _ => fun
  | [d1, d2] => { results := [.lit (.bool true)], args := [d1, d2] }
  | _ => none }
def fnExactRowHoldsRow : OpenClaim := { program := "ytejcloanmfkglaa", sum := "8757b3fb7258edec7d04b253b337ba1298a122568409b6999f6b17b762b16273", func := "loop.example/integerplanner/laws.FnExactRowHolds", spec := "fnExactRowHolds", apart := false }
def FnExactRowHoldsSaid : Prop := fnExactRowHoldsRow.holds Try.pinned (OpenSpec.ofChange fnExactRowHoldsSpec)

/-- ITS FALSE NEIGHBOUR: 'it returns false'. Refute it at one input. -/
def fnExactRowHoldsWrong : ChangeSpec := { name := "fnExactRowHolds", fn := fun _ => fun
  | [d1, d2] => { results := [.lit (.bool false)], args := [d1, d2] }
  | _ => none }
def FnExactRowHoldsWrongFalsely : Prop := fnExactRowHoldsRow.holds Try.pinned (OpenSpec.ofChange fnExactRowHoldsWrong)

/-- 'laws.FnExactNegateRow': WHATEVER THE INPUT: true; the input reads as it did. -/
def fnExactNegateRowSpec : ChangeSpec := { name := "fnExactNegateRow", fn := fun _ => fun
  | [d] => { results := [.lit (.bool true)], args := [d] }
  | _ => none }
def fnExactNegateRowRow : OpenClaim := { program := "ytejcloanmfkglaa", sum := "8757b3fb7258edec7d04b253b337ba1298a122568409b6999f6b17b762b16273", func := "loop.example/integerplanner/laws.FnExactNegateRow", spec := "fnExactNegateRow", apart := false }
def FnExactNegateRowSaid : Prop := fnExactNegateRowRow.holds Try.pinned (OpenSpec.ofChange fnExactNegateRowSpec)

/-- ITS FALSE NEIGHBOUR: 'it returns false'. Refute it at one input. -/
def fnExactNegateRowWrong : ChangeSpec := { name := "fnExactNegateRow", fn := fun _ => fun
  | [d] => { results := [.lit (.bool false)], args := [d] }
  | _ => none }
def FnExactNegateRowWrongFalsely : Prop := fnExactNegateRowRow.holds Try.pinned (OpenSpec.ofChange fnExactNegateRowWrong)

/-- 'laws.FnExactValidProblem': WHATEVER THE INPUT: true; the input reads as it did. -/
def fnExactValidProblemSpec : ChangeSpec := { name := "fnExactValidProblem", fn := fun _ => fun
  | [d] => { results := [.lit (.bool true)], args := [d] }
  | _ => none }
def fnExactValidProblemRow : OpenClaim := { program := "ytejcloanmfkglaa", sum := "8757b3fb7258edec7d04b253b337ba1298a122568409b6999f6b17b762b16273", func := "loop.example/integerplanner/laws.FnExactValidProblem", spec := "fnExactValidProblem", apart := false }
def FnExactValidProblemSaid : Prop := fnExactValidProblemRow.holds Try.pinned (OpenSpec.ofChange fnExactValidProblemSpec)

/-- ITS FALSE NEIGHBOUR: 'it returns false'. Refute it at one input. -/
def fnExactValidProblemWrong : ChangeSpec := { name := "fnExactValidProblem", fn := fun _ => fun
  | [d] => { results := [.lit (.bool false)], args := [d] }
  | _ => none }
def FnExactValidProblemWrongFalsely : Prop := fnExactValidProblemRow.holds Try.pinned (OpenSpec.ofChange fnExactValidProblemWrong)

/-- 'laws.FnExactFeasible': WHATEVER THE INPUT: true; the input reads as it did. -/
def fnExactFeasibleSpec : ChangeSpec := { name := "fnExactFeasible", fn := fun _ => fun
  | [d1, d2] => { results := [.lit (.bool true)], args := [d1, d2] }
  | _ => none }
def fnExactFeasibleRow : OpenClaim := { program := "ytejcloanmfkglaa", sum := "8757b3fb7258edec7d04b253b337ba1298a122568409b6999f6b17b762b16273", func := "loop.example/integerplanner/laws.FnExactFeasible", spec := "fnExactFeasible", apart := false }
def FnExactFeasibleSaid : Prop := fnExactFeasibleRow.holds Try.pinned (OpenSpec.ofChange fnExactFeasibleSpec)

/-- ITS FALSE NEIGHBOUR: 'it returns false'. Refute it at one input. -/
def fnExactFeasibleWrong : ChangeSpec := { name := "fnExactFeasible", fn := fun _ => fun
  | [d1, d2] => { results := [.lit (.bool false)], args := [d1, d2] }
  | _ => none }
def FnExactFeasibleWrongFalsely : Prop := fnExactFeasibleRow.holds Try.pinned (OpenSpec.ofChange fnExactFeasibleWrong)

/-- 'laws.FnExactCostOf': WHATEVER THE INPUT: true; the input reads as it did. -/
def fnExactCostOfSpec : ChangeSpec := { name := "fnExactCostOf", fn := fun _ => fun
  | [d1, d2] => { results := [.lit (.bool true)], args := [d1, d2] }
  | _ => none }
def fnExactCostOfRow : OpenClaim := { program := "ytejcloanmfkglaa", sum := "8757b3fb7258edec7d04b253b337ba1298a122568409b6999f6b17b762b16273", func := "loop.example/integerplanner/laws.FnExactCostOf", spec := "fnExactCostOf", apart := false }
def FnExactCostOfSaid : Prop := fnExactCostOfRow.holds Try.pinned (OpenSpec.ofChange fnExactCostOfSpec)

/-- ITS FALSE NEIGHBOUR: 'it returns false'. Refute it at one input. -/
def fnExactCostOfWrong : ChangeSpec := { name := "fnExactCostOf", fn := fun _ => fun
  | [d1, d2] => { results := [.lit (.bool false)], args := [d1, d2] }
  | _ => none }
def FnExactCostOfWrongFalsely : Prop := fnExactCostOfRow.holds Try.pinned (OpenSpec.ofChange fnExactCostOfWrong)

/-- 'laws.FnExactValidBox': WHATEVER THE INPUT: true; the input reads as it did. -/
def fnExactValidBoxSpec : ChangeSpec := { name := "fnExactValidBox", fn := fun _ => fun
  | [d1, d2] => { results := [.lit (.bool true)], args := [d1, d2] }
  | _ => none }
def fnExactValidBoxRow : OpenClaim := { program := "ytejcloanmfkglaa", sum := "8757b3fb7258edec7d04b253b337ba1298a122568409b6999f6b17b762b16273", func := "loop.example/integerplanner/laws.FnExactValidBox", spec := "fnExactValidBox", apart := false }
def FnExactValidBoxSaid : Prop := fnExactValidBoxRow.holds Try.pinned (OpenSpec.ofChange fnExactValidBoxSpec)

/-- ITS FALSE NEIGHBOUR: 'it returns false'. Refute it at one input. -/
def fnExactValidBoxWrong : ChangeSpec := { name := "fnExactValidBox", fn := fun _ => fun
  | [d1, d2] => { results := [.lit (.bool false)], args := [d1, d2] }
  | _ => none }
def FnExactValidBoxWrongFalsely : Prop := fnExactValidBoxRow.holds Try.pinned (OpenSpec.ofChange fnExactValidBoxWrong)

/-- 'laws.FnExactRowRange': WHATEVER THE INPUT: true; the input reads as it did. -/
def fnExactRowRangeSpec : ChangeSpec := { name := "fnExactRowRange", fn := fun _ => fun
  | [d1, d2, d3] => { results := [.lit (.bool true)], args := [d1, d2, d3] }
  | _ => none }
def fnExactRowRangeRow : OpenClaim := { program := "ytejcloanmfkglaa", sum := "8757b3fb7258edec7d04b253b337ba1298a122568409b6999f6b17b762b16273", func := "loop.example/integerplanner/laws.FnExactRowRange", spec := "fnExactRowRange", apart := false }
def FnExactRowRangeSaid : Prop := fnExactRowRangeRow.holds Try.pinned (OpenSpec.ofChange fnExactRowRangeSpec)

/-- ITS FALSE NEIGHBOUR: 'it returns false'. Refute it at one input. -/
def fnExactRowRangeWrong : ChangeSpec := { name := "fnExactRowRange", fn := fun _ => fun
  | [d1, d2, d3] => { results := [.lit (.bool false)], args := [d1, d2, d3] }
  | _ => none }
def FnExactRowRangeWrongFalsely : Prop := fnExactRowRangeRow.holds Try.pinned (OpenSpec.ofChange fnExactRowRangeWrong)

/-- 'laws.FnExactBaseCost': WHATEVER THE INPUT: true; the input reads as it did. -/
def fnExactBaseCostSpec : ChangeSpec := { name := "fnExactBaseCost", fn := fun _ => fun
  | [d1, d2] => { results := [.lit (.bool true)], args := [d1, d2] }
  | _ => none }
def fnExactBaseCostRow : OpenClaim := { program := "ytejcloanmfkglaa", sum := "8757b3fb7258edec7d04b253b337ba1298a122568409b6999f6b17b762b16273", func := "loop.example/integerplanner/laws.FnExactBaseCost", spec := "fnExactBaseCost", apart := false }
def FnExactBaseCostSaid : Prop := fnExactBaseCostRow.holds Try.pinned (OpenSpec.ofChange fnExactBaseCostSpec)

/-- ITS FALSE NEIGHBOUR: 'it returns false'. Refute it at one input. -/
def fnExactBaseCostWrong : ChangeSpec := { name := "fnExactBaseCost", fn := fun _ => fun
  | [d1, d2] => { results := [.lit (.bool false)], args := [d1, d2] }
  | _ => none }
def FnExactBaseCostWrongFalsely : Prop := fnExactBaseCostRow.holds Try.pinned (OpenSpec.ofChange fnExactBaseCostWrong)

/- THE SECOND FORM. 'bulk': how many values and letters a reading holds, each counted each time it is reached (what is shared counts as often as it is met; a slice's spare places count too). A statement '..UptoSaid' is the law's where the arguments, and the package variables that the reading takes, are together of bulk at most 1048576: NARROWER than '..Said'. Prove '..Said' where nothing that the law and all that it calls make is longer than what came in: it says more and counts as full. Else prove '..UptoSaid'. A law counts once. -/
mutual
def uptoBulk {H : Type} : DataW H → Nat
  | .lit (.string bytes) => bytes.length + 1
  | .lit _ => 1
  | .nil => 1
  | .ptr d => uptoBulk d + 1
  | .slice elems spare => uptoBulkAll elems + uptoBulkAll spare + 1
  | .agg parts => uptoBulkAll parts + 1
  | .iface _ d => uptoBulk d + 1
  | .map entries => uptoBulkEntries entries + 1
  | .held _ => 1
def uptoBulkAll {H : Type} : List (DataW H) → Nat
  | [] => 0
  | d :: r => uptoBulk d + uptoBulkAll r
def uptoBulkEntries {H : Type} : List (Lit × DataW H) → Nat
  | [] => 0
  | x :: r => uptoBulkEntry x + uptoBulkEntries r
def uptoBulkEntry {H : Type} : Lit × DataW H → Nat
  | (.string bytes, d) => bytes.length + uptoBulk d + 1
  | (_, d) => uptoBulk d + 1
 end
def uptoSmall : (H : Type) → List (DataW H) → Bool := fun _ ds => decide (uptoBulkAll ds ≤ 1048576)
def OpenSpec.upto (s : _root_.Go.ChangeSpec) : _root_.Go.OpenSpec := { _root_.Go.OpenSpec.ofChange s with cond := some uptoSmall }

/-- 'laws.FnExactMulUnit', WHERE WHAT IT READS IS OF BULK AT MOST 1048576: true; the input reads as it did. -/
def fnExactMulUnitUptoRow : OpenClaim := { program := "ytejcloanmfkglaa", sum := "8757b3fb7258edec7d04b253b337ba1298a122568409b6999f6b17b762b16273", func := "loop.example/integerplanner/laws.FnExactMulUnit", spec := "fnExactMulUnit", apart := false, narrowed := true }
def FnExactMulUnitUptoSaid : Prop := fnExactMulUnitUptoRow.holds Try.pinned (OpenSpec.upto fnExactMulUnitSpec)

/-- 'laws.FnExactDivUnit', WHERE WHAT IT READS IS OF BULK AT MOST 1048576: true; the input reads as it did. -/
def fnExactDivUnitUptoRow : OpenClaim := { program := "ytejcloanmfkglaa", sum := "8757b3fb7258edec7d04b253b337ba1298a122568409b6999f6b17b762b16273", func := "loop.example/integerplanner/laws.FnExactDivUnit", spec := "fnExactDivUnit", apart := false, narrowed := true }
def FnExactDivUnitUptoSaid : Prop := fnExactDivUnitUptoRow.holds Try.pinned (OpenSpec.upto fnExactDivUnitSpec)

/-- 'laws.FnExactCheckUnits', WHERE WHAT IT READS IS OF BULK AT MOST 1048576: true; the input reads as it did. -/
def fnExactCheckUnitsUptoRow : OpenClaim := { program := "ytejcloanmfkglaa", sum := "8757b3fb7258edec7d04b253b337ba1298a122568409b6999f6b17b762b16273", func := "loop.example/integerplanner/laws.FnExactCheckUnits", spec := "fnExactCheckUnits", apart := false, narrowed := true }
def FnExactCheckUnitsUptoSaid : Prop := fnExactCheckUnitsUptoRow.holds Try.pinned (OpenSpec.upto fnExactCheckUnitsSpec)

/-- 'laws.FnExactValidRow', WHERE WHAT IT READS IS OF BULK AT MOST 1048576: true; the input reads as it did. -/
def fnExactValidRowUptoRow : OpenClaim := { program := "ytejcloanmfkglaa", sum := "8757b3fb7258edec7d04b253b337ba1298a122568409b6999f6b17b762b16273", func := "loop.example/integerplanner/laws.FnExactValidRow", spec := "fnExactValidRow", apart := false, narrowed := true }
def FnExactValidRowUptoSaid : Prop := fnExactValidRowUptoRow.holds Try.pinned (OpenSpec.upto fnExactValidRowSpec)

/-- 'laws.FnExactRowHolds', WHERE WHAT IT READS IS OF BULK AT MOST 1048576: true; the input reads as it did. -/
def fnExactRowHoldsUptoRow : OpenClaim := { program := "ytejcloanmfkglaa", sum := "8757b3fb7258edec7d04b253b337ba1298a122568409b6999f6b17b762b16273", func := "loop.example/integerplanner/laws.FnExactRowHolds", spec := "fnExactRowHolds", apart := false, narrowed := true }
def FnExactRowHoldsUptoSaid : Prop := fnExactRowHoldsUptoRow.holds Try.pinned (OpenSpec.upto fnExactRowHoldsSpec)

/-- 'laws.FnExactNegateRow', WHERE WHAT IT READS IS OF BULK AT MOST 1048576: true; the input reads as it did. -/
def fnExactNegateRowUptoRow : OpenClaim := { program := "ytejcloanmfkglaa", sum := "8757b3fb7258edec7d04b253b337ba1298a122568409b6999f6b17b762b16273", func := "loop.example/integerplanner/laws.FnExactNegateRow", spec := "fnExactNegateRow", apart := false, narrowed := true }
def FnExactNegateRowUptoSaid : Prop := fnExactNegateRowUptoRow.holds Try.pinned (OpenSpec.upto fnExactNegateRowSpec)

/-- 'laws.FnExactValidProblem', WHERE WHAT IT READS IS OF BULK AT MOST 1048576: true; the input reads as it did. -/
def fnExactValidProblemUptoRow : OpenClaim := { program := "ytejcloanmfkglaa", sum := "8757b3fb7258edec7d04b253b337ba1298a122568409b6999f6b17b762b16273", func := "loop.example/integerplanner/laws.FnExactValidProblem", spec := "fnExactValidProblem", apart := false, narrowed := true }
def FnExactValidProblemUptoSaid : Prop := fnExactValidProblemUptoRow.holds Try.pinned (OpenSpec.upto fnExactValidProblemSpec)

/-- 'laws.FnExactFeasible', WHERE WHAT IT READS IS OF BULK AT MOST 1048576: true; the input reads as it did. -/
def fnExactFeasibleUptoRow : OpenClaim := { program := "ytejcloanmfkglaa", sum := "8757b3fb7258edec7d04b253b337ba1298a122568409b6999f6b17b762b16273", func := "loop.example/integerplanner/laws.FnExactFeasible", spec := "fnExactFeasible", apart := false, narrowed := true }
def FnExactFeasibleUptoSaid : Prop := fnExactFeasibleUptoRow.holds Try.pinned (OpenSpec.upto fnExactFeasibleSpec)

/-- 'laws.FnExactCostOf', WHERE WHAT IT READS IS OF BULK AT MOST 1048576: true; the input reads as it did. -/
def fnExactCostOfUptoRow : OpenClaim := { program := "ytejcloanmfkglaa", sum := "8757b3fb7258edec7d04b253b337ba1298a122568409b6999f6b17b762b16273", func := "loop.example/integerplanner/laws.FnExactCostOf", spec := "fnExactCostOf", apart := false, narrowed := true }
def FnExactCostOfUptoSaid : Prop := fnExactCostOfUptoRow.holds Try.pinned (OpenSpec.upto fnExactCostOfSpec)

/-- 'laws.FnExactValidBox', WHERE WHAT IT READS IS OF BULK AT MOST 1048576: true; the input reads as it did. -/
def fnExactValidBoxUptoRow : OpenClaim := { program := "ytejcloanmfkglaa", sum := "8757b3fb7258edec7d04b253b337ba1298a122568409b6999f6b17b762b16273", func := "loop.example/integerplanner/laws.FnExactValidBox", spec := "fnExactValidBox", apart := false, narrowed := true }
def FnExactValidBoxUptoSaid : Prop := fnExactValidBoxUptoRow.holds Try.pinned (OpenSpec.upto fnExactValidBoxSpec)

/-- 'laws.FnExactRowRange', WHERE WHAT IT READS IS OF BULK AT MOST 1048576: true; the input reads as it did. -/
def fnExactRowRangeUptoRow : OpenClaim := { program := "ytejcloanmfkglaa", sum := "8757b3fb7258edec7d04b253b337ba1298a122568409b6999f6b17b762b16273", func := "loop.example/integerplanner/laws.FnExactRowRange", spec := "fnExactRowRange", apart := false, narrowed := true }
def FnExactRowRangeUptoSaid : Prop := fnExactRowRangeUptoRow.holds Try.pinned (OpenSpec.upto fnExactRowRangeSpec)

/-- 'laws.FnExactBaseCost', WHERE WHAT IT READS IS OF BULK AT MOST 1048576: true; the input reads as it did. -/
def fnExactBaseCostUptoRow : OpenClaim := { program := "ytejcloanmfkglaa", sum := "8757b3fb7258edec7d04b253b337ba1298a122568409b6999f6b17b762b16273", func := "loop.example/integerplanner/laws.FnExactBaseCost", spec := "fnExactBaseCost", apart := false, narrowed := true }
def FnExactBaseCostUptoSaid : Prop := fnExactBaseCostUptoRow.holds Try.pinned (OpenSpec.upto fnExactBaseCostSpec)

end Rows
end Go.Proofs.Ytejcloanmfkglaa
