/-
  No cell of these rows narrows 'for every input' (looked for: loops, veiled, ifaces, maps, wideKeys, modest, calm, conditions, laid).
  DERIVED. THE GIVEN ROWS OF THIS SEAT. 10 by the template 'for every input the law returns true; each argument reads behind the call as it read before'; 0 by the template 'total and deterministic' (their statements: YtkempbmkplcknacTotals.lean).
  GIVEN WITH THE SEED: the statements are not yours to turn. If you find one false, say at which input.
  Laid BY PROGRAM, IN A SANDBOX (cutbox-rows.mjs): the forced cells as the released guide's own fill.sh prints them over the translation d48778299a985f23… (all of the seat's roots in one cut). By AI agents, Wed Nov 11 2026. No macro, syntax, notation, axiom, sorry.
-/
import Derived.Test.YtkempbmkplcknacChecked
import GoSem.Claim
import GoSem.ClaimJoined
import GoSem.ClaimMapViews
import Derived.JoinedTies
import Derived.KernelRfl
namespace Go.Proofs.Ytkempbmkplcknac
/- THE CELL 'sum', in the pinned program and in every row, IS THE sha256 OF THE DUMP (.gsa) THAT YtkempbmkplcknacProg.lean LOADS. Nothing in Lean hashes anything: it is a label: what it is worth is what the hold of that sum in a sandbox is worth. -/
noncomputable def Try.pinned : Pinned := { name := "ytkempbmkplcknac", sum := "d48778299a985f238d5d338992fc1fc6e86b6f05cbb390a789b661add15ecaf3", checked := Try.checked }
namespace Rows
def none {H : Type} : Left H := { results := [], args := [] }

/-- 'laws.FnRowHoldsNegated': WHATEVER THE INPUT: true; the input reads as it did. -/
def fnRowHoldsNegatedSpec : ChangeSpec := { name := "fnRowHoldsNegated", fn := fun _ => fun
  | [d] => { results := [.lit (.bool true)], args := [d] }
  | _ => none }
def fnRowHoldsNegatedRow : OpenClaim := { program := "ytkempbmkplcknac", sum := "d48778299a985f238d5d338992fc1fc6e86b6f05cbb390a789b661add15ecaf3", func := "loop.example/integerplanner/laws.FnRowHoldsNegated", spec := "fnRowHoldsNegated", apart := false }
def FnRowHoldsNegatedSaid : Prop := fnRowHoldsNegatedRow.holds Try.pinned (OpenSpec.ofChange fnRowHoldsNegatedSpec)

/-- ITS FALSE NEIGHBOUR: 'it returns false'. Refute it at one input. -/
def fnRowHoldsNegatedWrong : ChangeSpec := { name := "fnRowHoldsNegated", fn := fun _ => fun
  | [d] => { results := [.lit (.bool false)], args := [d] }
  | _ => none }
def FnRowHoldsNegatedWrongFalsely : Prop := fnRowHoldsNegatedRow.holds Try.pinned (OpenSpec.ofChange fnRowHoldsNegatedWrong)

/-- 'laws.FnNegateRow': WHATEVER THE INPUT: true; the input reads as it did. -/
def fnNegateRowSpec : ChangeSpec := { name := "fnNegateRow", fn := fun _ => fun
  | [d] => { results := [.lit (.bool true)], args := [d] }
  | _ => none }
def fnNegateRowRow : OpenClaim := { program := "ytkempbmkplcknac", sum := "d48778299a985f238d5d338992fc1fc6e86b6f05cbb390a789b661add15ecaf3", func := "loop.example/integerplanner/laws.FnNegateRow", spec := "fnNegateRow", apart := false }
def FnNegateRowSaid : Prop := fnNegateRowRow.holds Try.pinned (OpenSpec.ofChange fnNegateRowSpec)

/-- ITS FALSE NEIGHBOUR: 'it returns false'. Refute it at one input. -/
def fnNegateRowWrong : ChangeSpec := { name := "fnNegateRow", fn := fun _ => fun
  | [d] => { results := [.lit (.bool false)], args := [d] }
  | _ => none }
def FnNegateRowWrongFalsely : Prop := fnNegateRowRow.holds Try.pinned (OpenSpec.ofChange fnNegateRowWrong)

/-- 'laws.FnExactValidRat': WHATEVER THE INPUT: true; the input reads as it did. -/
def fnExactValidRatSpec : ChangeSpec := { name := "fnExactValidRat", fn := fun _ => fun
  | [d] => { results := [.lit (.bool true)], args := [d] }
  | _ => none }
def fnExactValidRatRow : OpenClaim := { program := "ytkempbmkplcknac", sum := "d48778299a985f238d5d338992fc1fc6e86b6f05cbb390a789b661add15ecaf3", func := "loop.example/integerplanner/laws.FnExactValidRat", spec := "fnExactValidRat", apart := false }
def FnExactValidRatSaid : Prop := fnExactValidRatRow.holds Try.pinned (OpenSpec.ofChange fnExactValidRatSpec)

/-- ITS FALSE NEIGHBOUR: 'it returns false'. Refute it at one input. -/
def fnExactValidRatWrong : ChangeSpec := { name := "fnExactValidRat", fn := fun _ => fun
  | [d] => { results := [.lit (.bool false)], args := [d] }
  | _ => none }
def FnExactValidRatWrongFalsely : Prop := fnExactValidRatRow.holds Try.pinned (OpenSpec.ofChange fnExactValidRatWrong)

/-- 'laws.FnExactMakeRat': WHATEVER THE INPUT: true; the input reads as it did. -/
def fnExactMakeRatSpec : ChangeSpec := { name := "fnExactMakeRat", fn := fun _ => fun
  | [d1, d2] => { results := [.lit (.bool true)], args := [d1, d2] }
  | _ => none }
def fnExactMakeRatRow : OpenClaim := { program := "ytkempbmkplcknac", sum := "d48778299a985f238d5d338992fc1fc6e86b6f05cbb390a789b661add15ecaf3", func := "loop.example/integerplanner/laws.FnExactMakeRat", spec := "fnExactMakeRat", apart := false }
def FnExactMakeRatSaid : Prop := fnExactMakeRatRow.holds Try.pinned (OpenSpec.ofChange fnExactMakeRatSpec)

/-- ITS FALSE NEIGHBOUR: 'it returns false'. Refute it at one input. -/
def fnExactMakeRatWrong : ChangeSpec := { name := "fnExactMakeRat", fn := fun _ => fun
  | [d1, d2] => { results := [.lit (.bool false)], args := [d1, d2] }
  | _ => none }
def FnExactMakeRatWrongFalsely : Prop := fnExactMakeRatRow.holds Try.pinned (OpenSpec.ofChange fnExactMakeRatWrong)

/-- 'laws.FnExactAddRat': WHATEVER THE INPUT: true; the input reads as it did. -/
def fnExactAddRatSpec : ChangeSpec := { name := "fnExactAddRat", fn := fun _ => fun
  | [d1, d2] => { results := [.lit (.bool true)], args := [d1, d2] }
  | _ => none }
def fnExactAddRatRow : OpenClaim := { program := "ytkempbmkplcknac", sum := "d48778299a985f238d5d338992fc1fc6e86b6f05cbb390a789b661add15ecaf3", func := "loop.example/integerplanner/laws.FnExactAddRat", spec := "fnExactAddRat", apart := false }
def FnExactAddRatSaid : Prop := fnExactAddRatRow.holds Try.pinned (OpenSpec.ofChange fnExactAddRatSpec)

/-- ITS FALSE NEIGHBOUR: 'it returns false'. Refute it at one input. -/
def fnExactAddRatWrong : ChangeSpec := { name := "fnExactAddRat", fn := fun _ => fun
  | [d1, d2] => { results := [.lit (.bool false)], args := [d1, d2] }
  | _ => none }
def FnExactAddRatWrongFalsely : Prop := fnExactAddRatRow.holds Try.pinned (OpenSpec.ofChange fnExactAddRatWrong)

/-- 'laws.FnExactMulRat': WHATEVER THE INPUT: true; the input reads as it did. -/
def fnExactMulRatSpec : ChangeSpec := { name := "fnExactMulRat", fn := fun _ => fun
  | [d1, d2] => { results := [.lit (.bool true)], args := [d1, d2] }
  | _ => none }
def fnExactMulRatRow : OpenClaim := { program := "ytkempbmkplcknac", sum := "d48778299a985f238d5d338992fc1fc6e86b6f05cbb390a789b661add15ecaf3", func := "loop.example/integerplanner/laws.FnExactMulRat", spec := "fnExactMulRat", apart := false }
def FnExactMulRatSaid : Prop := fnExactMulRatRow.holds Try.pinned (OpenSpec.ofChange fnExactMulRatSpec)

/-- ITS FALSE NEIGHBOUR: 'it returns false'. Refute it at one input. -/
def fnExactMulRatWrong : ChangeSpec := { name := "fnExactMulRat", fn := fun _ => fun
  | [d1, d2] => { results := [.lit (.bool false)], args := [d1, d2] }
  | _ => none }
def FnExactMulRatWrongFalsely : Prop := fnExactMulRatRow.holds Try.pinned (OpenSpec.ofChange fnExactMulRatWrong)

/-- 'laws.FnExactCompareRat': WHATEVER THE INPUT: true; the input reads as it did. -/
def fnExactCompareRatSpec : ChangeSpec := { name := "fnExactCompareRat", fn := fun _ => fun
  | [d1, d2] => { results := [.lit (.bool true)], args := [d1, d2] }
  | _ => none }
def fnExactCompareRatRow : OpenClaim := { program := "ytkempbmkplcknac", sum := "d48778299a985f238d5d338992fc1fc6e86b6f05cbb390a789b661add15ecaf3", func := "loop.example/integerplanner/laws.FnExactCompareRat", spec := "fnExactCompareRat", apart := false }
def FnExactCompareRatSaid : Prop := fnExactCompareRatRow.holds Try.pinned (OpenSpec.ofChange fnExactCompareRatSpec)

/-- ITS FALSE NEIGHBOUR: 'it returns false'. Refute it at one input. -/
def fnExactCompareRatWrong : ChangeSpec := { name := "fnExactCompareRat", fn := fun _ => fun
  | [d1, d2] => { results := [.lit (.bool false)], args := [d1, d2] }
  | _ => none }
def FnExactCompareRatWrongFalsely : Prop := fnExactCompareRatRow.holds Try.pinned (OpenSpec.ofChange fnExactCompareRatWrong)

/-- 'laws.FnExactFloorRat': WHATEVER THE INPUT: true; the input reads as it did. -/
def fnExactFloorRatSpec : ChangeSpec := { name := "fnExactFloorRat", fn := fun _ => fun
  | [d] => { results := [.lit (.bool true)], args := [d] }
  | _ => none }
def fnExactFloorRatRow : OpenClaim := { program := "ytkempbmkplcknac", sum := "d48778299a985f238d5d338992fc1fc6e86b6f05cbb390a789b661add15ecaf3", func := "loop.example/integerplanner/laws.FnExactFloorRat", spec := "fnExactFloorRat", apart := false }
def FnExactFloorRatSaid : Prop := fnExactFloorRatRow.holds Try.pinned (OpenSpec.ofChange fnExactFloorRatSpec)

/-- ITS FALSE NEIGHBOUR: 'it returns false'. Refute it at one input. -/
def fnExactFloorRatWrong : ChangeSpec := { name := "fnExactFloorRat", fn := fun _ => fun
  | [d] => { results := [.lit (.bool false)], args := [d] }
  | _ => none }
def FnExactFloorRatWrongFalsely : Prop := fnExactFloorRatRow.holds Try.pinned (OpenSpec.ofChange fnExactFloorRatWrong)

/-- 'laws.FnExactMulUnit': WHATEVER THE INPUT: true; the input reads as it did. -/
def fnExactMulUnitSpec : ChangeSpec := { name := "fnExactMulUnit", fn := fun _ => fun
  | [d1, d2] => { results := [.lit (.bool true)], args := [d1, d2] }
  | _ => none }
def fnExactMulUnitRow : OpenClaim := { program := "ytkempbmkplcknac", sum := "d48778299a985f238d5d338992fc1fc6e86b6f05cbb390a789b661add15ecaf3", func := "loop.example/integerplanner/laws.FnExactMulUnit", spec := "fnExactMulUnit", apart := false }
def FnExactMulUnitSaid : Prop := fnExactMulUnitRow.holds Try.pinned (OpenSpec.ofChange fnExactMulUnitSpec)

/-- ITS FALSE NEIGHBOUR: 'it returns false'. Refute it at one input. -/
def fnExactMulUnitWrong : ChangeSpec := { name := "fnExactMulUnit", fn := fun _ => fun
  | [d1, d2] => { results := [.lit (.bool false)], args := [d1, d2] }
  | _ => none }
def FnExactMulUnitWrongFalsely : Prop := fnExactMulUnitRow.holds Try.pinned (OpenSpec.ofChange fnExactMulUnitWrong)

/-- 'laws.FnExactDivUnit': WHATEVER THE INPUT: true; the input reads as it did. -/
def fnExactDivUnitSpec : ChangeSpec := { name := "fnExactDivUnit", fn := fun _ => fun
  | [d1, d2] => { results := [.lit (.bool true)], args := [d1, d2] }
  | _ => none }
def fnExactDivUnitRow : OpenClaim := { program := "ytkempbmkplcknac", sum := "d48778299a985f238d5d338992fc1fc6e86b6f05cbb390a789b661add15ecaf3", func := "loop.example/integerplanner/laws.FnExactDivUnit", spec := "fnExactDivUnit", apart := false }
def FnExactDivUnitSaid : Prop := fnExactDivUnitRow.holds Try.pinned (OpenSpec.ofChange fnExactDivUnitSpec)

/-- ITS FALSE NEIGHBOUR: 'it returns false'. Refute it at one input. -/
def fnExactDivUnitWrong : ChangeSpec := { name := "fnExactDivUnit", fn := fun _ => fun
  | [d1, d2] => { results := [.lit (.bool false)], args := [d1, d2] }
  | _ => none }
def FnExactDivUnitWrongFalsely : Prop := fnExactDivUnitRow.holds Try.pinned (OpenSpec.ofChange fnExactDivUnitWrong)

/- THE SECOND FORM. 'bulk': how many values and letters a reading holds, each counted each time it is reached (what is shared counts as often as it is met; a slice's spare places count too). A statement '..UptoSaid' is the law's where the arguments, and the package variables that the reading takes, are together of bulk at most 1048576: NARROWER than '..Said'. Prove '..Said' where nothing that the law and all that it calls make is longer than what came in: it says more and counts as full. Else prove '..UptoSaid'. A law counts once. -/
mutual
def uptoBulk {H : Type} : DataW H → Nat
  | .lit (.string bytes) => bytes.length + 1
  | .lit _ => 1
  | .nil => 1
  | .ptr d => uptoBulk d + 1
  | .slice elems spare => uptoBulkAll elems + uptoBulkAll spare + 1
  | .agg parts => uptoBulkAll parts + 1
  | .iface _ d => uptoBulk d + 1
  | .map entries => uptoBulkEntries entries + 1
  | .held _ => 1
def uptoBulkAll {H : Type} : List (DataW H) → Nat
  | [] => 0
  | d :: r => uptoBulk d + uptoBulkAll r
def uptoBulkEntries {H : Type} : List (Lit × DataW H) → Nat
  | [] => 0
  | x :: r => uptoBulkEntry x + uptoBulkEntries r
def uptoBulkEntry {H : Type} : Lit × DataW H → Nat
  | (.string bytes, d) => bytes.length + uptoBulk d + 1
  | (_, d) => uptoBulk d + 1
 end
def uptoSmall : (H : Type) → List (DataW H) → Bool := fun _ ds => decide (uptoBulkAll ds ≤ 1048576)
def OpenSpec.upto (s : _root_.Go.ChangeSpec) : _root_.Go.OpenSpec := { _root_.Go.OpenSpec.ofChange s with cond := some uptoSmall }

/-- 'laws.FnRowHoldsNegated', WHERE WHAT IT READS IS OF BULK AT MOST 1048576: true; the input reads as it did. -/
def fnRowHoldsNegatedUptoRow : OpenClaim := { program := "ytkempbmkplcknac", sum := "d48778299a985f238d5d338992fc1fc6e86b6f05cbb390a789b661add15ecaf3", func := "loop.example/integerplanner/laws.FnRowHoldsNegated", spec := "fnRowHoldsNegated", apart := false, narrowed := true }
def FnRowHoldsNegatedUptoSaid : Prop := fnRowHoldsNegatedUptoRow.holds Try.pinned (OpenSpec.upto fnRowHoldsNegatedSpec)

/-- 'laws.FnNegateRow', WHERE WHAT IT READS IS OF BULK AT MOST 1048576: true; the input reads as it did. -/
def fnNegateRowUptoRow : OpenClaim := { program := "ytkempbmkplcknac", sum := "d48778299a985f238d5d338992fc1fc6e86b6f05cbb390a789b661add15ecaf3", func := "loop.example/integerplanner/laws.FnNegateRow", spec := "fnNegateRow", apart := false, narrowed := true }
def FnNegateRowUptoSaid : Prop := fnNegateRowUptoRow.holds Try.pinned (OpenSpec.upto fnNegateRowSpec)

/-- 'laws.FnExactValidRat', WHERE WHAT IT READS IS OF BULK AT MOST 1048576: true; the input reads as it did. -/
def fnExactValidRatUptoRow : OpenClaim := { program := "ytkempbmkplcknac", sum := "d48778299a985f238d5d338992fc1fc6e86b6f05cbb390a789b661add15ecaf3", func := "loop.example/integerplanner/laws.FnExactValidRat", spec := "fnExactValidRat", apart := false, narrowed := true }
def FnExactValidRatUptoSaid : Prop := fnExactValidRatUptoRow.holds Try.pinned (OpenSpec.upto fnExactValidRatSpec)

/-- 'laws.FnExactMakeRat', WHERE WHAT IT READS IS OF BULK AT MOST 1048576: true; the input reads as it did. -/
def fnExactMakeRatUptoRow : OpenClaim := { program := "ytkempbmkplcknac", sum := "d48778299a985f238d5d338992fc1fc6e86b6f05cbb390a789b661add15ecaf3", func := "loop.example/integerplanner/laws.FnExactMakeRat", spec := "fnExactMakeRat", apart := false, narrowed := true }
def FnExactMakeRatUptoSaid : Prop := fnExactMakeRatUptoRow.holds Try.pinned (OpenSpec.upto fnExactMakeRatSpec)

/-- 'laws.FnExactAddRat', WHERE WHAT IT READS IS OF BULK AT MOST 1048576: true; the input reads as it did. -/
def fnExactAddRatUptoRow : OpenClaim := { program := "ytkempbmkplcknac", sum := "d48778299a985f238d5d338992fc1fc6e86b6f05cbb390a789b661add15ecaf3", func := "loop.example/integerplanner/laws.FnExactAddRat", spec := "fnExactAddRat", apart := false, narrowed := true }
def FnExactAddRatUptoSaid : Prop := fnExactAddRatUptoRow.holds Try.pinned (OpenSpec.upto fnExactAddRatSpec)

/-- 'laws.FnExactMulRat', WHERE WHAT IT READS IS OF BULK AT MOST 1048576: true; the input reads as it did. -/
def fnExactMulRatUptoRow : OpenClaim := { program := "ytkempbmkplcknac", sum := "d48778299a985f238d5d338992fc1fc6e86b6f05cbb390a789b661add15ecaf3", func := "loop.example/integerplanner/laws.FnExactMulRat", spec := "fnExactMulRat", apart := false, narrowed := true }
def FnExactMulRatUptoSaid : Prop := fnExactMulRatUptoRow.holds Try.pinned (OpenSpec.upto fnExactMulRatSpec)

/-- 'laws.FnExactCompareRat', WHERE WHAT IT READS IS OF BULK AT MOST 1048576: true; the input reads as it did. -/
def fnExactCompareRatUptoRow : OpenClaim := { program := "ytkempbmkplcknac", sum := "d48778299a985f238d5d338992fc1fc6e86b6f05cbb390a789b661add15ecaf3", func := "loop.example/integerplanner/laws.FnExactCompareRat", spec := "fnExactCompareRat", apart := false, narrowed := true }
def FnExactCompareRatUptoSaid : Prop := fnExactCompareRatUptoRow.holds Try.pinned (OpenSpec.upto fnExactCompareRatSpec)

/-- 'laws.FnExactFloorRat', WHERE WHAT IT READS IS OF BULK AT MOST 1048576: true; the input reads as it did. -/
def fnExactFloorRatUptoRow : OpenClaim := { program := "ytkempbmkplcknac", sum := "d48778299a985f238d5d338992fc1fc6e86b6f05cbb390a789b661add15ecaf3", func := "loop.example/integerplanner/laws.FnExactFloorRat", spec := "fnExactFloorRat", apart := false, narrowed := true }
def FnExactFloorRatUptoSaid : Prop := fnExactFloorRatUptoRow.holds Try.pinned (OpenSpec.upto fnExactFloorRatSpec)

/-- 'laws.FnExactMulUnit', WHERE WHAT IT READS IS OF BULK AT MOST 1048576: true; the input reads as it did. -/
def fnExactMulUnitUptoRow : OpenClaim := { program := "ytkempbmkplcknac", sum := "d48778299a985f238d5d338992fc1fc6e86b6f05cbb390a789b661add15ecaf3", func := "loop.example/integerplanner/laws.FnExactMulUnit", spec := "fnExactMulUnit", apart := false, narrowed := true }
def FnExactMulUnitUptoSaid : Prop := fnExactMulUnitUptoRow.holds Try.pinned (OpenSpec.upto fnExactMulUnitSpec)

/-- 'laws.FnExactDivUnit', WHERE WHAT IT READS IS OF BULK AT MOST 1048576: true; the input reads as it did. -/
def fnExactDivUnitUptoRow : OpenClaim := { program := "ytkempbmkplcknac", sum := "d48778299a985f238d5d338992fc1fc6e86b6f05cbb390a789b661add15ecaf3", func := "loop.example/integerplanner/laws.FnExactDivUnit", spec := "fnExactDivUnit", apart := false, narrowed := true }
def FnExactDivUnitUptoSaid : Prop := fnExactDivUnitUptoRow.holds Try.pinned (OpenSpec.upto fnExactDivUnitSpec)

end Rows
end Go.Proofs.Ytkempbmkplcknac
