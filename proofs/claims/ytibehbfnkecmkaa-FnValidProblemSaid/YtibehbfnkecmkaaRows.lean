/-
  No cell of these rows narrows 'for every input' (looked for: loops, veiled, ifaces, maps, wideKeys, modest, calm, conditions, laid).
  DERIVED. THE GIVEN ROWS OF THIS SEAT. 12 by the template 'for every input the law returns true; each argument reads behind the call as it read before'; 0 by the template 'total and deterministic' (their statements: YtibehbfnkecmkaaTotals.lean).
  GIVEN WITH THE SEED: the statements are not yours to turn. If you find one false, say at which input.
  Laid BY PROGRAM, IN A SANDBOX (cutbox-rows.mjs): the forced cells as the released guide's own fill.sh prints them over the translation c338b619fcce1fc4… (all of the seat's roots in one cut). By AI agents, Wed Nov 11 2026. No macro, syntax, notation, axiom, sorry.
-/
import Derived.Test.YtibehbfnkecmkaaChecked
import GoSem.Claim
import GoSem.ClaimJoined
import GoSem.ClaimMapViews
import Derived.JoinedTies
import Derived.KernelRfl
namespace Go.Proofs.Ytibehbfnkecmkaa
/- THE CELL 'sum', in the pinned program and in every row, IS THE sha256 OF THE DUMP (.gsa) THAT YtibehbfnkecmkaaProg.lean LOADS. Nothing in Lean hashes anything: it is a label: what it is worth is what the hold of that sum in a sandbox is worth. -/
noncomputable def Try.pinned : Pinned := { name := "ytibehbfnkecmkaa", sum := "c338b619fcce1fc4e13dd6f691aef53f0677dcbf8851519c84c894db188966b6", checked := Try.checked }
namespace Rows
def none {H : Type} : Left H := { results := [], args := [] }

/-- 'laws.FnNegateRow': WHATEVER THE INPUT: true; the input reads as it did. -/
def fnNegateRowSpec : ChangeSpec := { name := "fnNegateRow", fn := fun _ => fun
  | [d] => { results := [.lit (.bool true)], args := [d] }
  | _ => none }
def fnNegateRowRow : OpenClaim := { program := "ytibehbfnkecmkaa", sum := "c338b619fcce1fc4e13dd6f691aef53f0677dcbf8851519c84c894db188966b6", func := "loop.example/integerplanner/laws.FnNegateRow", spec := "fnNegateRow", apart := false }
def FnNegateRowSaid : Prop := fnNegateRowRow.holds Try.pinned (OpenSpec.ofChange fnNegateRowSpec)

/-- ITS FALSE NEIGHBOUR: 'it returns false'. Refute it at one input. -/
def fnNegateRowWrong : ChangeSpec := { name := "fnNegateRow", fn := fun _ => fun
  | [d] => { results := [.lit (.bool false)], args := [d] }
  | _ => none }
def FnNegateRowWrongFalsely : Prop := fnNegateRowRow.holds Try.pinned (OpenSpec.ofChange fnNegateRowWrong)

/-- 'laws.FnValidRow': WHATEVER THE INPUT: true; the input reads as it did. -/
def fnValidRowSpec : ChangeSpec := { name := "fnValidRow", fn := fun _ => fun
  | [d] => { results := [.lit (.bool true)], args := [d] }
  | _ => none }
def fnValidRowRow : OpenClaim := { program := "ytibehbfnkecmkaa", sum := "c338b619fcce1fc4e13dd6f691aef53f0677dcbf8851519c84c894db188966b6", func := "loop.example/integerplanner/laws.FnValidRow", spec := "fnValidRow", apart := false }
def FnValidRowSaid : Prop := fnValidRowRow.holds Try.pinned (OpenSpec.ofChange fnValidRowSpec)

/-- ITS FALSE NEIGHBOUR: 'it returns false'. Refute it at one input. -/
def fnValidRowWrong : ChangeSpec := { name := "fnValidRow", fn := fun _ => fun
  | [d] => { results := [.lit (.bool false)], args := [d] }
  | _ => none }
def FnValidRowWrongFalsely : Prop := fnValidRowRow.holds Try.pinned (OpenSpec.ofChange fnValidRowWrong)

/-- 'laws.FnRowHolds': WHATEVER THE INPUT: true; the input reads as it did. -/
def fnRowHoldsSpec : ChangeSpec := { name := "fnRowHolds", fn := fun _ => fun
  | [d] => { results := [.lit (.bool true)], args := [d] }
  | _ => none }
def fnRowHoldsRow : OpenClaim := { program := "ytibehbfnkecmkaa", sum := "c338b619fcce1fc4e13dd6f691aef53f0677dcbf8851519c84c894db188966b6", func := "loop.example/integerplanner/laws.FnRowHolds", spec := "fnRowHolds", apart := false }
def FnRowHoldsSaid : Prop := fnRowHoldsRow.holds Try.pinned (OpenSpec.ofChange fnRowHoldsSpec)

/-- ITS FALSE NEIGHBOUR: 'it returns false'. Refute it at one input. -/
def fnRowHoldsWrong : ChangeSpec := { name := "fnRowHolds", fn := fun _ => fun
  | [d] => { results := [.lit (.bool false)], args := [d] }
  | _ => none }
def FnRowHoldsWrongFalsely : Prop := fnRowHoldsRow.holds Try.pinned (OpenSpec.ofChange fnRowHoldsWrong)

/-- 'laws.FnRowHoldsNegated': WHATEVER THE INPUT: true; the input reads as it did. -/
def fnRowHoldsNegatedSpec : ChangeSpec := { name := "fnRowHoldsNegated", fn := fun _ => fun
  | [d] => { results := [.lit (.bool true)], args := [d] }
  | _ => none }
def fnRowHoldsNegatedRow : OpenClaim := { program := "ytibehbfnkecmkaa", sum := "c338b619fcce1fc4e13dd6f691aef53f0677dcbf8851519c84c894db188966b6", func := "loop.example/integerplanner/laws.FnRowHoldsNegated", spec := "fnRowHoldsNegated", apart := false }
def FnRowHoldsNegatedSaid : Prop := fnRowHoldsNegatedRow.holds Try.pinned (OpenSpec.ofChange fnRowHoldsNegatedSpec)

/-- ITS FALSE NEIGHBOUR: 'it returns false'. Refute it at one input. -/
def fnRowHoldsNegatedWrong : ChangeSpec := { name := "fnRowHoldsNegated", fn := fun _ => fun
  | [d] => { results := [.lit (.bool false)], args := [d] }
  | _ => none }
def FnRowHoldsNegatedWrongFalsely : Prop := fnRowHoldsNegatedRow.holds Try.pinned (OpenSpec.ofChange fnRowHoldsNegatedWrong)

/-- 'laws.FnValidProblem': WHATEVER THE INPUT: true; the input reads as it did. -/
def fnValidProblemSpec : ChangeSpec := { name := "fnValidProblem", fn := fun _ => fun
  | [d] => { results := [.lit (.bool true)], args := [d] }
  | _ => none }
def fnValidProblemRow : OpenClaim := { program := "ytibehbfnkecmkaa", sum := "c338b619fcce1fc4e13dd6f691aef53f0677dcbf8851519c84c894db188966b6", func := "loop.example/integerplanner/laws.FnValidProblem", spec := "fnValidProblem", apart := false }
def FnValidProblemSaid : Prop := fnValidProblemRow.holds Try.pinned (OpenSpec.ofChange fnValidProblemSpec)

/-- ITS FALSE NEIGHBOUR: 'it returns false'. Refute it at one input. -/
def fnValidProblemWrong : ChangeSpec := { name := "fnValidProblem", fn := fun _ => fun
  | [d] => { results := [.lit (.bool false)], args := [d] }
  | _ => none }
def FnValidProblemWrongFalsely : Prop := fnValidProblemRow.holds Try.pinned (OpenSpec.ofChange fnValidProblemWrong)

/-- 'laws.FnCoverRows': WHATEVER THE INPUT: true; the input reads as it did. -/
def fnCoverRowsSpec : ChangeSpec := { name := "fnCoverRows", fn := fun _ => fun
  | [d] => { results := [.lit (.bool true)], args := [d] }
  | _ => none }
def fnCoverRowsRow : OpenClaim := { program := "ytibehbfnkecmkaa", sum := "c338b619fcce1fc4e13dd6f691aef53f0677dcbf8851519c84c894db188966b6", func := "loop.example/integerplanner/laws.FnCoverRows", spec := "fnCoverRows", apart := false }
def FnCoverRowsSaid : Prop := fnCoverRowsRow.holds Try.pinned (OpenSpec.ofChange fnCoverRowsSpec)

/-- ITS FALSE NEIGHBOUR: 'it returns false'. Refute it at one input. -/
def fnCoverRowsWrong : ChangeSpec := { name := "fnCoverRows", fn := fun _ => fun
  | [d] => { results := [.lit (.bool false)], args := [d] }
  | _ => none }
def FnCoverRowsWrongFalsely : Prop := fnCoverRowsRow.holds Try.pinned (OpenSpec.ofChange fnCoverRowsWrong)

/-- 'laws.FnFloorRat': WHATEVER THE INPUT: true; the input reads as it did. -/
def fnFloorRatSpec : ChangeSpec := { name := "fnFloorRat", fn := fun _ => fun
  | [d] => { results := [.lit (.bool true)], args := [d] }
  | _ => none }
def fnFloorRatRow : OpenClaim := { program := "ytibehbfnkecmkaa", sum := "c338b619fcce1fc4e13dd6f691aef53f0677dcbf8851519c84c894db188966b6", func := "loop.example/integerplanner/laws.FnFloorRat", spec := "fnFloorRat", apart := false }
def FnFloorRatSaid : Prop := fnFloorRatRow.holds Try.pinned (OpenSpec.ofChange fnFloorRatSpec)

/-- ITS FALSE NEIGHBOUR: 'it returns false'. Refute it at one input. -/
def fnFloorRatWrong : ChangeSpec := { name := "fnFloorRat", fn := fun _ => fun
  | [d] => { results := [.lit (.bool false)], args := [d] }
  | _ => none }
def FnFloorRatWrongFalsely : Prop := fnFloorRatRow.holds Try.pinned (OpenSpec.ofChange fnFloorRatWrong)

/-- 'laws.FnRowRange': WHATEVER THE INPUT: true; the input reads as it did. -/
def fnRowRangeSpec : ChangeSpec := { name := "fnRowRange", fn := fun _ => fun
  | [d] => { results := [.lit (.bool true)], args := [d] }
  | _ => none }
def fnRowRangeRow : OpenClaim := { program := "ytibehbfnkecmkaa", sum := "c338b619fcce1fc4e13dd6f691aef53f0677dcbf8851519c84c894db188966b6", func := "loop.example/integerplanner/laws.FnRowRange", spec := "fnRowRange", apart := false }
def FnRowRangeSaid : Prop := fnRowRangeRow.holds Try.pinned (OpenSpec.ofChange fnRowRangeSpec)

/-- ITS FALSE NEIGHBOUR: 'it returns false'. Refute it at one input. -/
def fnRowRangeWrong : ChangeSpec := { name := "fnRowRange", fn := fun _ => fun
  | [d] => { results := [.lit (.bool false)], args := [d] }
  | _ => none }
def FnRowRangeWrongFalsely : Prop := fnRowRangeRow.holds Try.pinned (OpenSpec.ofChange fnRowRangeWrong)

/-- 'laws.FnValidBox': WHATEVER THE INPUT: true; the input reads as it did. -/
def fnValidBoxSpec : ChangeSpec := { name := "fnValidBox", fn := fun _ => fun
  | [d] => { results := [.lit (.bool true)], args := [d] }
  | _ => none }
def fnValidBoxRow : OpenClaim := { program := "ytibehbfnkecmkaa", sum := "c338b619fcce1fc4e13dd6f691aef53f0677dcbf8851519c84c894db188966b6", func := "loop.example/integerplanner/laws.FnValidBox", spec := "fnValidBox", apart := false }
def FnValidBoxSaid : Prop := fnValidBoxRow.holds Try.pinned (OpenSpec.ofChange fnValidBoxSpec)

/-- ITS FALSE NEIGHBOUR: 'it returns false'. Refute it at one input. -/
def fnValidBoxWrong : ChangeSpec := { name := "fnValidBox", fn := fun _ => fun
  | [d] => { results := [.lit (.bool false)], args := [d] }
  | _ => none }
def FnValidBoxWrongFalsely : Prop := fnValidBoxRow.holds Try.pinned (OpenSpec.ofChange fnValidBoxWrong)

/-- 'laws.FnExactFloorRat': WHATEVER THE INPUT: true; the input reads as it did. -/
def fnExactFloorRatSpec : ChangeSpec := { name := "fnExactFloorRat", fn := fun _ => fun
  | [d] => { results := [.lit (.bool true)], args := [d] }
  | _ => none }
def fnExactFloorRatRow : OpenClaim := { program := "ytibehbfnkecmkaa", sum := "c338b619fcce1fc4e13dd6f691aef53f0677dcbf8851519c84c894db188966b6", func := "loop.example/integerplanner/laws.FnExactFloorRat", spec := "fnExactFloorRat", apart := false }
def FnExactFloorRatSaid : Prop := fnExactFloorRatRow.holds Try.pinned (OpenSpec.ofChange fnExactFloorRatSpec)

/-- ITS FALSE NEIGHBOUR: 'it returns false'. Refute it at one input. -/
def fnExactFloorRatWrong : ChangeSpec := { name := "fnExactFloorRat", fn := fun _ => fun
  | [d] => { results := [.lit (.bool false)], args := [d] }
  | _ => none }
def FnExactFloorRatWrongFalsely : Prop := fnExactFloorRatRow.holds Try.pinned (OpenSpec.ofChange fnExactFloorRatWrong)

/-- 'laws.FnExactCoverRows': WHATEVER THE INPUT: true; the input reads as it did. -/
def fnExactCoverRowsSpec : ChangeSpec := { name := "fnExactCoverRows", fn := fun _ => fun
  | [d] => { results := [.lit (.bool true)], args := [d] }
  | _ => none }
def fnExactCoverRowsRow : OpenClaim := { program := "ytibehbfnkecmkaa", sum := "c338b619fcce1fc4e13dd6f691aef53f0677dcbf8851519c84c894db188966b6", func := "loop.example/integerplanner/laws.FnExactCoverRows", spec := "fnExactCoverRows", apart := false }
def FnExactCoverRowsSaid : Prop := fnExactCoverRowsRow.holds Try.pinned (OpenSpec.ofChange fnExactCoverRowsSpec)

/-- ITS FALSE NEIGHBOUR: 'it returns false'. Refute it at one input. -/
def fnExactCoverRowsWrong : ChangeSpec := { name := "fnExactCoverRows", fn := fun _ => fun
  | [d] => { results := [.lit (.bool false)], args := [d] }
  | _ => none }
def FnExactCoverRowsWrongFalsely : Prop := fnExactCoverRowsRow.holds Try.pinned (OpenSpec.ofChange fnExactCoverRowsWrong)

/-- 'laws.FnExactCheckFarkas': WHATEVER THE INPUT: true; the input reads as it did. -/
def fnExactCheckFarkasSpec : ChangeSpec := { name := "fnExactCheckFarkas", fn := fun _ => fun
  | [d1, d2] => { results := [.lit (.bool true)], args := [d1, d2] }
  | _ => none }
def fnExactCheckFarkasRow : OpenClaim := { program := "ytibehbfnkecmkaa", sum := "c338b619fcce1fc4e13dd6f691aef53f0677dcbf8851519c84c894db188966b6", func := "loop.example/integerplanner/laws.FnExactCheckFarkas", spec := "fnExactCheckFarkas", apart := false }
def FnExactCheckFarkasSaid : Prop := fnExactCheckFarkasRow.holds Try.pinned (OpenSpec.ofChange fnExactCheckFarkasSpec)

/-- ITS FALSE NEIGHBOUR: 'it returns false'. Refute it at one input. -/
def fnExactCheckFarkasWrong : ChangeSpec := { name := "fnExactCheckFarkas", fn := fun _ => fun
  | [d1, d2] => { results := [.lit (.bool false)], args := [d1, d2] }
  | _ => none }
def FnExactCheckFarkasWrongFalsely : Prop := fnExactCheckFarkasRow.holds Try.pinned (OpenSpec.ofChange fnExactCheckFarkasWrong)

/- THE SECOND FORM. 'bulk': how many values and letters a reading holds, each counted each time it is reached (what is shared counts as often as it is met; a slice's spare places count too). A statement '..UptoSaid' is the law's where the arguments, and the package variables that the reading takes, are together of bulk at most 1048576: NARROWER than '..Said'. Prove '..Said' where nothing that the law and all that it calls make is longer than what came in: it says more and counts as full. Else prove '..UptoSaid'. A law counts once. -/
mutual
def uptoBulk {H : Type} : DataW H → Nat
  | .lit (.string bytes) => bytes.length + 1
  | .lit _ => 1
  | .nil => 1
  | .ptr d => uptoBulk d + 1
  | .slice elems spare => uptoBulkAll elems + uptoBulkAll spare + 1
  | .agg parts => uptoBulkAll parts + 1
  | .iface _ d => uptoBulk d + 1
  | .map entries => uptoBulkEntries entries + 1
  | .held _ => 1
def uptoBulkAll {H : Type} : List (DataW H) → Nat
  | [] => 0
  | d :: r => uptoBulk d + uptoBulkAll r
def uptoBulkEntries {H : Type} : List (Lit × DataW H) → Nat
  | [] => 0
  | x :: r => uptoBulkEntry x + uptoBulkEntries r
def uptoBulkEntry {H : Type} : Lit × DataW H → Nat
  | (.string bytes, d) => bytes.length + uptoBulk d + 1
  | (_, d) => uptoBulk d + 1
 end
def uptoSmall : (H : Type) → List (DataW H) → Bool := fun _ ds => decide (uptoBulkAll ds ≤ 1048576)
def OpenSpec.upto (s : _root_.Go.ChangeSpec) : _root_.Go.OpenSpec := { _root_.Go.OpenSpec.ofChange s with cond := some uptoSmall }

/-- 'laws.FnNegateRow', WHERE WHAT IT READS IS OF BULK AT MOST 1048576: true; the input reads as it did. -/
def fnNegateRowUptoRow : OpenClaim := { program := "ytibehbfnkecmkaa", sum := "c338b619fcce1fc4e13dd6f691aef53f0677dcbf8851519c84c894db188966b6", func := "loop.example/integerplanner/laws.FnNegateRow", spec := "fnNegateRow", apart := false, narrowed := true }
def FnNegateRowUptoSaid : Prop := fnNegateRowUptoRow.holds Try.pinned (OpenSpec.upto fnNegateRowSpec)

/-- 'laws.FnValidRow', WHERE WHAT IT READS IS OF BULK AT MOST 1048576: true; the input reads as it did. -/
def fnValidRowUptoRow : OpenClaim := { program := "ytibehbfnkecmkaa", sum := "c338b619fcce1fc4e13dd6f691aef53f0677dcbf8851519c84c894db188966b6", func := "loop.example/integerplanner/laws.FnValidRow", spec := "fnValidRow", apart := false, narrowed := true }
def FnValidRowUptoSaid : Prop := fnValidRowUptoRow.holds Try.pinned (OpenSpec.upto fnValidRowSpec)

/-- 'laws.FnRowHolds', WHERE WHAT IT READS IS OF BULK AT MOST 1048576: true; the input reads as it did. -/
def fnRowHoldsUptoRow : OpenClaim := { program := "ytibehbfnkecmkaa", sum := "c338b619fcce1fc4e13dd6f691aef53f0677dcbf8851519c84c894db188966b6", func := "loop.example/integerplanner/laws.FnRowHolds", spec := "fnRowHolds", apart := false, narrowed := true }
def FnRowHoldsUptoSaid : Prop := fnRowHoldsUptoRow.holds Try.pinned (OpenSpec.upto fnRowHoldsSpec)

/-- 'laws.FnRowHoldsNegated', WHERE WHAT IT READS IS OF BULK AT MOST 1048576: true; the input reads as it did. -/
def fnRowHoldsNegatedUptoRow : OpenClaim := { program := "ytibehbfnkecmkaa", sum := "c338b619fcce1fc4e13dd6f691aef53f0677dcbf8851519c84c894db188966b6", func := "loop.example/integerplanner/laws.FnRowHoldsNegated", spec := "fnRowHoldsNegated", apart := false, narrowed := true }
def FnRowHoldsNegatedUptoSaid : Prop := fnRowHoldsNegatedUptoRow.holds Try.pinned (OpenSpec.upto fnRowHoldsNegatedSpec)

/-- 'laws.FnValidProblem', WHERE WHAT IT READS IS OF BULK AT MOST 1048576: true; the input reads as it did. -/
def fnValidProblemUptoRow : OpenClaim := { program := "ytibehbfnkecmkaa", sum := "c338b619fcce1fc4e13dd6f691aef53f0677dcbf8851519c84c894db188966b6", func := "loop.example/integerplanner/laws.FnValidProblem", spec := "fnValidProblem", apart := false, narrowed := true }
def FnValidProblemUptoSaid : Prop := fnValidProblemUptoRow.holds Try.pinned (OpenSpec.upto fnValidProblemSpec)

/-- 'laws.FnCoverRows', WHERE WHAT IT READS IS OF BULK AT MOST 1048576: true; the input reads as it did. -/
def fnCoverRowsUptoRow : OpenClaim := { program := "ytibehbfnkecmkaa", sum := "c338b619fcce1fc4e13dd6f691aef53f0677dcbf8851519c84c894db188966b6", func := "loop.example/integerplanner/laws.FnCoverRows", spec := "fnCoverRows", apart := false, narrowed := true }
def FnCoverRowsUptoSaid : Prop := fnCoverRowsUptoRow.holds Try.pinned (OpenSpec.upto fnCoverRowsSpec)

/-- 'laws.FnFloorRat', WHERE WHAT IT READS IS OF BULK AT MOST 1048576: true; the input reads as it did. -/
def fnFloorRatUptoRow : OpenClaim := { program := "ytibehbfnkecmkaa", sum := "c338b619fcce1fc4e13dd6f691aef53f0677dcbf8851519c84c894db188966b6", func := "loop.example/integerplanner/laws.FnFloorRat", spec := "fnFloorRat", apart := false, narrowed := true }
def FnFloorRatUptoSaid : Prop := fnFloorRatUptoRow.holds Try.pinned (OpenSpec.upto fnFloorRatSpec)

/-- 'laws.FnRowRange', WHERE WHAT IT READS IS OF BULK AT MOST 1048576: true; the input reads as it did. -/
def fnRowRangeUptoRow : OpenClaim := { program := "ytibehbfnkecmkaa", sum := "c338b619fcce1fc4e13dd6f691aef53f0677dcbf8851519c84c894db188966b6", func := "loop.example/integerplanner/laws.FnRowRange", spec := "fnRowRange", apart := false, narrowed := true }
def FnRowRangeUptoSaid : Prop := fnRowRangeUptoRow.holds Try.pinned (OpenSpec.upto fnRowRangeSpec)

/-- 'laws.FnValidBox', WHERE WHAT IT READS IS OF BULK AT MOST 1048576: true; the input reads as it did. -/
def fnValidBoxUptoRow : OpenClaim := { program := "ytibehbfnkecmkaa", sum := "c338b619fcce1fc4e13dd6f691aef53f0677dcbf8851519c84c894db188966b6", func := "loop.example/integerplanner/laws.FnValidBox", spec := "fnValidBox", apart := false, narrowed := true }
def FnValidBoxUptoSaid : Prop := fnValidBoxUptoRow.holds Try.pinned (OpenSpec.upto fnValidBoxSpec)

/-- 'laws.FnExactFloorRat', WHERE WHAT IT READS IS OF BULK AT MOST 1048576: true; the input reads as it did. -/
def fnExactFloorRatUptoRow : OpenClaim := { program := "ytibehbfnkecmkaa", sum := "c338b619fcce1fc4e13dd6f691aef53f0677dcbf8851519c84c894db188966b6", func := "loop.example/integerplanner/laws.FnExactFloorRat", spec := "fnExactFloorRat", apart := false, narrowed := true }
def FnExactFloorRatUptoSaid : Prop := fnExactFloorRatUptoRow.holds Try.pinned (OpenSpec.upto fnExactFloorRatSpec)

/-- 'laws.FnExactCoverRows', WHERE WHAT IT READS IS OF BULK AT MOST 1048576: true; the input reads as it did. -/
def fnExactCoverRowsUptoRow : OpenClaim := { program := "ytibehbfnkecmkaa", sum := "c338b619fcce1fc4e13dd6f691aef53f0677dcbf8851519c84c894db188966b6", func := "loop.example/integerplanner/laws.FnExactCoverRows", spec := "fnExactCoverRows", apart := false, narrowed := true }
def FnExactCoverRowsUptoSaid : Prop := fnExactCoverRowsUptoRow.holds Try.pinned (OpenSpec.upto fnExactCoverRowsSpec)

/-- 'laws.FnExactCheckFarkas', WHERE WHAT IT READS IS OF BULK AT MOST 1048576: true; the input reads as it did. -/
def fnExactCheckFarkasUptoRow : OpenClaim := { program := "ytibehbfnkecmkaa", sum := "c338b619fcce1fc4e13dd6f691aef53f0677dcbf8851519c84c894db188966b6", func := "loop.example/integerplanner/laws.FnExactCheckFarkas", spec := "fnExactCheckFarkas", apart := false, narrowed := true }
def FnExactCheckFarkasUptoSaid : Prop := fnExactCheckFarkasUptoRow.holds Try.pinned (OpenSpec.upto fnExactCheckFarkasSpec)

end Rows
end Go.Proofs.Ytibehbfnkecmkaa
