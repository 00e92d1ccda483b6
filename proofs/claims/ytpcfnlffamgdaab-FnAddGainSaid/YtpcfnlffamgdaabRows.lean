/-
  No cell of these rows narrows 'for every input' (looked for: loops, veiled, ifaces, maps, wideKeys, modest, calm, conditions, laid).
  DERIVED. THE GIVEN ROWS OF THIS SEAT. 12 by the template 'for every input the law returns true; each argument reads behind the call as it read before'; 0 by the template 'total and deterministic' (their statements: YtpcfnlffamgdaabTotals.lean).
  GIVEN WITH THE SEED: the statements are not yours to turn. If you find one false, say at which input.
  Laid BY PROGRAM, IN A SANDBOX (cutbox-rows.mjs): the forced cells as the released guide's own fill.sh prints them over the translation 4abfda279bb305c4… (all of the seat's roots in one cut). By AI agents, Wed Nov 11 2026. No macro, syntax, notation, axiom, sorry.
-/
import Derived.Test.YtpcfnlffamgdaabChecked
import GoSem.Claim
import GoSem.ClaimJoined
import GoSem.ClaimMapViews
import Derived.JoinedTies
import Derived.KernelRfl
namespace Go.Proofs.Ytpcfnlffamgdaab
/- THE CELL 'sum', in the pinned program and in every row, IS THE sha256 OF THE DUMP (.gsa) THAT YtpcfnlffamgdaabProg.lean LOADS. Nothing in Lean hashes anything: it is a label: what it is worth is what the hold of that sum in a sandbox is worth. -/
noncomputable def Try.pinned : Pinned := { name := "ytpcfnlffamgdaab", sum := "4abfda279bb305c45b5490f065d456214a1c3749097111c13a7905306140e4b1", checked := Try.checked }
namespace Rows
def none {H : Type} : Left H := { results := [], args := [] }

/-- 'laws.FnAddGain': WHATEVER THE INPUT: true; the input reads as it did. -/
def fnAddGainSpec : ChangeSpec := { name := "fnAddGain", fn := fun _ => fun
  | [d] => { results := [.lit (.bool true)], args := [d] }
  | _ => none }
def fnAddGainRow : OpenClaim := { program := "ytpcfnlffamgdaab", sum := "4abfda279bb305c45b5490f065d456214a1c3749097111c13a7905306140e4b1", func := "loop.example/integerplanner/laws.FnAddGain", spec := "fnAddGain", apart := false }
def FnAddGainSaid : Prop := fnAddGainRow.holds Try.pinned (OpenSpec.ofChange fnAddGainSpec)

/-- ITS FALSE NEIGHBOUR: 'it returns false'. Refute it at one input. -/
def fnAddGainWrong : ChangeSpec := { name := "fnAddGain", fn := fun _ => fun
  | [d] => { results := [.lit (.bool false)], args := [d] }
  | _ => none }
def FnAddGainWrongFalsely : Prop := fnAddGainRow.holds Try.pinned (OpenSpec.ofChange fnAddGainWrong)

/-- 'laws.FnFractionOf': WHATEVER THE INPUT: true; the input reads as it did. -/
def fnFractionOfSpec : ChangeSpec := { name := "fnFractionOf", fn := fun _ => fun
  | [d] => { results := [.lit (.bool true)], args := [d] }
  | _ => none }
def fnFractionOfRow : OpenClaim := { program := "ytpcfnlffamgdaab", sum := "4abfda279bb305c45b5490f065d456214a1c3749097111c13a7905306140e4b1", func := "loop.example/integerplanner/laws.FnFractionOf", spec := "fnFractionOf", apart := false }
def FnFractionOfSaid : Prop := fnFractionOfRow.holds Try.pinned (OpenSpec.ofChange fnFractionOfSpec)

/-- ITS FALSE NEIGHBOUR: 'it returns false'. Refute it at one input. -/
def fnFractionOfWrong : ChangeSpec := { name := "fnFractionOf", fn := fun _ => fun
  | [d] => { results := [.lit (.bool false)], args := [d] }
  | _ => none }
def FnFractionOfWrongFalsely : Prop := fnFractionOfRow.holds Try.pinned (OpenSpec.ofChange fnFractionOfWrong)

/-- 'laws.FnBranchScore': WHATEVER THE INPUT: true; the input reads as it did. -/
def fnBranchScoreSpec : ChangeSpec := { name := "fnBranchScore", fn := fun _ => fun
  | [d] => { results := [.lit (.bool true)], args := [d] }
  | _ => none }
def fnBranchScoreRow : OpenClaim := { program := "ytpcfnlffamgdaab", sum := "4abfda279bb305c45b5490f065d456214a1c3749097111c13a7905306140e4b1", func := "loop.example/integerplanner/laws.FnBranchScore", spec := "fnBranchScore", apart := false }
def FnBranchScoreSaid : Prop := fnBranchScoreRow.holds Try.pinned (OpenSpec.ofChange fnBranchScoreSpec)

/-- ITS FALSE NEIGHBOUR: 'it returns false'. Refute it at one input. -/
def fnBranchScoreWrong : ChangeSpec := { name := "fnBranchScore", fn := fun _ => fun
  | [d] => { results := [.lit (.bool false)], args := [d] }
  | _ => none }
def FnBranchScoreWrongFalsely : Prop := fnBranchScoreRow.holds Try.pinned (OpenSpec.ofChange fnBranchScoreWrong)

/-- 'laws.FnStartBox': WHATEVER THE INPUT: true; the input reads as it did. -/
def fnStartBoxSpec : ChangeSpec := { name := "fnStartBox", fn := fun _ => fun
  | [d] => { results := [.lit (.bool true)], args := [d] }
  | _ => none }
def fnStartBoxRow : OpenClaim := { program := "ytpcfnlffamgdaab", sum := "4abfda279bb305c45b5490f065d456214a1c3749097111c13a7905306140e4b1", func := "loop.example/integerplanner/laws.FnStartBox", spec := "fnStartBox", unfollowed := true, recurses := true, apart := false }
def FnStartBoxSaid : Prop := fnStartBoxRow.holds Try.pinned (OpenSpec.ofChange fnStartBoxSpec)

/-- ITS FALSE NEIGHBOUR: 'it returns false'. Refute it at one input. -/
def fnStartBoxWrong : ChangeSpec := { name := "fnStartBox", fn := fun _ => fun
  | [d] => { results := [.lit (.bool false)], args := [d] }
  | _ => none }
def FnStartBoxWrongFalsely : Prop := fnStartBoxRow.holds Try.pinned (OpenSpec.ofChange fnStartBoxWrong)

/-- 'laws.FnSearchStart': WHATEVER THE INPUT: true; the input reads as it did. -/
def fnSearchStartSpec : ChangeSpec := { name := "fnSearchStart", fn := fun _ => fun
  | [d] => { results := [.lit (.bool true)], args := [d] }
  | _ => none }
def fnSearchStartRow : OpenClaim := { program := "ytpcfnlffamgdaab", sum := "4abfda279bb305c45b5490f065d456214a1c3749097111c13a7905306140e4b1", func := "loop.example/integerplanner/laws.FnSearchStart", spec := "fnSearchStart", apart := false }
def FnSearchStartSaid : Prop := fnSearchStartRow.holds Try.pinned (OpenSpec.ofChange fnSearchStartSpec)

/-- ITS FALSE NEIGHBOUR: 'it returns false'. Refute it at one input. -/
def fnSearchStartWrong : ChangeSpec := { name := "fnSearchStart", fn := fun _ => fun
  | [d] => { results := [.lit (.bool false)], args := [d] }
  | _ => none }
def FnSearchStartWrongFalsely : Prop := fnSearchStartRow.holds Try.pinned (OpenSpec.ofChange fnSearchStartWrong)

/-- 'laws.FnCountFeasible': WHATEVER THE INPUT: true; the input reads as it did. -/
def fnCountFeasibleSpec : ChangeSpec := { name := "fnCountFeasible", fn := fun _ => fun
  | [d] => { results := [.lit (.bool true)], args := [d] }
  | _ => none }
def fnCountFeasibleRow : OpenClaim := { program := "ytpcfnlffamgdaab", sum := "4abfda279bb305c45b5490f065d456214a1c3749097111c13a7905306140e4b1", func := "loop.example/integerplanner/laws.FnCountFeasible", spec := "fnCountFeasible", unfollowed := true, recurses := true, apart := false }
def FnCountFeasibleSaid : Prop := fnCountFeasibleRow.holds Try.pinned (OpenSpec.ofChange fnCountFeasibleSpec)

/-- ITS FALSE NEIGHBOUR: 'it returns false'. Refute it at one input. -/
def fnCountFeasibleWrong : ChangeSpec := { name := "fnCountFeasible", fn := fun _ => fun
  | [d] => { results := [.lit (.bool false)], args := [d] }
  | _ => none }
def FnCountFeasibleWrongFalsely : Prop := fnCountFeasibleRow.holds Try.pinned (OpenSpec.ofChange fnCountFeasibleWrong)

/-- 'laws.FnSolveExact': WHATEVER THE INPUT: true; the input reads as it did. -/
def fnSolveExactSpec : ChangeSpec := { name := "fnSolveExact", fn := fun _ => fun
  | [d] => { results := [.lit (.bool true)], args := [d] }
  | _ => none }
def fnSolveExactRow : OpenClaim := { program := "ytpcfnlffamgdaab", sum := "4abfda279bb305c45b5490f065d456214a1c3749097111c13a7905306140e4b1", func := "loop.example/integerplanner/laws.FnSolveExact", spec := "fnSolveExact", unfollowed := true, recurses := true, apart := false }
def FnSolveExactSaid : Prop := fnSolveExactRow.holds Try.pinned (OpenSpec.ofChange fnSolveExactSpec)

/-- ITS FALSE NEIGHBOUR: 'it returns false'. Refute it at one input. -/
def fnSolveExactWrong : ChangeSpec := { name := "fnSolveExact", fn := fun _ => fun
  | [d] => { results := [.lit (.bool false)], args := [d] }
  | _ => none }
def FnSolveExactWrongFalsely : Prop := fnSolveExactRow.holds Try.pinned (OpenSpec.ofChange fnSolveExactWrong)

/-- 'laws.FnFeasible': WHATEVER THE INPUT: true; the input reads as it did. -/
def fnFeasibleSpec : ChangeSpec := { name := "fnFeasible", fn := fun _ => fun
  | [d] => { results := [.lit (.bool true)], args := [d] }
  | _ => none }
def fnFeasibleRow : OpenClaim := { program := "ytpcfnlffamgdaab", sum := "4abfda279bb305c45b5490f065d456214a1c3749097111c13a7905306140e4b1", func := "loop.example/integerplanner/laws.FnFeasible", spec := "fnFeasible", apart := false }
def FnFeasibleSaid : Prop := fnFeasibleRow.holds Try.pinned (OpenSpec.ofChange fnFeasibleSpec)

/-- ITS FALSE NEIGHBOUR: 'it returns false'. Refute it at one input. -/
def fnFeasibleWrong : ChangeSpec := { name := "fnFeasible", fn := fun _ => fun
  | [d] => { results := [.lit (.bool false)], args := [d] }
  | _ => none }
def FnFeasibleWrongFalsely : Prop := fnFeasibleRow.holds Try.pinned (OpenSpec.ofChange fnFeasibleWrong)

/-- 'laws.FnFeasibleRows': WHATEVER THE INPUT: true; the input reads as it did. -/
def fnFeasibleRowsSpec : ChangeSpec := { name := "fnFeasibleRows", fn := fun _ => fun
  | [d] => { results := [.lit (.bool true)], args := [d] }
  | _ => none }
def fnFeasibleRowsRow : OpenClaim := { program := "ytpcfnlffamgdaab", sum := "4abfda279bb305c45b5490f065d456214a1c3749097111c13a7905306140e4b1", func := "loop.example/integerplanner/laws.FnFeasibleRows", spec := "fnFeasibleRows", apart := false }
def FnFeasibleRowsSaid : Prop := fnFeasibleRowsRow.holds Try.pinned (OpenSpec.ofChange fnFeasibleRowsSpec)

/-- ITS FALSE NEIGHBOUR: 'it returns false'. Refute it at one input. -/
def fnFeasibleRowsWrong : ChangeSpec := { name := "fnFeasibleRows", fn := fun _ => fun
  | [d] => { results := [.lit (.bool false)], args := [d] }
  | _ => none }
def FnFeasibleRowsWrongFalsely : Prop := fnFeasibleRowsRow.holds Try.pinned (OpenSpec.ofChange fnFeasibleRowsWrong)

/-- 'laws.FnCostOf': WHATEVER THE INPUT: true; the input reads as it did. -/
def fnCostOfSpec : ChangeSpec := { name := "fnCostOf", fn := fun _ => fun
  | [d] => { results := [.lit (.bool true)], args := [d] }
  | _ => none }
def fnCostOfRow : OpenClaim := { program := "ytpcfnlffamgdaab", sum := "4abfda279bb305c45b5490f065d456214a1c3749097111c13a7905306140e4b1", func := "loop.example/integerplanner/laws.FnCostOf", spec := "fnCostOf", apart := false }
def FnCostOfSaid : Prop := fnCostOfRow.holds Try.pinned (OpenSpec.ofChange fnCostOfSpec)

/-- ITS FALSE NEIGHBOUR: 'it returns false'. Refute it at one input. -/
def fnCostOfWrong : ChangeSpec := { name := "fnCostOf", fn := fun _ => fun
  | [d] => { results := [.lit (.bool false)], args := [d] }
  | _ => none }
def FnCostOfWrongFalsely : Prop := fnCostOfRow.holds Try.pinned (OpenSpec.ofChange fnCostOfWrong)

/-- 'laws.FnViolated': WHATEVER THE INPUT: true; the input reads as it did. -/
def fnViolatedSpec : ChangeSpec := { name := "fnViolated", fn := fun _ => fun
  | [d] => { results := [.lit (.bool true)], args := [d] }
  | _ => none }
def fnViolatedRow : OpenClaim := { program := "ytpcfnlffamgdaab", sum := "4abfda279bb305c45b5490f065d456214a1c3749097111c13a7905306140e4b1", func := "loop.example/integerplanner/laws.FnViolated", spec := "fnViolated", apart := false }
def FnViolatedSaid : Prop := fnViolatedRow.holds Try.pinned (OpenSpec.ofChange fnViolatedSpec)

/-- ITS FALSE NEIGHBOUR: 'it returns false'. Refute it at one input. -/
def fnViolatedWrong : ChangeSpec := { name := "fnViolated", fn := fun _ => fun
  | [d] => { results := [.lit (.bool false)], args := [d] }
  | _ => none }
def FnViolatedWrongFalsely : Prop := fnViolatedRow.holds Try.pinned (OpenSpec.ofChange fnViolatedWrong)

/-- 'laws.FnBaseCost': WHATEVER THE INPUT: true; the input reads as it did. -/
def fnBaseCostSpec : ChangeSpec := { name := "fnBaseCost", fn := fun _ => fun
  | [d] => { results := [.lit (.bool true)], args := [d] }
  | _ => none }
def fnBaseCostRow : OpenClaim := { program := "ytpcfnlffamgdaab", sum := "4abfda279bb305c45b5490f065d456214a1c3749097111c13a7905306140e4b1", func := "loop.example/integerplanner/laws.FnBaseCost", spec := "fnBaseCost", unfollowed := true, recurses := true, apart := false }
def FnBaseCostSaid : Prop := fnBaseCostRow.holds Try.pinned (OpenSpec.ofChange fnBaseCostSpec)

/-- ITS FALSE NEIGHBOUR: 'it returns false'. Refute it at one input. -/
def fnBaseCostWrong : ChangeSpec := { name := "fnBaseCost", fn := fun _ => fun
  | [d] => { results := [.lit (.bool false)], args := [d] }
  | _ => none }
def FnBaseCostWrongFalsely : Prop := fnBaseCostRow.holds Try.pinned (OpenSpec.ofChange fnBaseCostWrong)

/- THE SECOND FORM. 'bulk': how many values and letters a reading holds, each counted each time it is reached (what is shared counts as often as it is met; a slice's spare places count too). A statement '..UptoSaid' is the law's where the arguments, and the package variables that the reading takes, are together of bulk at most 1048576: NARROWER than '..Said'. Prove '..Said' where nothing that the law and all that it calls make is longer than what came in: it says more and counts as full. Else prove '..UptoSaid'. A law counts once. -/
mutual
def uptoBulk {H : Type} : DataW H → Nat
  | .lit (.string bytes) => bytes.length + 1
  | .lit _ => 1
  | .nil => 1
  | .ptr d => uptoBulk d + 1
  | .slice elems spare => uptoBulkAll elems + uptoBulkAll spare + 1
  | .agg parts => uptoBulkAll parts + 1
  | .iface _ d => uptoBulk d + 1
  | .map entries => uptoBulkEntries entries + 1
  | .held _ => 1
def uptoBulkAll {H : Type} : List (DataW H) → Nat
  | [] => 0
  | d :: r => uptoBulk d + uptoBulkAll r
def uptoBulkEntries {H : Type} : List (Lit × DataW H) → Nat
  | [] => 0
  | x :: r => uptoBulkEntry x + uptoBulkEntries r
def uptoBulkEntry {H : Type} : Lit × DataW H → Nat
  | (.string bytes, d) => bytes.length + uptoBulk d + 1
  | (_, d) => uptoBulk d + 1
 end
def uptoSmall : (H : Type) → List (DataW H) → Bool := fun _ ds => decide (uptoBulkAll ds ≤ 1048576)
def OpenSpec.upto (s : _root_.Go.ChangeSpec) : _root_.Go.OpenSpec := { _root_.Go.OpenSpec.ofChange s with cond := some uptoSmall }

/-- 'laws.FnAddGain', WHERE WHAT IT READS IS OF BULK AT MOST 1048576: true; the input reads as it did. -/
def fnAddGainUptoRow : OpenClaim := { program := "ytpcfnlffamgdaab", sum := "4abfda279bb305c45b5490f065d456214a1c3749097111c13a7905306140e4b1", func := "loop.example/integerplanner/laws.FnAddGain", spec := "fnAddGain", apart := false, narrowed := true }
def FnAddGainUptoSaid : Prop := fnAddGainUptoRow.holds Try.pinned (OpenSpec.upto fnAddGainSpec)

/-- 'laws.FnFractionOf', WHERE WHAT IT READS IS OF BULK AT MOST 1048576: true; the input reads as it did. -/
def fnFractionOfUptoRow : OpenClaim := { program := "ytpcfnlffamgdaab", sum := "4abfda279bb305c45b5490f065d456214a1c3749097111c13a7905306140e4b1", func := "loop.example/integerplanner/laws.FnFractionOf", spec := "fnFractionOf", apart := false, narrowed := true }
def FnFractionOfUptoSaid : Prop := fnFractionOfUptoRow.holds Try.pinned (OpenSpec.upto fnFractionOfSpec)

/-- 'laws.FnBranchScore', WHERE WHAT IT READS IS OF BULK AT MOST 1048576: true; the input reads as it did. -/
def fnBranchScoreUptoRow : OpenClaim := { program := "ytpcfnlffamgdaab", sum := "4abfda279bb305c45b5490f065d456214a1c3749097111c13a7905306140e4b1", func := "loop.example/integerplanner/laws.FnBranchScore", spec := "fnBranchScore", apart := false, narrowed := true }
def FnBranchScoreUptoSaid : Prop := fnBranchScoreUptoRow.holds Try.pinned (OpenSpec.upto fnBranchScoreSpec)

/-- 'laws.FnStartBox', WHERE WHAT IT READS IS OF BULK AT MOST 1048576: true; the input reads as it did. -/
def fnStartBoxUptoRow : OpenClaim := { program := "ytpcfnlffamgdaab", sum := "4abfda279bb305c45b5490f065d456214a1c3749097111c13a7905306140e4b1", func := "loop.example/integerplanner/laws.FnStartBox", spec := "fnStartBox", unfollowed := true, recurses := true, apart := false, narrowed := true }
def FnStartBoxUptoSaid : Prop := fnStartBoxUptoRow.holds Try.pinned (OpenSpec.upto fnStartBoxSpec)

/-- 'laws.FnSearchStart', WHERE WHAT IT READS IS OF BULK AT MOST 1048576: true; the input reads as it did. -/
def fnSearchStartUptoRow : OpenClaim := { program := "ytpcfnlffamgdaab", sum := "4abfda279bb305c45b5490f065d456214a1c3749097111c13a7905306140e4b1", func := "loop.example/integerplanner/laws.FnSearchStart", spec := "fnSearchStart", apart := false, narrowed := true }
def FnSearchStartUptoSaid : Prop := fnSearchStartUptoRow.holds Try.pinned (OpenSpec.upto fnSearchStartSpec)

/-- 'laws.FnCountFeasible', WHERE WHAT IT READS IS OF BULK AT MOST 1048576: true; the input reads as it did. -/
def fnCountFeasibleUptoRow : OpenClaim := { program := "ytpcfnlffamgdaab", sum := "4abfda279bb305c45b5490f065d456214a1c3749097111c13a7905306140e4b1", func := "loop.example/integerplanner/laws.FnCountFeasible", spec := "fnCountFeasible", unfollowed := true, recurses := true, apart := false, narrowed := true }
def FnCountFeasibleUptoSaid : Prop := fnCountFeasibleUptoRow.holds Try.pinned (OpenSpec.upto fnCountFeasibleSpec)

/-- 'laws.FnSolveExact', WHERE WHAT IT READS IS OF BULK AT MOST 1048576: true; the input reads as it did. -/
def fnSolveExactUptoRow : OpenClaim := { program := "ytpcfnlffamgdaab", sum := "4abfda279bb305c45b5490f065d456214a1c3749097111c13a7905306140e4b1", func := "loop.example/integerplanner/laws.FnSolveExact", spec := "fnSolveExact", unfollowed := true, recurses := true, apart := false, narrowed := true }
def FnSolveExactUptoSaid : Prop := fnSolveExactUptoRow.holds Try.pinned (OpenSpec.upto fnSolveExactSpec)

/-- 'laws.FnFeasible', WHERE WHAT IT READS IS OF BULK AT MOST 1048576: true; the input reads as it did. -/
def fnFeasibleUptoRow : OpenClaim := { program := "ytpcfnlffamgdaab", sum := "4abfda279bb305c45b5490f065d456214a1c3749097111c13a7905306140e4b1", func := "loop.example/integerplanner/laws.FnFeasible", spec := "fnFeasible", apart := false, narrowed := true }
def FnFeasibleUptoSaid : Prop := fnFeasibleUptoRow.holds Try.pinned (OpenSpec.upto fnFeasibleSpec)

/-- 'laws.FnFeasibleRows', WHERE WHAT IT READS IS OF BULK AT MOST 1048576: true; the input reads as it did. -/
def fnFeasibleRowsUptoRow : OpenClaim := { program := "ytpcfnlffamgdaab", sum := "4abfda279bb305c45b5490f065d456214a1c3749097111c13a7905306140e4b1", func := "loop.example/integerplanner/laws.FnFeasibleRows", spec := "fnFeasibleRows", apart := false, narrowed := true }
def FnFeasibleRowsUptoSaid : Prop := fnFeasibleRowsUptoRow.holds Try.pinned (OpenSpec.upto fnFeasibleRowsSpec)

/-- 'laws.FnCostOf', WHERE WHAT IT READS IS OF BULK AT MOST 1048576: true; the input reads as it did. -/
def fnCostOfUptoRow : OpenClaim := { program := "ytpcfnlffamgdaab", sum := "4abfda279bb305c45b5490f065d456214a1c3749097111c13a7905306140e4b1", func := "loop.example/integerplanner/laws.FnCostOf", spec := "fnCostOf", apart := false, narrowed := true }
def FnCostOfUptoSaid : Prop := fnCostOfUptoRow.holds Try.pinned (OpenSpec.upto fnCostOfSpec)

/-- 'laws.FnViolated', WHERE WHAT IT READS IS OF BULK AT MOST 1048576: true; the input reads as it did. -/
def fnViolatedUptoRow : OpenClaim := { program := "ytpcfnlffamgdaab", sum := "4abfda279bb305c45b5490f065d456214a1c3749097111c13a7905306140e4b1", func := "loop.example/integerplanner/laws.FnViolated", spec := "fnViolated", apart := false, narrowed := true }
def FnViolatedUptoSaid : Prop := fnViolatedUptoRow.holds Try.pinned (OpenSpec.upto fnViolatedSpec)

/-- 'laws.FnBaseCost', WHERE WHAT IT READS IS OF BULK AT MOST 1048576: true; the input reads as it did. -/
def fnBaseCostUptoRow : OpenClaim := { program := "ytpcfnlffamgdaab", sum := "4abfda279bb305c45b5490f065d456214a1c3749097111c13a7905306140e4b1", func := "loop.example/integerplanner/laws.FnBaseCost", spec := "fnBaseCost", unfollowed := true, recurses := true, apart := false, narrowed := true }
def FnBaseCostUptoSaid : Prop := fnBaseCostUptoRow.holds Try.pinned (OpenSpec.upto fnBaseCostSpec)

end Rows
end Go.Proofs.Ytpcfnlffamgdaab
