/-
  No cell of these rows narrows 'for every input' (looked for: loops, veiled, ifaces, maps, wideKeys, modest, calm, conditions, laid).
  DERIVED. THE GIVEN ROWS OF THIS SEAT. 11 by the template 'for every input the law returns true; each argument reads behind the call as it read before'; 0 by the template 'total and deterministic' (their statements: YtpcfnlffamgdaaaTotals.lean).
  GIVEN WITH THE SEED: the statements are not yours to turn. If you find one false, say at which input.
  Laid BY PROGRAM, IN A SANDBOX (cutbox-rows.mjs): the forced cells as the released guide's own fill.sh prints them over the translation 9b1a68797901f3b1… (all of the seat's roots in one cut). By AI agents, Wed Nov 11 2026. No macro, syntax, notation, axiom, sorry.
-/
import Derived.Test.YtpcfnlffamgdaaaChecked
import GoSem.Claim
import GoSem.ClaimJoined
import GoSem.ClaimMapViews
import Derived.JoinedTies
import Derived.KernelRfl
namespace Go.Proofs.Ytpcfnlffamgdaaa
/- THE CELL 'sum', in the pinned program and in every row, IS THE sha256 OF THE DUMP (.gsa) THAT YtpcfnlffamgdaaaProg.lean LOADS. Nothing in Lean hashes anything: it is a label: what it is worth is what the hold of that sum in a sandbox is worth. -/
noncomputable def Try.pinned : Pinned := { name := "ytpcfnlffamgdaaa", sum := "9b1a68797901f3b112180bcb2b71b07dca5ec139c423d567f32cfc36596ac0d0", checked := Try.checked }
namespace Rows
def none {H : Type} : Left H := { results := [], args := [] }

/-- 'laws.FnExactAddGain': WHATEVER THE INPUT: true; the input reads as it did. -/
def fnExactAddGainSpec : ChangeSpec := { name := "fnExactAddGain", fn := fun _ => fun
  | [d1, d2, d3] => { results := [.lit (.bool true)], args := [d1, d2, d3] }
  | _ => none }
def fnExactAddGainRow : OpenClaim := { program := "ytpcfnlffamgdaaa", sum := "9b1a68797901f3b112180bcb2b71b07dca5ec139c423d567f32cfc36596ac0d0", func := "loop.example/integerplanner/laws.FnExactAddGain", spec := "fnExactAddGain", apart := false }
def FnExactAddGainSaid : Prop := fnExactAddGainRow.holds Try.pinned (OpenSpec.ofChange fnExactAddGainSpec)

/-- ITS FALSE NEIGHBOUR: 'it returns false'. Refute it at one input. -/
def fnExactAddGainWrong : ChangeSpec := { name := "fnExactAddGain", fn := fun _ => fun
  | [d1, d2, d3] => { results := [.lit (.bool false)], args := [d1, d2, d3] }
  | _ => none }
def FnExactAddGainWrongFalsely : Prop := fnExactAddGainRow.holds Try.pinned (OpenSpec.ofChange fnExactAddGainWrong)

/-- 'laws.FnExactFractionOf': WHATEVER THE INPUT: true; the input reads as it did. -/
def fnExactFractionOfSpec : ChangeSpec := { name := "fnExactFractionOf", fn := fun _ => fun
  | [d] => { results := [.lit (.bool true)], args := [d] }
  | _ => none }
def fnExactFractionOfRow : OpenClaim := { program := "ytpcfnlffamgdaaa", sum := "9b1a68797901f3b112180bcb2b71b07dca5ec139c423d567f32cfc36596ac0d0", func := "loop.example/integerplanner/laws.FnExactFractionOf", spec := "fnExactFractionOf", apart := false }
def FnExactFractionOfSaid : Prop := fnExactFractionOfRow.holds Try.pinned (OpenSpec.ofChange fnExactFractionOfSpec)

/-- ITS FALSE NEIGHBOUR: 'it returns false'. Refute it at one input. -/
def fnExactFractionOfWrong : ChangeSpec := { name := "fnExactFractionOf", fn := fun _ => fun
  | [d] => { results := [.lit (.bool false)], args := [d] }
  | _ => none }
def FnExactFractionOfWrongFalsely : Prop := fnExactFractionOfRow.holds Try.pinned (OpenSpec.ofChange fnExactFractionOfWrong)

/-- 'laws.FnExactBranchScore': WHATEVER THE INPUT: true; the input reads as it did. -/
def fnExactBranchScoreSpec : ChangeSpec := { name := "fnExactBranchScore", fn := fun _ => fun
  | [d1, d2] => { results := [.lit (.bool true)], args := [d1, d2] }
  | _ => none }
def fnExactBranchScoreRow : OpenClaim := { program := "ytpcfnlffamgdaaa", sum := "9b1a68797901f3b112180bcb2b71b07dca5ec139c423d567f32cfc36596ac0d0", func := "loop.example/integerplanner/laws.FnExactBranchScore", spec := "fnExactBranchScore", apart := false }
def FnExactBranchScoreSaid : Prop := fnExactBranchScoreRow.holds Try.pinned (OpenSpec.ofChange fnExactBranchScoreSpec)

/-- ITS FALSE NEIGHBOUR: 'it returns false'. Refute it at one input. -/
def fnExactBranchScoreWrong : ChangeSpec := { name := "fnExactBranchScore", fn := fun _ => fun
  | [d1, d2] => { results := [.lit (.bool false)], args := [d1, d2] }
  | _ => none }
def FnExactBranchScoreWrongFalsely : Prop := fnExactBranchScoreRow.holds Try.pinned (OpenSpec.ofChange fnExactBranchScoreWrong)

/-- 'laws.FnExactMostFractional': WHATEVER THE INPUT: true; the input reads as it did. -/
def fnExactMostFractionalSpec : ChangeSpec := { name := "fnExactMostFractional", fn := fun _ => fun
  | [d] => { results := [.lit (.bool true)], args := [d] }
  | _ => none }
def fnExactMostFractionalRow : OpenClaim := { program := "ytpcfnlffamgdaaa", sum := "9b1a68797901f3b112180bcb2b71b07dca5ec139c423d567f32cfc36596ac0d0", func := "loop.example/integerplanner/laws.FnExactMostFractional", spec := "fnExactMostFractional", unfollowed := true, recurses := true, apart := false }
def FnExactMostFractionalSaid : Prop := fnExactMostFractionalRow.holds Try.pinned (OpenSpec.ofChange fnExactMostFractionalSpec)

/-- ITS FALSE NEIGHBOUR: 'it returns false'. Refute it at one input. -/
def fnExactMostFractionalWrong : ChangeSpec := { name := "fnExactMostFractional", fn := fun _ => fun
  | [d] => { results := [.lit (.bool false)], args := [d] }
  | _ => none }
def FnExactMostFractionalWrongFalsely : Prop := fnExactMostFractionalRow.holds Try.pinned (OpenSpec.ofChange fnExactMostFractionalWrong)

/-- 'laws.FnExactChooseBranch': WHATEVER THE INPUT: true; the input reads as it did. -/
def fnExactChooseBranchSpec : ChangeSpec := { name := "fnExactChooseBranch", fn := fun _ => fun
  | [d1, d2] => { results := [.lit (.bool true)], args := [d1, d2] }
  | _ => none }
def fnExactChooseBranchRow : OpenClaim := { program := "ytpcfnlffamgdaaa", sum := "9b1a68797901f3b112180bcb2b71b07dca5ec139c423d567f32cfc36596ac0d0", func := "loop.example/integerplanner/laws.FnExactChooseBranch", spec := "fnExactChooseBranch", unfollowed := true, recurses := true, apart := false }
def FnExactChooseBranchSaid : Prop := fnExactChooseBranchRow.holds Try.pinned (OpenSpec.ofChange fnExactChooseBranchSpec)

/-- ITS FALSE NEIGHBOUR: 'it returns false'. Refute it at one input. -/
def fnExactChooseBranchWrong : ChangeSpec := { name := "fnExactChooseBranch", fn := fun _ => fun
  | [d1, d2] => { results := [.lit (.bool false)], args := [d1, d2] }
  | _ => none }
def FnExactChooseBranchWrongFalsely : Prop := fnExactChooseBranchRow.holds Try.pinned (OpenSpec.ofChange fnExactChooseBranchWrong)

/-- 'laws.FnExactCountFeasible': WHATEVER THE INPUT: true; the input reads as it did. -/
def fnExactCountFeasibleSpec : ChangeSpec := { name := "fnExactCountFeasible", fn := fun _ => fun
  | [d] => { results := [.lit (.bool true)], args := [d] }
  | _ => none }
def fnExactCountFeasibleRow : OpenClaim := { program := "ytpcfnlffamgdaaa", sum := "9b1a68797901f3b112180bcb2b71b07dca5ec139c423d567f32cfc36596ac0d0", func := "loop.example/integerplanner/laws.FnExactCountFeasible", spec := "fnExactCountFeasible", unfollowed := true, recurses := true, apart := false }
def FnExactCountFeasibleSaid : Prop := fnExactCountFeasibleRow.holds Try.pinned (OpenSpec.ofChange fnExactCountFeasibleSpec)

/-- ITS FALSE NEIGHBOUR: 'it returns false'. Refute it at one input. -/
def fnExactCountFeasibleWrong : ChangeSpec := { name := "fnExactCountFeasible", fn := fun _ => fun
  | [d] => { results := [.lit (.bool false)], args := [d] }
  | _ => none }
def FnExactCountFeasibleWrongFalsely : Prop := fnExactCountFeasibleRow.holds Try.pinned (OpenSpec.ofChange fnExactCountFeasibleWrong)

/-- 'laws.FnExactSolveExact': WHATEVER THE INPUT: true; the input reads as it did. -/
def fnExactSolveExactSpec : ChangeSpec := { name := "fnExactSolveExact", fn := fun _ => fun
  | [d] => { results := [.lit (.bool true)], args := [d] }
  | _ => none }
def fnExactSolveExactRow : OpenClaim := { program := "ytpcfnlffamgdaaa", sum := "9b1a68797901f3b112180bcb2b71b07dca5ec139c423d567f32cfc36596ac0d0", func := "loop.example/integerplanner/laws.FnExactSolveExact", spec := "fnExactSolveExact", unfollowed := true, recurses := true, apart := false }
def FnExactSolveExactSaid : Prop := fnExactSolveExactRow.holds Try.pinned (OpenSpec.ofChange fnExactSolveExactSpec)

/-- ITS FALSE NEIGHBOUR: 'it returns false'. Refute it at one input. -/
def fnExactSolveExactWrong : ChangeSpec := { name := "fnExactSolveExact", fn := fun _ => fun
  | [d] => { results := [.lit (.bool false)], args := [d] }
  | _ => none }
def FnExactSolveExactWrongFalsely : Prop := fnExactSolveExactRow.holds Try.pinned (OpenSpec.ofChange fnExactSolveExactWrong)

/-- 'laws.FnExactCountBest': WHATEVER THE INPUT: true; the input reads as it did. -/
def fnExactCountBestSpec : ChangeSpec := { name := "fnExactCountBest", fn := fun _ => fun
  | [d] => { results := [.lit (.bool true)], args := [d] }
  | _ => none }
def fnExactCountBestRow : OpenClaim := { program := "ytpcfnlffamgdaaa", sum := "9b1a68797901f3b112180bcb2b71b07dca5ec139c423d567f32cfc36596ac0d0", func := "loop.example/integerplanner/laws.FnExactCountBest", spec := "fnExactCountBest", unfollowed := true, recurses := true, apart := false }
def FnExactCountBestSaid : Prop := fnExactCountBestRow.holds Try.pinned (OpenSpec.ofChange fnExactCountBestSpec)

/-- ITS FALSE NEIGHBOUR: 'it returns false'. Refute it at one input. -/
def fnExactCountBestWrong : ChangeSpec := { name := "fnExactCountBest", fn := fun _ => fun
  | [d] => { results := [.lit (.bool false)], args := [d] }
  | _ => none }
def FnExactCountBestWrongFalsely : Prop := fnExactCountBestRow.holds Try.pinned (OpenSpec.ofChange fnExactCountBestWrong)

/-- 'laws.FnExactCauseOk': WHATEVER THE INPUT: true; the input reads as it did. -/
def fnExactCauseOkSpec : ChangeSpec := { name := "fnExactCauseOk", fn := fun _ => fun
  | [d1, d2] => { results := [.lit (.bool true)], args := [d1, d2] }
  | _ => none }
def fnExactCauseOkRow : OpenClaim := { program := "ytpcfnlffamgdaaa", sum := "9b1a68797901f3b112180bcb2b71b07dca5ec139c423d567f32cfc36596ac0d0", func := "loop.example/integerplanner/laws.FnExactCauseOk", spec := "fnExactCauseOk", unfollowed := true, recurses := true, apart := false }
def FnExactCauseOkSaid : Prop := fnExactCauseOkRow.holds Try.pinned (OpenSpec.ofChange fnExactCauseOkSpec)

/-- ITS FALSE NEIGHBOUR: 'it returns false'. Refute it at one input. -/
def fnExactCauseOkWrong : ChangeSpec := { name := "fnExactCauseOk", fn := fun _ => fun
  | [d1, d2] => { results := [.lit (.bool false)], args := [d1, d2] }
  | _ => none }
def FnExactCauseOkWrongFalsely : Prop := fnExactCauseOkRow.holds Try.pinned (OpenSpec.ofChange fnExactCauseOkWrong)

/-- 'laws.FnExactValidSearch': WHATEVER THE INPUT: true; the input reads as it did. -/
def fnExactValidSearchSpec : ChangeSpec := { name := "fnExactValidSearch", fn := fun _ => fun
  | [d1, d2] => { results := [.lit (.bool true)], args := [d1, d2] }
  | _ => none }
def fnExactValidSearchRow : OpenClaim := { program := "ytpcfnlffamgdaaa", sum := "9b1a68797901f3b112180bcb2b71b07dca5ec139c423d567f32cfc36596ac0d0", func := "loop.example/integerplanner/laws.FnExactValidSearch", spec := "fnExactValidSearch", apart := false }
def FnExactValidSearchSaid : Prop := fnExactValidSearchRow.holds Try.pinned (OpenSpec.ofChange fnExactValidSearchSpec)

/-- ITS FALSE NEIGHBOUR: 'it returns false'. Refute it at one input. -/
def fnExactValidSearchWrong : ChangeSpec := { name := "fnExactValidSearch", fn := fun _ => fun
  | [d1, d2] => { results := [.lit (.bool false)], args := [d1, d2] }
  | _ => none }
def FnExactValidSearchWrongFalsely : Prop := fnExactValidSearchRow.holds Try.pinned (OpenSpec.ofChange fnExactValidSearchWrong)

/-- 'laws.FnExactSearchStart': WHATEVER THE INPUT: true; the input reads as it did. -/
def fnExactSearchStartSpec : ChangeSpec := { name := "fnExactSearchStart", fn := fun _ => fun
  | [d] => { results := [.lit (.bool true)], args := [d] }
  | _ => none }
def fnExactSearchStartRow : OpenClaim := { program := "ytpcfnlffamgdaaa", sum := "9b1a68797901f3b112180bcb2b71b07dca5ec139c423d567f32cfc36596ac0d0", func := "loop.example/integerplanner/laws.FnExactSearchStart", spec := "fnExactSearchStart", apart := false }
def FnExactSearchStartSaid : Prop := fnExactSearchStartRow.holds Try.pinned (OpenSpec.ofChange fnExactSearchStartSpec)

/-- ITS FALSE NEIGHBOUR: 'it returns false'. Refute it at one input. -/
def fnExactSearchStartWrong : ChangeSpec := { name := "fnExactSearchStart", fn := fun _ => fun
  | [d] => { results := [.lit (.bool false)], args := [d] }
  | _ => none }
def FnExactSearchStartWrongFalsely : Prop := fnExactSearchStartRow.holds Try.pinned (OpenSpec.ofChange fnExactSearchStartWrong)

/- THE SECOND FORM. 'bulk': how many values and letters a reading holds, each counted each time it is reached (what is shared counts as often as it is met; a slice's spare places count too). A statement '..UptoSaid' is the law's where the arguments, and the package variables that the reading takes, are together of bulk at most 1048576: NARROWER than '..Said'. Prove '..Said' where nothing that the law and all that it calls make is longer than what came in: it says more and counts as full. Else prove '..UptoSaid'. A law counts once. -/
mutual
def uptoBulk {H : Type} : DataW H → Nat
  | .lit (.string bytes) => bytes.length + 1
  | .lit _ => 1
  | .nil => 1
  | .ptr d => uptoBulk d + 1
  | .slice elems spare => uptoBulkAll elems + uptoBulkAll spare + 1
  | .agg parts => uptoBulkAll parts + 1
  | .iface _ d => uptoBulk d + 1
  | .map entries => uptoBulkEntries entries + 1
  | .held _ => 1
def uptoBulkAll {H : Type} : List (DataW H) → Nat
  | [] => 0
  | d :: r => uptoBulk d + uptoBulkAll r
def uptoBulkEntries {H : Type} : List (Lit × DataW H) → Nat
  | [] => 0
  | x :: r => uptoBulkEntry x + uptoBulkEntries r
def uptoBulkEntry {H : Type} : Lit × DataW H → Nat
  | (.string bytes, d) => bytes.length + uptoBulk d + 1
  | (_, d) => uptoBulk d + 1
 end
def uptoSmall : (H : Type) → List (DataW H) → Bool := fun _ ds => decide (uptoBulkAll ds ≤ 1048576)
def OpenSpec.upto (s : _root_.Go.ChangeSpec) : _root_.Go.OpenSpec := { _root_.Go.OpenSpec.ofChange s with cond := some uptoSmall }

/-- 'laws.FnExactAddGain', WHERE WHAT IT READS IS OF BULK AT MOST 1048576: true; the input reads as it did. -/
def fnExactAddGainUptoRow : OpenClaim := { program := "ytpcfnlffamgdaaa", sum := "9b1a68797901f3b112180bcb2b71b07dca5ec139c423d567f32cfc36596ac0d0", func := "loop.example/integerplanner/laws.FnExactAddGain", spec := "fnExactAddGain", apart := false, narrowed := true }
def FnExactAddGainUptoSaid : Prop := fnExactAddGainUptoRow.holds Try.pinned (OpenSpec.upto fnExactAddGainSpec)

/-- 'laws.FnExactFractionOf', WHERE WHAT IT READS IS OF BULK AT MOST 1048576: true; the input reads as it did. -/
def fnExactFractionOfUptoRow : OpenClaim := { program := "ytpcfnlffamgdaaa", sum := "9b1a68797901f3b112180bcb2b71b07dca5ec139c423d567f32cfc36596ac0d0", func := "loop.example/integerplanner/laws.FnExactFractionOf", spec := "fnExactFractionOf", apart := false, narrowed := true }
def FnExactFractionOfUptoSaid : Prop := fnExactFractionOfUptoRow.holds Try.pinned (OpenSpec.upto fnExactFractionOfSpec)

/-- 'laws.FnExactBranchScore', WHERE WHAT IT READS IS OF BULK AT MOST 1048576: true; the input reads as it did. -/
def fnExactBranchScoreUptoRow : OpenClaim := { program := "ytpcfnlffamgdaaa", sum := "9b1a68797901f3b112180bcb2b71b07dca5ec139c423d567f32cfc36596ac0d0", func := "loop.example/integerplanner/laws.FnExactBranchScore", spec := "fnExactBranchScore", apart := false, narrowed := true }
def FnExactBranchScoreUptoSaid : Prop := fnExactBranchScoreUptoRow.holds Try.pinned (OpenSpec.upto fnExactBranchScoreSpec)

/-- 'laws.FnExactMostFractional', WHERE WHAT IT READS IS OF BULK AT MOST 1048576: true; the input reads as it did. -/
def fnExactMostFractionalUptoRow : OpenClaim := { program := "ytpcfnlffamgdaaa", sum := "9b1a68797901f3b112180bcb2b71b07dca5ec139c423d567f32cfc36596ac0d0", func := "loop.example/integerplanner/laws.FnExactMostFractional", spec := "fnExactMostFractional", unfollowed := true, recurses := true, apart := false, narrowed := true }
def FnExactMostFractionalUptoSaid : Prop := fnExactMostFractionalUptoRow.holds Try.pinned (OpenSpec.upto fnExactMostFractionalSpec)

/-- 'laws.FnExactChooseBranch', WHERE WHAT IT READS IS OF BULK AT MOST 1048576: true; the input reads as it did. -/
def fnExactChooseBranchUptoRow : OpenClaim := { program := "ytpcfnlffamgdaaa", sum := "9b1a68797901f3b112180bcb2b71b07dca5ec139c423d567f32cfc36596ac0d0", func := "loop.example/integerplanner/laws.FnExactChooseBranch", spec := "fnExactChooseBranch", unfollowed := true, recurses := true, apart := false, narrowed := true }
def FnExactChooseBranchUptoSaid : Prop := fnExactChooseBranchUptoRow.holds Try.pinned (OpenSpec.upto fnExactChooseBranchSpec)

/-- 'laws.FnExactCountFeasible', WHERE WHAT IT READS IS OF BULK AT MOST 1048576: true; the input reads as it did. -/
def fnExactCountFeasibleUptoRow : OpenClaim := { program := "ytpcfnlffamgdaaa", sum := "9b1a68797901f3b112180bcb2b71b07dca5ec139c423d567f32cfc36596ac0d0", func := "loop.example/integerplanner/laws.FnExactCountFeasible", spec := "fnExactCountFeasible", unfollowed := true, recurses := true, apart := false, narrowed := true }
def FnExactCountFeasibleUptoSaid : Prop := fnExactCountFeasibleUptoRow.holds Try.pinned (OpenSpec.upto fnExactCountFeasibleSpec)

/-- 'laws.FnExactSolveExact', WHERE WHAT IT READS IS OF BULK AT MOST 1048576: true; the input reads as it did. -/
def fnExactSolveExactUptoRow : OpenClaim := { program := "ytpcfnlffamgdaaa", sum := "9b1a68797901f3b112180bcb2b71b07dca5ec139c423d567f32cfc36596ac0d0", func := "loop.example/integerplanner/laws.FnExactSolveExact", spec := "fnExactSolveExact", unfollowed := true, recurses := true, apart := false, narrowed := true }
def FnExactSolveExactUptoSaid : Prop := fnExactSolveExactUptoRow.holds Try.pinned (OpenSpec.upto fnExactSolveExactSpec)

/-- 'laws.FnExactCountBest', WHERE WHAT IT READS IS OF BULK AT MOST 1048576: true; the input reads as it did. -/
def fnExactCountBestUptoRow : OpenClaim := { program := "ytpcfnlffamgdaaa", sum := "9b1a68797901f3b112180bcb2b71b07dca5ec139c423d567f32cfc36596ac0d0", func := "loop.example/integerplanner/laws.FnExactCountBest", spec := "fnExactCountBest", unfollowed := true, recurses := true, apart := false, narrowed := true }
def FnExactCountBestUptoSaid : Prop := fnExactCountBestUptoRow.holds Try.pinned (OpenSpec.upto fnExactCountBestSpec)

/-- 'laws.FnExactCauseOk', WHERE WHAT IT READS IS OF BULK AT MOST 1048576: true; the input reads as it did. -/
def fnExactCauseOkUptoRow : OpenClaim := { program := "ytpcfnlffamgdaaa", sum := "9b1a68797901f3b112180bcb2b71b07dca5ec139c423d567f32cfc36596ac0d0", func := "loop.example/integerplanner/laws.FnExactCauseOk", spec := "fnExactCauseOk", unfollowed := true, recurses := true, apart := false, narrowed := true }
def FnExactCauseOkUptoSaid : Prop := fnExactCauseOkUptoRow.holds Try.pinned (OpenSpec.upto fnExactCauseOkSpec)

/-- 'laws.FnExactValidSearch', WHERE WHAT IT READS IS OF BULK AT MOST 1048576: true; the input reads as it did. -/
def fnExactValidSearchUptoRow : OpenClaim := { program := "ytpcfnlffamgdaaa", sum := "9b1a68797901f3b112180bcb2b71b07dca5ec139c423d567f32cfc36596ac0d0", func := "loop.example/integerplanner/laws.FnExactValidSearch", spec := "fnExactValidSearch", apart := false, narrowed := true }
def FnExactValidSearchUptoSaid : Prop := fnExactValidSearchUptoRow.holds Try.pinned (OpenSpec.upto fnExactValidSearchSpec)

/-- 'laws.FnExactSearchStart', WHERE WHAT IT READS IS OF BULK AT MOST 1048576: true; the input reads as it did. -/
def fnExactSearchStartUptoRow : OpenClaim := { program := "ytpcfnlffamgdaaa", sum := "9b1a68797901f3b112180bcb2b71b07dca5ec139c423d567f32cfc36596ac0d0", func := "loop.example/integerplanner/laws.FnExactSearchStart", spec := "fnExactSearchStart", apart := false, narrowed := true }
def FnExactSearchStartUptoSaid : Prop := fnExactSearchStartUptoRow.holds Try.pinned (OpenSpec.upto fnExactSearchStartSpec)

end Rows
end Go.Proofs.Ytpcfnlffamgdaaa
