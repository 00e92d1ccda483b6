/-
  No cell of these rows narrows 'for every input' (looked for: loops, veiled, ifaces, maps, wideKeys, modest, calm, conditions, laid).
  DERIVED. THE GIVEN ROWS OF THIS SEAT. 6 by the template 'for every input the law returns true; each argument reads behind the call as it read before'; 0 by the template 'total and deterministic' (their statements: YtangfmmjpomlgaaTotals.lean).
  GIVEN WITH THE SEED: the statements are not yours to turn. If you find one false, say at which input.
  Laid BY PROGRAM, IN A SANDBOX (cutbox-rows.mjs): the forced cells as the released guide's own fill.sh prints them over the translation 5f2239c18d23e821… (all of the seat's roots in one cut). By AI agents, Wed Nov 11 2026. No macro, syntax, notation, axiom, sorry.
-/
import Derived.Test.YtangfmmjpomlgaaChecked
import GoSem.Claim
import GoSem.ClaimJoined
import GoSem.ClaimMapViews
import Derived.JoinedTies
import Derived.KernelRfl
namespace Go.Proofs.Ytangfmmjpomlgaa
/- THE CELL 'sum', in the pinned program and in every row, IS THE sha256 OF THE DUMP (.gsa) THAT YtangfmmjpomlgaaProg.lean LOADS. Nothing in Lean hashes anything: it is a label: what it is worth is what the hold of that sum in a sandbox is worth. -/
noncomputable def Try.pinned : Pinned := { name := "ytangfmmjpomlgaa", sum := "5f2239c18d23e821c3983033e40ee2bc6a7098bec8715ee105499b856be272bf", checked := Try.checked }
namespace Rows
def none {H : Type} : Left H := { results := [], args := [] }

/-- 'laws.FnSolveExactFirst': WHATEVER THE INPUT: true; the input reads as it did. -/
def fnSolveExactFirstSpec : ChangeSpec := { name := "fnSolveExactFirst", fn := fun _ => fun
  | [d] => { results := [.lit (.bool true)], args := [d] }
  | _ => none }
def fnSolveExactFirstRow : OpenClaim := { program := "ytangfmmjpomlgaa", sum := "5f2239c18d23e821c3983033e40ee2bc6a7098bec8715ee105499b856be272bf", func := "loop.example/integerplanner/laws.FnSolveExactFirst", spec := "fnSolveExactFirst", unfollowed := true, recurses := true, apart := false }
def FnSolveExactFirstSaid : Prop := fnSolveExactFirstRow.holds Try.pinned (OpenSpec.ofChange fnSolveExactFirstSpec)

/-- ITS FALSE NEIGHBOUR: 'it returns false'. Refute it at one input. -/
def fnSolveExactFirstWrong : ChangeSpec := { name := "fnSolveExactFirst", fn := fun _ => fun
  | [d] => { results := [.lit (.bool false)], args := [d] }
  | _ => none }
def FnSolveExactFirstWrongFalsely : Prop := fnSolveExactFirstRow.holds Try.pinned (OpenSpec.ofChange fnSolveExactFirstWrong)

/-- 'laws.FnSolveExactRows': WHATEVER THE INPUT: true; the input reads as it did. -/
def fnSolveExactRowsSpec : ChangeSpec := { name := "fnSolveExactRows", fn := fun _ => fun
  | [d] => { results := [.lit (.bool true)], args := [d] }
  | _ => none }
def fnSolveExactRowsRow : OpenClaim := { program := "ytangfmmjpomlgaa", sum := "5f2239c18d23e821c3983033e40ee2bc6a7098bec8715ee105499b856be272bf", func := "loop.example/integerplanner/laws.FnSolveExactRows", spec := "fnSolveExactRows", unfollowed := true, recurses := true, apart := false }
def FnSolveExactRowsSaid : Prop := fnSolveExactRowsRow.holds Try.pinned (OpenSpec.ofChange fnSolveExactRowsSpec)

/-- ITS FALSE NEIGHBOUR: 'it returns false'. Refute it at one input. -/
def fnSolveExactRowsWrong : ChangeSpec := { name := "fnSolveExactRows", fn := fun _ => fun
  | [d] => { results := [.lit (.bool false)], args := [d] }
  | _ => none }
def FnSolveExactRowsWrongFalsely : Prop := fnSolveExactRowsRow.holds Try.pinned (OpenSpec.ofChange fnSolveExactRowsWrong)

/-- 'laws.FnCountBest': WHATEVER THE INPUT: true; the input reads as it did. -/
def fnCountBestSpec : ChangeSpec := { name := "fnCountBest", fn := fun _ => fun
  | [d] => { results := [.lit (.bool true)], args := [d] }
  | _ => none }
def fnCountBestRow : OpenClaim := { program := "ytangfmmjpomlgaa", sum := "5f2239c18d23e821c3983033e40ee2bc6a7098bec8715ee105499b856be272bf", func := "loop.example/integerplanner/laws.FnCountBest", spec := "fnCountBest", unfollowed := true, recurses := true, apart := false }
def FnCountBestSaid : Prop := fnCountBestRow.holds Try.pinned (OpenSpec.ofChange fnCountBestSpec)

/-- ITS FALSE NEIGHBOUR: 'it returns false'. Refute it at one input. -/
def fnCountBestWrong : ChangeSpec := { name := "fnCountBest", fn := fun _ => fun
  | [d] => { results := [.lit (.bool false)], args := [d] }
  | _ => none }
def FnCountBestWrongFalsely : Prop := fnCountBestRow.holds Try.pinned (OpenSpec.ofChange fnCountBestWrong)

/-- 'laws.FnCountFeasibleSplit': WHATEVER THE INPUT: true; the input reads as it did. -/
def fnCountFeasibleSplitSpec : ChangeSpec := { name := "fnCountFeasibleSplit", fn := fun _ => fun
  | [d] => { results := [.lit (.bool true)], args := [d] }
  | _ => none }
def fnCountFeasibleSplitRow : OpenClaim := { program := "ytangfmmjpomlgaa", sum := "5f2239c18d23e821c3983033e40ee2bc6a7098bec8715ee105499b856be272bf", func := "loop.example/integerplanner/laws.FnCountFeasibleSplit", spec := "fnCountFeasibleSplit", unfollowed := true, recurses := true, apart := false }
def FnCountFeasibleSplitSaid : Prop := fnCountFeasibleSplitRow.holds Try.pinned (OpenSpec.ofChange fnCountFeasibleSplitSpec)

/-- ITS FALSE NEIGHBOUR: 'it returns false'. Refute it at one input. -/
def fnCountFeasibleSplitWrong : ChangeSpec := { name := "fnCountFeasibleSplit", fn := fun _ => fun
  | [d] => { results := [.lit (.bool false)], args := [d] }
  | _ => none }
def FnCountFeasibleSplitWrongFalsely : Prop := fnCountFeasibleSplitRow.holds Try.pinned (OpenSpec.ofChange fnCountFeasibleSplitWrong)

/-- 'laws.FnValidBox': WHATEVER THE INPUT: true; the input reads as it did. -/
def fnValidBoxSpec : ChangeSpec := { name := "fnValidBox", fn := fun _ => fun
  | [d] => { results := [.lit (.bool true)], args := [d] }
  | _ => none }
def fnValidBoxRow : OpenClaim := { program := "ytangfmmjpomlgaa", sum := "5f2239c18d23e821c3983033e40ee2bc6a7098bec8715ee105499b856be272bf", func := "loop.example/integerplanner/laws.FnValidBox", spec := "fnValidBox", apart := false }
def FnValidBoxSaid : Prop := fnValidBoxRow.holds Try.pinned (OpenSpec.ofChange fnValidBoxSpec)

/-- ITS FALSE NEIGHBOUR: 'it returns false'. Refute it at one input. -/
def fnValidBoxWrong : ChangeSpec := { name := "fnValidBox", fn := fun _ => fun
  | [d] => { results := [.lit (.bool false)], args := [d] }
  | _ => none }
def FnValidBoxWrongFalsely : Prop := fnValidBoxRow.holds Try.pinned (OpenSpec.ofChange fnValidBoxWrong)

/-- 'laws.FnRowRange': WHATEVER THE INPUT: true; the input reads as it did. -/
def fnRowRangeSpec : ChangeSpec := { name := "fnRowRange", fn := fun _ => fun
  | [d] => { results := [.lit (.bool true)], args := [d] }
  | _ => none }
def fnRowRangeRow : OpenClaim := { program := "ytangfmmjpomlgaa", sum := "5f2239c18d23e821c3983033e40ee2bc6a7098bec8715ee105499b856be272bf", func := "loop.example/integerplanner/laws.FnRowRange", spec := "fnRowRange", apart := false }
def FnRowRangeSaid : Prop := fnRowRangeRow.holds Try.pinned (OpenSpec.ofChange fnRowRangeSpec)

/-- ITS FALSE NEIGHBOUR: 'it returns false'. Refute it at one input. -/
def fnRowRangeWrong : ChangeSpec := { name := "fnRowRange", fn := fun _ => fun
  | [d] => { results := [.lit (.bool false)], args := [d] }
  | _ => none }
def FnRowRangeWrongFalsely : Prop := fnRowRangeRow.holds Try.pinned (OpenSpec.ofChange fnRowRangeWrong)

/- THE SECOND FORM. 'bulk': how many values and letters a reading holds, each counted each time it is reached (what is shared counts as often as it is met; a slice's spare places count too). A statement '..UptoSaid' is the law's where the arguments, and the package variables that the reading takes, are together of bulk at most 1048576: NARROWER than '..Said'. Prove '..Said' where nothing that the law and all that it calls make is longer than what came in: it says more and counts as full. Else prove '..UptoSaid'. A law counts once. -/
mutual
def uptoBulk {H : Type} : DataW H → Nat
  | .lit (.string bytes) => bytes.length + 1
  | .lit _ => 1
  | .nil => 1
  | .ptr d => uptoBulk d + 1
  | .slice elems spare => uptoBulkAll elems + uptoBulkAll spare + 1
  | .agg parts => uptoBulkAll parts + 1
  | .iface _ d => uptoBulk d + 1
  | .map entries => uptoBulkEntries entries + 1
  | .held _ => 1
def uptoBulkAll {H : Type} : List (DataW H) → Nat
  | [] => 0
  | d :: r => uptoBulk d + uptoBulkAll r
def uptoBulkEntries {H : Type} : List (Lit × DataW H) → Nat
  | [] => 0
  | x :: r => uptoBulkEntry x + uptoBulkEntries r
def uptoBulkEntry {H : Type} : Lit × DataW H → Nat
  | (.string bytes, d) => bytes.length + uptoBulk d + 1
  | (_, d) => uptoBulk d + 1
 end
def uptoSmall : (H : Type) → List (DataW H) → Bool := fun _ ds => decide (uptoBulkAll ds ≤ 1048576)
def OpenSpec.upto (s : _root_.Go.ChangeSpec) : _root_.Go.OpenSpec := { _root_.Go.OpenSpec.ofChange s with cond := some uptoSmall }

/-- 'laws.FnSolveExactFirst', WHERE WHAT IT READS IS OF BULK AT MOST 1048576: true; the input reads as it did. -/
def fnSolveExactFirstUptoRow : OpenClaim := { program := "ytangfmmjpomlgaa", sum := "5f2239c18d23e821c3983033e40ee2bc6a7098bec8715ee105499b856be272bf", func := "loop.example/integerplanner/laws.FnSolveExactFirst", spec := "fnSolveExactFirst", unfollowed := true, recurses := true, apart := false, narrowed := true }
def FnSolveExactFirstUptoSaid : Prop := fnSolveExactFirstUptoRow.holds Try.pinned (OpenSpec.upto fnSolveExactFirstSpec)

/-- 'laws.FnSolveExactRows', WHERE WHAT IT READS IS OF BULK AT MOST 1048576: true; the input reads as it did. -/
def fnSolveExactRowsUptoRow : OpenClaim := { program := "ytangfmmjpomlgaa", sum := "5f2239c18d23e821c3983033e40ee2bc6a7098bec8715ee105499b856be272bf", func := "loop.example/integerplanner/laws.FnSolveExactRows", spec := "fnSolveExactRows", unfollowed := true, recurses := true, apart := false, narrowed := true }
def FnSolveExactRowsUptoSaid : Prop := fnSolveExactRowsUptoRow.holds Try.pinned (OpenSpec.upto fnSolveExactRowsSpec)

/-- 'laws.FnCountBest', WHERE WHAT IT READS IS OF BULK AT MOST 1048576: true; the input reads as it did. -/
def fnCountBestUptoRow : OpenClaim := { program := "ytangfmmjpomlgaa", sum := "5f2239c18d23e821c3983033e40ee2bc6a7098bec8715ee105499b856be272bf", func := "loop.example/integerplanner/laws.FnCountBest", spec := "fnCountBest", unfollowed := true, recurses := true, apart := false, narrowed := true }
def FnCountBestUptoSaid : Prop := fnCountBestUptoRow.holds Try.pinned (OpenSpec.upto fnCountBestSpec)

/-- 'laws.FnCountFeasibleSplit', WHERE WHAT IT READS IS OF BULK AT MOST 1048576: true; the input reads as it did. -/
def fnCountFeasibleSplitUptoRow : OpenClaim := { program := "ytangfmmjpomlgaa", sum := "5f2239c18d23e821c3983033e40ee2bc6a7098bec8715ee105499b856be272bf", func := "loop.example/integerplanner/laws.FnCountFeasibleSplit", spec := "fnCountFeasibleSplit", unfollowed := true, recurses := true, apart := false, narrowed := true }
def FnCountFeasibleSplitUptoSaid : Prop := fnCountFeasibleSplitUptoRow.holds Try.pinned (OpenSpec.upto fnCountFeasibleSplitSpec)

/-- 'laws.FnValidBox', WHERE WHAT IT READS IS OF BULK AT MOST 1048576: true; the input reads as it did. -/
def fnValidBoxUptoRow : OpenClaim := { program := "ytangfmmjpomlgaa", sum := "5f2239c18d23e821c3983033e40ee2bc6a7098bec8715ee105499b856be272bf", func := "loop.example/integerplanner/laws.FnValidBox", spec := "fnValidBox", apart := false, narrowed := true }
def FnValidBoxUptoSaid : Prop := fnValidBoxUptoRow.holds Try.pinned (OpenSpec.upto fnValidBoxSpec)

/-- 'laws.FnRowRange', WHERE WHAT IT READS IS OF BULK AT MOST 1048576: true; the input reads as it did. -/
def fnRowRangeUptoRow : OpenClaim := { program := "ytangfmmjpomlgaa", sum := "5f2239c18d23e821c3983033e40ee2bc6a7098bec8715ee105499b856be272bf", func := "loop.example/integerplanner/laws.FnRowRange", spec := "fnRowRange", apart := false, narrowed := true }
def FnRowRangeUptoSaid : Prop := fnRowRangeUptoRow.holds Try.pinned (OpenSpec.upto fnRowRangeSpec)

end Rows
end Go.Proofs.Ytangfmmjpomlgaa
