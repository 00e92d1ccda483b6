/-
  No cell of these rows narrows 'for every input' (looked for: loops, veiled, ifaces, maps, wideKeys, modest, calm, conditions, laid).
  DERIVED. THE GIVEN ROWS OF THIS SEAT. 8 by the template 'for every input the law returns true; each argument reads behind the call as it read before'; 0 by the template 'total and deterministic' (their statements: YtfidahpaidkhgabTotals.lean).
  GIVEN WITH THE SEED: the statements are not yours to turn. If you find one false, say at which input.
  Laid BY PROGRAM, IN A SANDBOX (cutbox-rows.mjs): the forced cells as the released guide's own fill.sh prints them over the translation 0418df807378bb8e… (all of the seat's roots in one cut). By AI agents, Wed Nov 11 2026. No macro, syntax, notation, axiom, sorry.
-/
import Derived.Test.YtfidahpaidkhgabChecked
import GoSem.Claim
import GoSem.ClaimJoined
import GoSem.ClaimMapViews
import Derived.JoinedTies
import Derived.KernelRfl
namespace Go.Proofs.Ytfidahpaidkhgab
/- THE CELL 'sum', in the pinned program and in every row, IS THE sha256 OF THE DUMP (.gsa) THAT YtfidahpaidkhgabProg.lean LOADS. Nothing in Lean hashes anything: it is a label: what it is worth is what the hold of that sum in a sandbox is worth. -/
noncomputable def Try.pinned : Pinned := { name := "ytfidahpaidkhgab", sum := "0418df807378bb8ed5e79afbc84be40b8c924f6b5fc9cce0515de10b43bc3736", checked := Try.checked }
namespace Rows
def none {H : Type} : Left H := { results := [], args := [] }

/-- 'laws.FnKnapsackTableItem': WHATEVER THE INPUT: true; the input reads as it did. -/
def fnKnapsackTableItemSpec : ChangeSpec := { name := "fnKnapsackTableItem", fn := fun _ => fun
  | [d] => { results := [.lit (.bool true)], args := [d] }
  | _ => none }
def fnKnapsackTableItemRow : OpenClaim := { program := "ytfidahpaidkhgab", sum := "0418df807378bb8ed5e79afbc84be40b8c924f6b5fc9cce0515de10b43bc3736", func := "loop.example/integerplanner/laws.FnKnapsackTableItem", spec := "fnKnapsackTableItem", apart := false }
def FnKnapsackTableItemSaid : Prop := fnKnapsackTableItemRow.holds Try.pinned (OpenSpec.ofChange fnKnapsackTableItemSpec)

/-- ITS FALSE NEIGHBOUR: 'it returns false'. Refute it at one input. -/
def fnKnapsackTableItemWrong : ChangeSpec := { name := "fnKnapsackTableItem", fn := fun _ => fun
  | [d] => { results := [.lit (.bool false)], args := [d] }
  | _ => none }
def FnKnapsackTableItemWrongFalsely : Prop := fnKnapsackTableItemRow.holds Try.pinned (OpenSpec.ofChange fnKnapsackTableItemWrong)

/-- 'laws.FnBestKnapsack': WHATEVER THE INPUT: true; the input reads as it did. -/
def fnBestKnapsackSpec : ChangeSpec := { name := "fnBestKnapsack", fn := fun _ => fun
  | [d] => { results := [.lit (.bool true)], args := [d] }
  | _ => none }
def fnBestKnapsackRow : OpenClaim := { program := "ytfidahpaidkhgab", sum := "0418df807378bb8ed5e79afbc84be40b8c924f6b5fc9cce0515de10b43bc3736", func := "loop.example/integerplanner/laws.FnBestKnapsack", spec := "fnBestKnapsack", apart := false }
def FnBestKnapsackSaid : Prop := fnBestKnapsackRow.holds Try.pinned (OpenSpec.ofChange fnBestKnapsackSpec)

/-- ITS FALSE NEIGHBOUR: 'it returns false'. Refute it at one input. -/
def fnBestKnapsackWrong : ChangeSpec := { name := "fnBestKnapsack", fn := fun _ => fun
  | [d] => { results := [.lit (.bool false)], args := [d] }
  | _ => none }
def FnBestKnapsackWrongFalsely : Prop := fnBestKnapsackRow.holds Try.pinned (OpenSpec.ofChange fnBestKnapsackWrong)

/-- 'laws.FnMinimalCover': WHATEVER THE INPUT: true; the input reads as it did. -/
def fnMinimalCoverSpec : ChangeSpec := { name := "fnMinimalCover", fn := fun _ => fun
  | [d] => { results := [.lit (.bool true)], args := [d] }
  | _ => none }
def fnMinimalCoverRow : OpenClaim := { program := "ytfidahpaidkhgab", sum := "0418df807378bb8ed5e79afbc84be40b8c924f6b5fc9cce0515de10b43bc3736", func := "loop.example/integerplanner/laws.FnMinimalCover", spec := "fnMinimalCover", unfollowed := true, recurses := true, apart := false }
def FnMinimalCoverSaid : Prop := fnMinimalCoverRow.holds Try.pinned (OpenSpec.ofChange fnMinimalCoverSpec)

/-- ITS FALSE NEIGHBOUR: 'it returns false'. Refute it at one input. -/
def fnMinimalCoverWrong : ChangeSpec := { name := "fnMinimalCover", fn := fun _ => fun
  | [d] => { results := [.lit (.bool false)], args := [d] }
  | _ => none }
def FnMinimalCoverWrongFalsely : Prop := fnMinimalCoverRow.holds Try.pinned (OpenSpec.ofChange fnMinimalCoverWrong)

/-- 'laws.FnLiftCover': WHATEVER THE INPUT: true; the input reads as it did. -/
def fnLiftCoverSpec : ChangeSpec := { name := "fnLiftCover", fn := fun _ => fun
  | [d] => { results := [.lit (.bool true)], args := [d] }
  | _ => none }
def fnLiftCoverRow : OpenClaim := { program := "ytfidahpaidkhgab", sum := "0418df807378bb8ed5e79afbc84be40b8c924f6b5fc9cce0515de10b43bc3736", func := "loop.example/integerplanner/laws.FnLiftCover", spec := "fnLiftCover", unfollowed := true, recurses := true, apart := false }
def FnLiftCoverSaid : Prop := fnLiftCoverRow.holds Try.pinned (OpenSpec.ofChange fnLiftCoverSpec)

/-- ITS FALSE NEIGHBOUR: 'it returns false'. Refute it at one input. -/
def fnLiftCoverWrong : ChangeSpec := { name := "fnLiftCover", fn := fun _ => fun
  | [d] => { results := [.lit (.bool false)], args := [d] }
  | _ => none }
def FnLiftCoverWrongFalsely : Prop := fnLiftCoverRow.holds Try.pinned (OpenSpec.ofChange fnLiftCoverWrong)

/-- 'laws.FnLiftCoverOnes': WHATEVER THE INPUT: true; the input reads as it did. -/
def fnLiftCoverOnesSpec : ChangeSpec := { name := "fnLiftCoverOnes", fn := fun _ => fun
  | [d] => { results := [.lit (.bool true)], args := [d] }
  | _ => none }
def fnLiftCoverOnesRow : OpenClaim := { program := "ytfidahpaidkhgab", sum := "0418df807378bb8ed5e79afbc84be40b8c924f6b5fc9cce0515de10b43bc3736", func := "loop.example/integerplanner/laws.FnLiftCoverOnes", spec := "fnLiftCoverOnes", unfollowed := true, recurses := true, apart := false }
def FnLiftCoverOnesSaid : Prop := fnLiftCoverOnesRow.holds Try.pinned (OpenSpec.ofChange fnLiftCoverOnesSpec)

/-- ITS FALSE NEIGHBOUR: 'it returns false'. Refute it at one input. -/
def fnLiftCoverOnesWrong : ChangeSpec := { name := "fnLiftCoverOnes", fn := fun _ => fun
  | [d] => { results := [.lit (.bool false)], args := [d] }
  | _ => none }
def FnLiftCoverOnesWrongFalsely : Prop := fnLiftCoverOnesRow.holds Try.pinned (OpenSpec.ofChange fnLiftCoverOnesWrong)

/-- 'laws.FnConflictEdges': WHATEVER THE INPUT: true; the input reads as it did. -/
def fnConflictEdgesSpec : ChangeSpec := { name := "fnConflictEdges", fn := fun _ => fun
  | [d] => { results := [.lit (.bool true)], args := [d] }
  | _ => none }
def fnConflictEdgesRow : OpenClaim := { program := "ytfidahpaidkhgab", sum := "0418df807378bb8ed5e79afbc84be40b8c924f6b5fc9cce0515de10b43bc3736", func := "loop.example/integerplanner/laws.FnConflictEdges", spec := "fnConflictEdges", apart := false }
def FnConflictEdgesSaid : Prop := fnConflictEdgesRow.holds Try.pinned (OpenSpec.ofChange fnConflictEdgesSpec)

/-- ITS FALSE NEIGHBOUR: 'it returns false'. Refute it at one input. -/
def fnConflictEdgesWrong : ChangeSpec := { name := "fnConflictEdges", fn := fun _ => fun
  | [d] => { results := [.lit (.bool false)], args := [d] }
  | _ => none }
def FnConflictEdgesWrongFalsely : Prop := fnConflictEdgesRow.holds Try.pinned (OpenSpec.ofChange fnConflictEdgesWrong)

/-- 'laws.FnValidBox': WHATEVER THE INPUT: true; the input reads as it did. -/
def fnValidBoxSpec : ChangeSpec := { name := "fnValidBox", fn := fun _ => fun
  | [d] => { results := [.lit (.bool true)], args := [d] }
  | _ => none }
def fnValidBoxRow : OpenClaim := { program := "ytfidahpaidkhgab", sum := "0418df807378bb8ed5e79afbc84be40b8c924f6b5fc9cce0515de10b43bc3736", func := "loop.example/integerplanner/laws.FnValidBox", spec := "fnValidBox", apart := false }
def FnValidBoxSaid : Prop := fnValidBoxRow.holds Try.pinned (OpenSpec.ofChange fnValidBoxSpec)

/-- ITS FALSE NEIGHBOUR: 'it returns false'. Refute it at one input. -/
def fnValidBoxWrong : ChangeSpec := { name := "fnValidBox", fn := fun _ => fun
  | [d] => { results := [.lit (.bool false)], args := [d] }
  | _ => none }
def FnValidBoxWrongFalsely : Prop := fnValidBoxRow.holds Try.pinned (OpenSpec.ofChange fnValidBoxWrong)

/-- 'laws.FnRowRange': WHATEVER THE INPUT: true; the input reads as it did. -/
def fnRowRangeSpec : ChangeSpec := { name := "fnRowRange", fn := fun _ => fun
  | [d] => { results := [.lit (.bool true)], args := [d] }
  | _ => none }
def fnRowRangeRow : OpenClaim := { program := "ytfidahpaidkhgab", sum := "0418df807378bb8ed5e79afbc84be40b8c924f6b5fc9cce0515de10b43bc3736", func := "loop.example/integerplanner/laws.FnRowRange", spec := "fnRowRange", apart := false }
def FnRowRangeSaid : Prop := fnRowRangeRow.holds Try.pinned (OpenSpec.ofChange fnRowRangeSpec)

/-- ITS FALSE NEIGHBOUR: 'it returns false'. Refute it at one input. -/
def fnRowRangeWrong : ChangeSpec := { name := "fnRowRange", fn := fun _ => fun
  | [d] => { results := [.lit (.bool false)], args := [d] }
  | _ => none }
def FnRowRangeWrongFalsely : Prop := fnRowRangeRow.holds Try.pinned (OpenSpec.ofChange fnRowRangeWrong)

/- THE SECOND FORM. 'bulk': how many values and letters a reading holds, each counted each time it is reached (what is shared counts as often as it is met; a slice's spare places count too). A statement '..UptoSaid' is the law's where the arguments, and the package variables that the reading takes, are together of bulk at most 1048576: NARROWER than '..Said'. Prove '..Said' where nothing that the law and all that it calls make is longer than what came in: it says more and counts as full. Else prove '..UptoSaid'. A law counts once. -/
mutual
def uptoBulk {H : Type} : DataW H → Nat
  | .lit (.string bytes) => bytes.length + 1
  | .lit _ => 1
  | .nil => 1
  | .ptr d => uptoBulk d + 1
  | .slice elems spare => uptoBulkAll elems + uptoBulkAll spare + 1
  | .agg parts => uptoBulkAll parts + 1
  | .iface _ d => uptoBulk d + 1
  | .map entries => uptoBulkEntries entries + 1
  | .held _ => 1
def uptoBulkAll {H : Type} : List (DataW H) → Nat
  | [] => 0
  | d :: r => uptoBulk d + uptoBulkAll r
def uptoBulkEntries {H : Type} : List (Lit × DataW H) → Nat
  | [] => 0
  | x :: r => uptoBulkEntry x + uptoBulkEntries r
def uptoBulkEntry {H : Type} : Lit × DataW H → Nat
  | (.string bytes, d) => bytes.length + uptoBulk d + 1
  | (_, d) => uptoBulk d + 1
 end
def uptoSmall : (H : Type) → List (DataW H) → Bool := fun _ ds => decide (uptoBulkAll ds ≤ 1048576)
def OpenSpec.upto (s : _root_.Go.ChangeSpec) : _root_.Go.OpenSpec := { _root_.Go.OpenSpec.ofChange s with cond := some uptoSmall }

/-- 'laws.FnKnapsackTableItem', WHERE WHAT IT READS IS OF BULK AT MOST 1048576: true; the input reads as it did. -/
def fnKnapsackTableItemUptoRow : OpenClaim := { program := "ytfidahpaidkhgab", sum := "0418df807378bb8ed5e79afbc84be40b8c924f6b5fc9cce0515de10b43bc3736", func := "loop.example/integerplanner/laws.FnKnapsackTableItem", spec := "fnKnapsackTableItem", apart := false, narrowed := true }
def FnKnapsackTableItemUptoSaid : Prop := fnKnapsackTableItemUptoRow.holds Try.pinned (OpenSpec.upto fnKnapsackTableItemSpec)

/-- 'laws.FnBestKnapsack', WHERE WHAT IT READS IS OF BULK AT MOST 1048576: true; the input reads as it did. -/
def fnBestKnapsackUptoRow : OpenClaim := { program := "ytfidahpaidkhgab", sum := "0418df807378bb8ed5e79afbc84be40b8c924f6b5fc9cce0515de10b43bc3736", func := "loop.example/integerplanner/laws.FnBestKnapsack", spec := "fnBestKnapsack", apart := false, narrowed := true }
def FnBestKnapsackUptoSaid : Prop := fnBestKnapsackUptoRow.holds Try.pinned (OpenSpec.upto fnBestKnapsackSpec)

/-- 'laws.FnMinimalCover', WHERE WHAT IT READS IS OF BULK AT MOST 1048576: true; the input reads as it did. -/
def fnMinimalCoverUptoRow : OpenClaim := { program := "ytfidahpaidkhgab", sum := "0418df807378bb8ed5e79afbc84be40b8c924f6b5fc9cce0515de10b43bc3736", func := "loop.example/integerplanner/laws.FnMinimalCover", spec := "fnMinimalCover", unfollowed := true, recurses := true, apart := false, narrowed := true }
def FnMinimalCoverUptoSaid : Prop := fnMinimalCoverUptoRow.holds Try.pinned (OpenSpec.upto fnMinimalCoverSpec)

/-- 'laws.FnLiftCover', WHERE WHAT IT READS IS OF BULK AT MOST 1048576: true; the input reads as it did. -/
def fnLiftCoverUptoRow : OpenClaim := { program := "ytfidahpaidkhgab", sum := "0418df807378bb8ed5e79afbc84be40b8c924f6b5fc9cce0515de10b43bc3736", func := "loop.example/integerplanner/laws.FnLiftCover", spec := "fnLiftCover", unfollowed := true, recurses := true, apart := false, narrowed := true }
def FnLiftCoverUptoSaid : Prop := fnLiftCoverUptoRow.holds Try.pinned (OpenSpec.upto fnLiftCoverSpec)

/-- 'laws.FnLiftCoverOnes', WHERE WHAT IT READS IS OF BULK AT MOST 1048576: true; the input reads as it did. -/
def fnLiftCoverOnesUptoRow : OpenClaim := { program := "ytfidahpaidkhgab", sum := "0418df807378bb8ed5e79afbc84be40b8c924f6b5fc9cce0515de10b43bc3736", func := "loop.example/integerplanner/laws.FnLiftCoverOnes", spec := "fnLiftCoverOnes", unfollowed := true, recurses := true, apart := false, narrowed := true }
def FnLiftCoverOnesUptoSaid : Prop := fnLiftCoverOnesUptoRow.holds Try.pinned (OpenSpec.upto fnLiftCoverOnesSpec)

/-- 'laws.FnConflictEdges', WHERE WHAT IT READS IS OF BULK AT MOST 1048576: true; the input reads as it did. -/
def fnConflictEdgesUptoRow : OpenClaim := { program := "ytfidahpaidkhgab", sum := "0418df807378bb8ed5e79afbc84be40b8c924f6b5fc9cce0515de10b43bc3736", func := "loop.example/integerplanner/laws.FnConflictEdges", spec := "fnConflictEdges", apart := false, narrowed := true }
def FnConflictEdgesUptoSaid : Prop := fnConflictEdgesUptoRow.holds Try.pinned (OpenSpec.upto fnConflictEdgesSpec)

/-- 'laws.FnValidBox', WHERE WHAT IT READS IS OF BULK AT MOST 1048576: true; the input reads as it did. -/
def fnValidBoxUptoRow : OpenClaim := { program := "ytfidahpaidkhgab", sum := "0418df807378bb8ed5e79afbc84be40b8c924f6b5fc9cce0515de10b43bc3736", func := "loop.example/integerplanner/laws.FnValidBox", spec := "fnValidBox", apart := false, narrowed := true }
def FnValidBoxUptoSaid : Prop := fnValidBoxUptoRow.holds Try.pinned (OpenSpec.upto fnValidBoxSpec)

/-- 'laws.FnRowRange', WHERE WHAT IT READS IS OF BULK AT MOST 1048576: true; the input reads as it did. -/
def fnRowRangeUptoRow : OpenClaim := { program := "ytfidahpaidkhgab", sum := "0418df807378bb8ed5e79afbc84be40b8c924f6b5fc9cce0515de10b43bc3736", func := "loop.example/integerplanner/laws.FnRowRange", spec := "fnRowRange", apart := false, narrowed := true }
def FnRowRangeUptoSaid : Prop := fnRowRangeUptoRow.holds Try.pinned (OpenSpec.upto fnRowRangeSpec)

end Rows
end Go.Proofs.Ytfidahpaidkhgab
