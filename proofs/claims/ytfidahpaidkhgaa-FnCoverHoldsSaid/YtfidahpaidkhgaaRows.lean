/-
  No cell of these rows narrows 'for every input' (looked for: loops, veiled, ifaces, maps, wideKeys, modest, calm, conditions, laid).
  DERIVED. THE GIVEN ROWS OF THIS SEAT. 12 by the template 'for every input the law returns true; each argument reads behind the call as it read before'; 0 by the template 'total and deterministic' (their statements: YtfidahpaidkhgaaTotals.lean).
  GIVEN WITH THE SEED: the statements are not yours to turn. If you find one false, say at which input.
  Laid BY PROGRAM, IN A SANDBOX (cutbox-rows.mjs): the forced cells as the released guide's own fill.sh prints them over the translation 8944079262ff1464… (all of the seat's roots in one cut). By AI agents, Wed Nov 11 2026. No macro, syntax, notation, axiom, sorry.
-/
import Derived.Test.YtfidahpaidkhgaaChecked
import GoSem.Claim
import GoSem.ClaimJoined
import GoSem.ClaimMapViews
import Derived.JoinedTies
import Derived.KernelRfl
namespace Go.Proofs.Ytfidahpaidkhgaa
/- THE CELL 'sum', in the pinned program and in every row, IS THE sha256 OF THE DUMP (.gsa) THAT YtfidahpaidkhgaaProg.lean LOADS. Nothing in Lean hashes anything: it is a label: what it is worth is what the hold of that sum in a sandbox is worth. -/
noncomputable def Try.pinned : Pinned := { name := "ytfidahpaidkhgaa", sum := "8944079262ff1464f4ef2d9d4dd99e0ac462ca24c0fc324a6ce46988e94cb50f", checked := Try.checked }
namespace Rows
def none {H : Type} : Left H := { results := [], args := [] }

/-- 'laws.FnExactKnapsackTable': WHATEVER THE INPUT: true; the input reads as it did. -/
def fnExactKnapsackTableSpec : ChangeSpec := { name := "fnExactKnapsackTable", fn := fun _ => fun
  | [d1, d2, d3] => { results := [.lit (.bool true)], args := [d1, d2, d3] }
  | _ => none }
def fnExactKnapsackTableRow : OpenClaim := { program := "ytfidahpaidkhgaa", sum := "8944079262ff1464f4ef2d9d4dd99e0ac462ca24c0fc324a6ce46988e94cb50f", func := "loop.example/integerplanner/laws.FnExactKnapsackTable", spec := "fnExactKnapsackTable", apart := false }
def FnExactKnapsackTableSaid : Prop := fnExactKnapsackTableRow.holds Try.pinned (OpenSpec.ofChange fnExactKnapsackTableSpec)

/-- ITS FALSE NEIGHBOUR: 'it returns false'. Refute it at one input. -/
def fnExactKnapsackTableWrong : ChangeSpec := { name := "fnExactKnapsackTable", fn := fun _ => fun
  | [d1, d2, d3] => { results := [.lit (.bool false)], args := [d1, d2, d3] }
  | _ => none }
def FnExactKnapsackTableWrongFalsely : Prop := fnExactKnapsackTableRow.holds Try.pinned (OpenSpec.ofChange fnExactKnapsackTableWrong)

/-- 'laws.FnExactBestKnapsack': WHATEVER THE INPUT: true; the input reads as it did. -/
def fnExactBestKnapsackSpec : ChangeSpec := { name := "fnExactBestKnapsack", fn := fun _ => fun
  | [d1, d2, d3] => { results := [.lit (.bool true)], args := [d1, d2, d3] }
  | _ => none }
def fnExactBestKnapsackRow : OpenClaim := { program := "ytfidahpaidkhgaa", sum := "8944079262ff1464f4ef2d9d4dd99e0ac462ca24c0fc324a6ce46988e94cb50f", func := "loop.example/integerplanner/laws.FnExactBestKnapsack", spec := "fnExactBestKnapsack", apart := false }
def FnExactBestKnapsackSaid : Prop := fnExactBestKnapsackRow.holds Try.pinned (OpenSpec.ofChange fnExactBestKnapsackSpec)

/-- ITS FALSE NEIGHBOUR: 'it returns false'. Refute it at one input. -/
def fnExactBestKnapsackWrong : ChangeSpec := { name := "fnExactBestKnapsack", fn := fun _ => fun
  | [d1, d2, d3] => { results := [.lit (.bool false)], args := [d1, d2, d3] }
  | _ => none }
def FnExactBestKnapsackWrongFalsely : Prop := fnExactBestKnapsackRow.holds Try.pinned (OpenSpec.ofChange fnExactBestKnapsackWrong)

/-- 'laws.FnExactKnapsackValue': WHATEVER THE INPUT: true; the input reads as it did. -/
def fnExactKnapsackValueSpec : ChangeSpec := { name := "fnExactKnapsackValue", fn := fun _ => fun
  | [d1, d2, d3, d4] => { results := [.lit (.bool true)], args := [d1, d2, d3, d4] }
  | _ => none }
def fnExactKnapsackValueRow : OpenClaim := { program := "ytfidahpaidkhgaa", sum := "8944079262ff1464f4ef2d9d4dd99e0ac462ca24c0fc324a6ce46988e94cb50f", func := "loop.example/integerplanner/laws.FnExactKnapsackValue", spec := "fnExactKnapsackValue", apart := false }
def FnExactKnapsackValueSaid : Prop := fnExactKnapsackValueRow.holds Try.pinned (OpenSpec.ofChange fnExactKnapsackValueSpec)

/-- ITS FALSE NEIGHBOUR: 'it returns false'. Refute it at one input. -/
def fnExactKnapsackValueWrong : ChangeSpec := { name := "fnExactKnapsackValue", fn := fun _ => fun
  | [d1, d2, d3, d4] => { results := [.lit (.bool false)], args := [d1, d2, d3, d4] }
  | _ => none }
def FnExactKnapsackValueWrongFalsely : Prop := fnExactKnapsackValueRow.holds Try.pinned (OpenSpec.ofChange fnExactKnapsackValueWrong)

/-- 'laws.FnExactIsCover': WHATEVER THE INPUT: true; the input reads as it did. -/
def fnExactIsCoverSpec : ChangeSpec := { name := "fnExactIsCover", fn := fun _ => fun
  | [d1, d2, d3] => { results := [.lit (.bool true)], args := [d1, d2, d3] }
  | _ => none }
def fnExactIsCoverRow : OpenClaim := { program := "ytfidahpaidkhgaa", sum := "8944079262ff1464f4ef2d9d4dd99e0ac462ca24c0fc324a6ce46988e94cb50f", func := "loop.example/integerplanner/laws.FnExactIsCover", spec := "fnExactIsCover", apart := false }
def FnExactIsCoverSaid : Prop := fnExactIsCoverRow.holds Try.pinned (OpenSpec.ofChange fnExactIsCoverSpec)

/-- ITS FALSE NEIGHBOUR: 'it returns false'. Refute it at one input. -/
def fnExactIsCoverWrong : ChangeSpec := { name := "fnExactIsCover", fn := fun _ => fun
  | [d1, d2, d3] => { results := [.lit (.bool false)], args := [d1, d2, d3] }
  | _ => none }
def FnExactIsCoverWrongFalsely : Prop := fnExactIsCoverRow.holds Try.pinned (OpenSpec.ofChange fnExactIsCoverWrong)

/-- 'laws.FnExactCoverHolds': WHATEVER THE INPUT: true; the input reads as it did. -/
def fnExactCoverHoldsSpec : ChangeSpec := { name := "fnExactCoverHolds", fn := fun _ => fun
  | [d1, d2, d3, d4] => { results := [.lit (.bool true)], args := [d1, d2, d3, d4] }
  | _ => none }
def fnExactCoverHoldsRow : OpenClaim := { program := "ytfidahpaidkhgaa", sum := "8944079262ff1464f4ef2d9d4dd99e0ac462ca24c0fc324a6ce46988e94cb50f", func := "loop.example/integerplanner/laws.FnExactCoverHolds", spec := "fnExactCoverHolds", apart := false }
def FnExactCoverHoldsSaid : Prop := fnExactCoverHoldsRow.holds Try.pinned (OpenSpec.ofChange fnExactCoverHoldsSpec)

/-- ITS FALSE NEIGHBOUR: 'it returns false'. Refute it at one input. -/
def fnExactCoverHoldsWrong : ChangeSpec := { name := "fnExactCoverHolds", fn := fun _ => fun
  | [d1, d2, d3, d4] => { results := [.lit (.bool false)], args := [d1, d2, d3, d4] }
  | _ => none }
def FnExactCoverHoldsWrongFalsely : Prop := fnExactCoverHoldsRow.holds Try.pinned (OpenSpec.ofChange fnExactCoverHoldsWrong)

/-- 'laws.FnExactMinimalCover': WHATEVER THE INPUT: true; the input reads as it did. -/
def fnExactMinimalCoverSpec : ChangeSpec := { name := "fnExactMinimalCover", fn := fun _ => fun
  | [d1, d2, d3] => { results := [.lit (.bool true)], args := [d1, d2, d3] }
  | _ => none }
def fnExactMinimalCoverRow : OpenClaim := { program := "ytfidahpaidkhgaa", sum := "8944079262ff1464f4ef2d9d4dd99e0ac462ca24c0fc324a6ce46988e94cb50f", func := "loop.example/integerplanner/laws.FnExactMinimalCover", spec := "fnExactMinimalCover", unfollowed := true, recurses := true, apart := false }
def FnExactMinimalCoverSaid : Prop := fnExactMinimalCoverRow.holds Try.pinned (OpenSpec.ofChange fnExactMinimalCoverSpec)

/-- ITS FALSE NEIGHBOUR: 'it returns false'. Refute it at one input. -/
def fnExactMinimalCoverWrong : ChangeSpec := { name := "fnExactMinimalCover", fn := fun _ => fun
  | [d1, d2, d3] => { results := [.lit (.bool false)], args := [d1, d2, d3] }
  | _ => none }
def FnExactMinimalCoverWrongFalsely : Prop := fnExactMinimalCoverRow.holds Try.pinned (OpenSpec.ofChange fnExactMinimalCoverWrong)

/-- 'laws.FnExactLiftCover': WHATEVER THE INPUT: true; the input reads as it did. -/
def fnExactLiftCoverSpec : ChangeSpec := { name := "fnExactLiftCover", fn := fun _ => fun
  | [d1, d2, d3] => { results := [.lit (.bool true)], args := [d1, d2, d3] }
  | _ => none }
def fnExactLiftCoverRow : OpenClaim := { program := "ytfidahpaidkhgaa", sum := "8944079262ff1464f4ef2d9d4dd99e0ac462ca24c0fc324a6ce46988e94cb50f", func := "loop.example/integerplanner/laws.FnExactLiftCover", spec := "fnExactLiftCover", unfollowed := true, recurses := true, apart := false }
def FnExactLiftCoverSaid : Prop := fnExactLiftCoverRow.holds Try.pinned (OpenSpec.ofChange fnExactLiftCoverSpec)

/-- ITS FALSE NEIGHBOUR: 'it returns false'. Refute it at one input. -/
def fnExactLiftCoverWrong : ChangeSpec := { name := "fnExactLiftCover", fn := fun _ => fun
  | [d1, d2, d3] => { results := [.lit (.bool false)], args := [d1, d2, d3] }
  | _ => none }
def FnExactLiftCoverWrongFalsely : Prop := fnExactLiftCoverRow.holds Try.pinned (OpenSpec.ofChange fnExactLiftCoverWrong)

/-- 'laws.FnExactConflictEdges': WHATEVER THE INPUT: true; the input reads as it did. -/
def fnExactConflictEdgesSpec : ChangeSpec := { name := "fnExactConflictEdges", fn := fun _ => fun
  | [d1, d2] => { results := [.lit (.bool true)], args := [d1, d2] }
  | _ => none }
def fnExactConflictEdgesRow : OpenClaim := { program := "ytfidahpaidkhgaa", sum := "8944079262ff1464f4ef2d9d4dd99e0ac462ca24c0fc324a6ce46988e94cb50f", func := "loop.example/integerplanner/laws.FnExactConflictEdges", spec := "fnExactConflictEdges", apart := false }
def FnExactConflictEdgesSaid : Prop := fnExactConflictEdgesRow.holds Try.pinned (OpenSpec.ofChange fnExactConflictEdgesSpec)

/-- ITS FALSE NEIGHBOUR: 'it returns false'. Refute it at one input. -/
def fnExactConflictEdgesWrong : ChangeSpec := { name := "fnExactConflictEdges", fn := fun _ => fun
  | [d1, d2] => { results := [.lit (.bool false)], args := [d1, d2] }
  | _ => none }
def FnExactConflictEdgesWrongFalsely : Prop := fnExactConflictEdgesRow.holds Try.pinned (OpenSpec.ofChange fnExactConflictEdgesWrong)

/-- 'laws.FnKnapsackTable': WHATEVER THE INPUT: true; the input reads as it did. -/
def fnKnapsackTableSpec : ChangeSpec := { name := "fnKnapsackTable", fn := fun _ => fun
  | [d] => { results := [.lit (.bool true)], args := [d] }
  | _ => none }
def fnKnapsackTableRow : OpenClaim := { program := "ytfidahpaidkhgaa", sum := "8944079262ff1464f4ef2d9d4dd99e0ac462ca24c0fc324a6ce46988e94cb50f", func := "loop.example/integerplanner/laws.FnKnapsackTable", spec := "fnKnapsackTable", apart := false }
def FnKnapsackTableSaid : Prop := fnKnapsackTableRow.holds Try.pinned (OpenSpec.ofChange fnKnapsackTableSpec)

/-- ITS FALSE NEIGHBOUR: 'it returns false'. Refute it at one input. -/
def fnKnapsackTableWrong : ChangeSpec := { name := "fnKnapsackTable", fn := fun _ => fun
  | [d] => { results := [.lit (.bool false)], args := [d] }
  | _ => none }
def FnKnapsackTableWrongFalsely : Prop := fnKnapsackTableRow.holds Try.pinned (OpenSpec.ofChange fnKnapsackTableWrong)

/-- 'laws.FnKnapsackValue': WHATEVER THE INPUT: true; the input reads as it did. -/
def fnKnapsackValueSpec : ChangeSpec := { name := "fnKnapsackValue", fn := fun _ => fun
  | [d] => { results := [.lit (.bool true)], args := [d] }
  | _ => none }
def fnKnapsackValueRow : OpenClaim := { program := "ytfidahpaidkhgaa", sum := "8944079262ff1464f4ef2d9d4dd99e0ac462ca24c0fc324a6ce46988e94cb50f", func := "loop.example/integerplanner/laws.FnKnapsackValue", spec := "fnKnapsackValue", apart := false }
def FnKnapsackValueSaid : Prop := fnKnapsackValueRow.holds Try.pinned (OpenSpec.ofChange fnKnapsackValueSpec)

/-- ITS FALSE NEIGHBOUR: 'it returns false'. Refute it at one input. -/
def fnKnapsackValueWrong : ChangeSpec := { name := "fnKnapsackValue", fn := fun _ => fun
  | [d] => { results := [.lit (.bool false)], args := [d] }
  | _ => none }
def FnKnapsackValueWrongFalsely : Prop := fnKnapsackValueRow.holds Try.pinned (OpenSpec.ofChange fnKnapsackValueWrong)

/-- 'laws.FnIsCover': WHATEVER THE INPUT: true; the input reads as it did. -/
def fnIsCoverSpec : ChangeSpec := { name := "fnIsCover", fn := fun _ => fun
  | [d] => { results := [.lit (.bool true)], args := [d] }
  | _ => none }
def fnIsCoverRow : OpenClaim := { program := "ytfidahpaidkhgaa", sum := "8944079262ff1464f4ef2d9d4dd99e0ac462ca24c0fc324a6ce46988e94cb50f", func := "loop.example/integerplanner/laws.FnIsCover", spec := "fnIsCover", apart := false }
def FnIsCoverSaid : Prop := fnIsCoverRow.holds Try.pinned (OpenSpec.ofChange fnIsCoverSpec)

/-- ITS FALSE NEIGHBOUR: 'it returns false'. Refute it at one input. -/
def fnIsCoverWrong : ChangeSpec := { name := "fnIsCover", fn := fun _ => fun
  | [d] => { results := [.lit (.bool false)], args := [d] }
  | _ => none }
def FnIsCoverWrongFalsely : Prop := fnIsCoverRow.holds Try.pinned (OpenSpec.ofChange fnIsCoverWrong)

/-- 'laws.FnCoverHolds': WHATEVER THE INPUT: true; the input reads as it did. -/
def fnCoverHoldsSpec : ChangeSpec := { name := "fnCoverHolds", fn := fun _ => fun
  | [d] => { results := [.lit (.bool true)], args := [d] }
  | _ => none }
def fnCoverHoldsRow : OpenClaim := { program := "ytfidahpaidkhgaa", sum := "8944079262ff1464f4ef2d9d4dd99e0ac462ca24c0fc324a6ce46988e94cb50f", func := "loop.example/integerplanner/laws.FnCoverHolds", spec := "fnCoverHolds", apart := false }
def FnCoverHoldsSaid : Prop := fnCoverHoldsRow.holds Try.pinned (OpenSpec.ofChange fnCoverHoldsSpec)

/-- ITS FALSE NEIGHBOUR: 'it returns false'. Refute it at one input. -/
def fnCoverHoldsWrong : ChangeSpec := { name := "fnCoverHolds", fn := fun _ => fun
  | [d] => { results := [.lit (.bool false)], args := [d] }
  | _ => none }
def FnCoverHoldsWrongFalsely : Prop := fnCoverHoldsRow.holds Try.pinned (OpenSpec.ofChange fnCoverHoldsWrong)

/- THE SECOND FORM. 'bulk': how many values and letters a reading holds, each counted each time it is reached (what is shared counts as often as it is met; a slice's spare places count too). A statement '..UptoSaid' is the law's where the arguments, and the package variables that the reading takes, are together of bulk at most 1048576: NARROWER than '..Said'. Prove '..Said' where nothing that the law and all that it calls make is longer than what came in: it says more and counts as full. Else prove '..UptoSaid'. A law counts once. -/
mutual
def uptoBulk {H : Type} : DataW H → Nat
  | .lit (.string bytes) => bytes.length + 1
  | .lit _ => 1
  | .nil => 1
  | .ptr d => uptoBulk d + 1
  | .slice elems spare => uptoBulkAll elems + uptoBulkAll spare + 1
  | .agg parts => uptoBulkAll parts + 1
  | .iface _ d => uptoBulk d + 1
  | .map entries => uptoBulkEntries entries + 1
  | .held _ => 1
def uptoBulkAll {H : Type} : List (DataW H) → Nat
  | [] => 0
  | d :: r => uptoBulk d + uptoBulkAll r
def uptoBulkEntries {H : Type} : List (Lit × DataW H) → Nat
  | [] => 0
  | x :: r => uptoBulkEntry x + uptoBulkEntries r
def uptoBulkEntry {H : Type} : Lit × DataW H → Nat
  | (.string bytes, d) => bytes.length + uptoBulk d + 1
  | (_, d) => uptoBulk d + 1
 end
def uptoSmall : (H : Type) → List (DataW H) → Bool := fun _ ds => decide (uptoBulkAll ds ≤ 1048576)
def OpenSpec.upto (s : _root_.Go.ChangeSpec) : _root_.Go.OpenSpec := { _root_.Go.OpenSpec.ofChange s with cond := some uptoSmall }

/-- 'laws.FnExactKnapsackTable', WHERE WHAT IT READS IS OF BULK AT MOST 1048576: true; the input reads as it did. -/
def fnExactKnapsackTableUptoRow : OpenClaim := { program := "ytfidahpaidkhgaa", sum := "8944079262ff1464f4ef2d9d4dd99e0ac462ca24c0fc324a6ce46988e94cb50f", func := "loop.example/integerplanner/laws.FnExactKnapsackTable", spec := "fnExactKnapsackTable", apart := false, narrowed := true }
def FnExactKnapsackTableUptoSaid : Prop := fnExactKnapsackTableUptoRow.holds Try.pinned (OpenSpec.upto fnExactKnapsackTableSpec)

/-- 'laws.FnExactBestKnapsack', WHERE WHAT IT READS IS OF BULK AT MOST 1048576: true; the input reads as it did. -/
def fnExactBestKnapsackUptoRow : OpenClaim := { program := "ytfidahpaidkhgaa", sum := "8944079262ff1464f4ef2d9d4dd99e0ac462ca24c0fc324a6ce46988e94cb50f", func := "loop.example/integerplanner/laws.FnExactBestKnapsack", spec := "fnExactBestKnapsack", apart := false, narrowed := true }
def FnExactBestKnapsackUptoSaid : Prop := fnExactBestKnapsackUptoRow.holds Try.pinned (OpenSpec.upto fnExactBestKnapsackSpec)

/-- 'laws.FnExactKnapsackValue', WHERE WHAT IT READS IS OF BULK AT MOST 1048576: true; the input reads as it did. -/
def fnExactKnapsackValueUptoRow : OpenClaim := { program := "ytfidahpaidkhgaa", sum := "8944079262ff1464f4ef2d9d4dd99e0ac462ca24c0fc324a6ce46988e94cb50f", func := "loop.example/integerplanner/laws.FnExactKnapsackValue", spec := "fnExactKnapsackValue", apart := false, narrowed := true }
def FnExactKnapsackValueUptoSaid : Prop := fnExactKnapsackValueUptoRow.holds Try.pinned (OpenSpec.upto fnExactKnapsackValueSpec)

/-- 'laws.FnExactIsCover', WHERE WHAT IT READS IS OF BULK AT MOST 1048576: true; the input reads as it did. -/
def fnExactIsCoverUptoRow : OpenClaim := { program := "ytfidahpaidkhgaa", sum := "8944079262ff1464f4ef2d9d4dd99e0ac462ca24c0fc324a6ce46988e94cb50f", func := "loop.example/integerplanner/laws.FnExactIsCover", spec := "fnExactIsCover", apart := false, narrowed := true }
def FnExactIsCoverUptoSaid : Prop := fnExactIsCoverUptoRow.holds Try.pinned (OpenSpec.upto fnExactIsCoverSpec)

/-- 'laws.FnExactCoverHolds', WHERE WHAT IT READS IS OF BULK AT MOST 1048576: true; the input reads as it did. -/
def fnExactCoverHoldsUptoRow : OpenClaim := { program := "ytfidahpaidkhgaa", sum := "8944079262ff1464f4ef2d9d4dd99e0ac462ca24c0fc324a6ce46988e94cb50f", func := "loop.example/integerplanner/laws.FnExactCoverHolds", spec := "fnExactCoverHolds", apart := false, narrowed := true }
def FnExactCoverHoldsUptoSaid : Prop := fnExactCoverHoldsUptoRow.holds Try.pinned (OpenSpec.upto fnExactCoverHoldsSpec)

/-- 'laws.FnExactMinimalCover', WHERE WHAT IT READS IS OF BULK AT MOST 1048576: true; the input reads as it did. -/
def fnExactMinimalCoverUptoRow : OpenClaim := { program := "ytfidahpaidkhgaa", sum := "8944079262ff1464f4ef2d9d4dd99e0ac462ca24c0fc324a6ce46988e94cb50f", func := "loop.example/integerplanner/laws.FnExactMinimalCover", spec := "fnExactMinimalCover", unfollowed := true, recurses := true, apart := false, narrowed := true }
def FnExactMinimalCoverUptoSaid : Prop := fnExactMinimalCoverUptoRow.holds Try.pinned (OpenSpec.upto fnExactMinimalCoverSpec)

/-- 'laws.FnExactLiftCover', WHERE WHAT IT READS IS OF BULK AT MOST 1048576: true; the input reads as it did. -/
def fnExactLiftCoverUptoRow : OpenClaim := { program := "ytfidahpaidkhgaa", sum := "8944079262ff1464f4ef2d9d4dd99e0ac462ca24c0fc324a6ce46988e94cb50f", func := "loop.example/integerplanner/laws.FnExactLiftCover", spec := "fnExactLiftCover", unfollowed := true, recurses := true, apart := false, narrowed := true }
def FnExactLiftCoverUptoSaid : Prop := fnExactLiftCoverUptoRow.holds Try.pinned (OpenSpec.upto fnExactLiftCoverSpec)

/-- 'laws.FnExactConflictEdges', WHERE WHAT IT READS IS OF BULK AT MOST 1048576: true; the input reads as it did. -/
def fnExactConflictEdgesUptoRow : OpenClaim := { program := "ytfidahpaidkhgaa", sum := "8944079262ff1464f4ef2d9d4dd99e0ac462ca24c0fc324a6ce46988e94cb50f", func := "loop.example/integerplanner/laws.FnExactConflictEdges", spec := "fnExactConflictEdges", apart := false, narrowed := true }
def FnExactConflictEdgesUptoSaid : Prop := fnExactConflictEdgesUptoRow.holds Try.pinned (OpenSpec.upto fnExactConflictEdgesSpec)

/-- 'laws.FnKnapsackTable', WHERE WHAT IT READS IS OF BULK AT MOST 1048576: true; the input reads as it did. -/
def fnKnapsackTableUptoRow : OpenClaim := { program := "ytfidahpaidkhgaa", sum := "8944079262ff1464f4ef2d9d4dd99e0ac462ca24c0fc324a6ce46988e94cb50f", func := "loop.example/integerplanner/laws.FnKnapsackTable", spec := "fnKnapsackTable", apart := false, narrowed := true }
def FnKnapsackTableUptoSaid : Prop := fnKnapsackTableUptoRow.holds Try.pinned (OpenSpec.upto fnKnapsackTableSpec)

/-- 'laws.FnKnapsackValue', WHERE WHAT IT READS IS OF BULK AT MOST 1048576: true; the input reads as it did. -/
def fnKnapsackValueUptoRow : OpenClaim := { program := "ytfidahpaidkhgaa", sum := "8944079262ff1464f4ef2d9d4dd99e0ac462ca24c0fc324a6ce46988e94cb50f", func := "loop.example/integerplanner/laws.FnKnapsackValue", spec := "fnKnapsackValue", apart := false, narrowed := true }
def FnKnapsackValueUptoSaid : Prop := fnKnapsackValueUptoRow.holds Try.pinned (OpenSpec.upto fnKnapsackValueSpec)

/-- 'laws.FnIsCover', WHERE WHAT IT READS IS OF BULK AT MOST 1048576: true; the input reads as it did. -/
def fnIsCoverUptoRow : OpenClaim := { program := "ytfidahpaidkhgaa", sum := "8944079262ff1464f4ef2d9d4dd99e0ac462ca24c0fc324a6ce46988e94cb50f", func := "loop.example/integerplanner/laws.FnIsCover", spec := "fnIsCover", apart := false, narrowed := true }
def FnIsCoverUptoSaid : Prop := fnIsCoverUptoRow.holds Try.pinned (OpenSpec.upto fnIsCoverSpec)

/-- 'laws.FnCoverHolds', WHERE WHAT IT READS IS OF BULK AT MOST 1048576: true; the input reads as it did. -/
def fnCoverHoldsUptoRow : OpenClaim := { program := "ytfidahpaidkhgaa", sum := "8944079262ff1464f4ef2d9d4dd99e0ac462ca24c0fc324a6ce46988e94cb50f", func := "loop.example/integerplanner/laws.FnCoverHolds", spec := "fnCoverHolds", apart := false, narrowed := true }
def FnCoverHoldsUptoSaid : Prop := fnCoverHoldsUptoRow.holds Try.pinned (OpenSpec.upto fnCoverHoldsSpec)

end Rows
end Go.Proofs.Ytfidahpaidkhgaa
