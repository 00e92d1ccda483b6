/-
  No cell of these rows narrows 'for every input' (looked for: loops, veiled, ifaces, maps, wideKeys, modest, calm, conditions, laid).
  DERIVED. THE GIVEN ROWS OF THIS SEAT. 12 by the template 'for every input the law returns true; each argument reads behind the call as it read before'; 0 by the template 'total and deterministic' (their statements: YtkempbmkplcknaaTotals.lean).
  GIVEN WITH THE SEED: the statements are not yours to turn. If you find one false, say at which input.
  Laid BY PROGRAM, IN A SANDBOX (cutbox-rows.mjs): the forced cells as the released guide's own fill.sh prints them over the translation 5cb9f33b38b31b09… (all of the seat's roots in one cut). By AI agents, Wed Nov 11 2026. No macro, syntax, notation, axiom, sorry.
-/
import Derived.Test.YtkempbmkplcknaaChecked
import GoSem.Claim
import GoSem.ClaimJoined
import GoSem.ClaimMapViews
import Derived.JoinedTies
import Derived.KernelRfl
namespace Go.Proofs.Ytkempbmkplcknaa
/- THE CELL 'sum', in the pinned program and in every row, IS THE sha256 OF THE DUMP (.gsa) THAT YtkempbmkplcknaaProg.lean LOADS. Nothing in Lean hashes anything: it is a label: what it is worth is what the hold of that sum in a sandbox is worth. -/
noncomputable def Try.pinned : Pinned := { name := "ytkempbmkplcknaa", sum := "5cb9f33b38b31b0947d227b3b232de7d3881aa93d2f52e7b9682d30396e8d7e7", checked := Try.checked }
namespace Rows
def none {H : Type} : Left H := { results := [], args := [] }

/-- 'laws.FnMakeRat': WHATEVER THE INPUT: true; the input reads as it did. -/
def fnMakeRatSpec : ChangeSpec := { name := "fnMakeRat", fn := fun _ => fun
  | [d] => { results := [.lit (.bool true)], args := [d] }
  | _ => none }
def fnMakeRatRow : OpenClaim := { program := "ytkempbmkplcknaa", sum := "5cb9f33b38b31b0947d227b3b232de7d3881aa93d2f52e7b9682d30396e8d7e7", func := "loop.example/integerplanner/laws.FnMakeRat", spec := "fnMakeRat", apart := false }
def FnMakeRatSaid : Prop := fnMakeRatRow.holds Try.pinned (OpenSpec.ofChange fnMakeRatSpec)

/-- ITS FALSE NEIGHBOUR: 'it returns false'. Refute it at one input. -/
def fnMakeRatWrong : ChangeSpec := { name := "fnMakeRat", fn := fun _ => fun
  | [d] => { results := [.lit (.bool false)], args := [d] }
  | _ => none }
def FnMakeRatWrongFalsely : Prop := fnMakeRatRow.holds Try.pinned (OpenSpec.ofChange fnMakeRatWrong)

/-- 'laws.FnMakeRatSigns': WHATEVER THE INPUT: true; the input reads as it did. -/
def fnMakeRatSignsSpec : ChangeSpec := { name := "fnMakeRatSigns", fn := fun _ => fun
  | [d] => { results := [.lit (.bool true)], args := [d] }
  | _ => none }
def fnMakeRatSignsRow : OpenClaim := { program := "ytkempbmkplcknaa", sum := "5cb9f33b38b31b0947d227b3b232de7d3881aa93d2f52e7b9682d30396e8d7e7", func := "loop.example/integerplanner/laws.FnMakeRatSigns", spec := "fnMakeRatSigns", apart := false }
def FnMakeRatSignsSaid : Prop := fnMakeRatSignsRow.holds Try.pinned (OpenSpec.ofChange fnMakeRatSignsSpec)

/-- ITS FALSE NEIGHBOUR: 'it returns false'. Refute it at one input. -/
def fnMakeRatSignsWrong : ChangeSpec := { name := "fnMakeRatSigns", fn := fun _ => fun
  | [d] => { results := [.lit (.bool false)], args := [d] }
  | _ => none }
def FnMakeRatSignsWrongFalsely : Prop := fnMakeRatSignsRow.holds Try.pinned (OpenSpec.ofChange fnMakeRatSignsWrong)

/-- 'laws.FnValidRat': WHATEVER THE INPUT: true; the input reads as it did. -/
def fnValidRatSpec : ChangeSpec := { name := "fnValidRat", fn := fun _ => fun
  | [d] => { results := [.lit (.bool true)], args := [d] }
  | _ => none }
def fnValidRatRow : OpenClaim := { program := "ytkempbmkplcknaa", sum := "5cb9f33b38b31b0947d227b3b232de7d3881aa93d2f52e7b9682d30396e8d7e7", func := "loop.example/integerplanner/laws.FnValidRat", spec := "fnValidRat", apart := false }
def FnValidRatSaid : Prop := fnValidRatRow.holds Try.pinned (OpenSpec.ofChange fnValidRatSpec)

/-- ITS FALSE NEIGHBOUR: 'it returns false'. Refute it at one input. -/
def fnValidRatWrong : ChangeSpec := { name := "fnValidRat", fn := fun _ => fun
  | [d] => { results := [.lit (.bool false)], args := [d] }
  | _ => none }
def FnValidRatWrongFalsely : Prop := fnValidRatRow.holds Try.pinned (OpenSpec.ofChange fnValidRatWrong)

/-- 'laws.FnAddRat': WHATEVER THE INPUT: true; the input reads as it did. -/
def fnAddRatSpec : ChangeSpec := { name := "fnAddRat", fn := fun _ => fun
  | [d] => { results := [.lit (.bool true)], args := [d] }
  | _ => none }
def fnAddRatRow : OpenClaim := { program := "ytkempbmkplcknaa", sum := "5cb9f33b38b31b0947d227b3b232de7d3881aa93d2f52e7b9682d30396e8d7e7", func := "loop.example/integerplanner/laws.FnAddRat", spec := "fnAddRat", apart := false }
def FnAddRatSaid : Prop := fnAddRatRow.holds Try.pinned (OpenSpec.ofChange fnAddRatSpec)

/-- ITS FALSE NEIGHBOUR: 'it returns false'. Refute it at one input. -/
def fnAddRatWrong : ChangeSpec := { name := "fnAddRat", fn := fun _ => fun
  | [d] => { results := [.lit (.bool false)], args := [d] }
  | _ => none }
def FnAddRatWrongFalsely : Prop := fnAddRatRow.holds Try.pinned (OpenSpec.ofChange fnAddRatWrong)

/-- 'laws.FnAddRatZero': WHATEVER THE INPUT: true; the input reads as it did. -/
def fnAddRatZeroSpec : ChangeSpec := { name := "fnAddRatZero", fn := fun _ => fun
  | [d] => { results := [.lit (.bool true)], args := [d] }
  | _ => none }
def fnAddRatZeroRow : OpenClaim := { program := "ytkempbmkplcknaa", sum := "5cb9f33b38b31b0947d227b3b232de7d3881aa93d2f52e7b9682d30396e8d7e7", func := "loop.example/integerplanner/laws.FnAddRatZero", spec := "fnAddRatZero", apart := false }
def FnAddRatZeroSaid : Prop := fnAddRatZeroRow.holds Try.pinned (OpenSpec.ofChange fnAddRatZeroSpec)

/-- ITS FALSE NEIGHBOUR: 'it returns false'. Refute it at one input. -/
def fnAddRatZeroWrong : ChangeSpec := { name := "fnAddRatZero", fn := fun _ => fun
  | [d] => { results := [.lit (.bool false)], args := [d] }
  | _ => none }
def FnAddRatZeroWrongFalsely : Prop := fnAddRatZeroRow.holds Try.pinned (OpenSpec.ofChange fnAddRatZeroWrong)

/-- 'laws.FnMulRat': WHATEVER THE INPUT: true; the input reads as it did. -/
def fnMulRatSpec : ChangeSpec := { name := "fnMulRat", fn := fun _ => fun
  | [d] => { results := [.lit (.bool true)], args := [d] }
  | _ => none }
def fnMulRatRow : OpenClaim := { program := "ytkempbmkplcknaa", sum := "5cb9f33b38b31b0947d227b3b232de7d3881aa93d2f52e7b9682d30396e8d7e7", func := "loop.example/integerplanner/laws.FnMulRat", spec := "fnMulRat", apart := false }
def FnMulRatSaid : Prop := fnMulRatRow.holds Try.pinned (OpenSpec.ofChange fnMulRatSpec)

/-- ITS FALSE NEIGHBOUR: 'it returns false'. Refute it at one input. -/
def fnMulRatWrong : ChangeSpec := { name := "fnMulRat", fn := fun _ => fun
  | [d] => { results := [.lit (.bool false)], args := [d] }
  | _ => none }
def FnMulRatWrongFalsely : Prop := fnMulRatRow.holds Try.pinned (OpenSpec.ofChange fnMulRatWrong)

/-- 'laws.FnMulRatInverse': WHATEVER THE INPUT: true; the input reads as it did. -/
def fnMulRatInverseSpec : ChangeSpec := { name := "fnMulRatInverse", fn := fun _ => fun
  | [d] => { results := [.lit (.bool true)], args := [d] }
  | _ => none }
def fnMulRatInverseRow : OpenClaim := { program := "ytkempbmkplcknaa", sum := "5cb9f33b38b31b0947d227b3b232de7d3881aa93d2f52e7b9682d30396e8d7e7", func := "loop.example/integerplanner/laws.FnMulRatInverse", spec := "fnMulRatInverse", apart := false }
def FnMulRatInverseSaid : Prop := fnMulRatInverseRow.holds Try.pinned (OpenSpec.ofChange fnMulRatInverseSpec)

/-- ITS FALSE NEIGHBOUR: 'it returns false'. Refute it at one input. -/
def fnMulRatInverseWrong : ChangeSpec := { name := "fnMulRatInverse", fn := fun _ => fun
  | [d] => { results := [.lit (.bool false)], args := [d] }
  | _ => none }
def FnMulRatInverseWrongFalsely : Prop := fnMulRatInverseRow.holds Try.pinned (OpenSpec.ofChange fnMulRatInverseWrong)

/-- 'laws.FnMulRatAdds': WHATEVER THE INPUT: true; the input reads as it did. -/
def fnMulRatAddsSpec : ChangeSpec := { name := "fnMulRatAdds", fn := fun _ => fun
  | [d] => { results := [.lit (.bool true)], args := [d] }
  | _ => none }
def fnMulRatAddsRow : OpenClaim := { program := "ytkempbmkplcknaa", sum := "5cb9f33b38b31b0947d227b3b232de7d3881aa93d2f52e7b9682d30396e8d7e7", func := "loop.example/integerplanner/laws.FnMulRatAdds", spec := "fnMulRatAdds", apart := false }
def FnMulRatAddsSaid : Prop := fnMulRatAddsRow.holds Try.pinned (OpenSpec.ofChange fnMulRatAddsSpec)

/-- ITS FALSE NEIGHBOUR: 'it returns false'. Refute it at one input. -/
def fnMulRatAddsWrong : ChangeSpec := { name := "fnMulRatAdds", fn := fun _ => fun
  | [d] => { results := [.lit (.bool false)], args := [d] }
  | _ => none }
def FnMulRatAddsWrongFalsely : Prop := fnMulRatAddsRow.holds Try.pinned (OpenSpec.ofChange fnMulRatAddsWrong)

/-- 'laws.FnCompareRat': WHATEVER THE INPUT: true; the input reads as it did. -/
def fnCompareRatSpec : ChangeSpec := { name := "fnCompareRat", fn := fun _ => fun
  | [d] => { results := [.lit (.bool true)], args := [d] }
  | _ => none }
def fnCompareRatRow : OpenClaim := { program := "ytkempbmkplcknaa", sum := "5cb9f33b38b31b0947d227b3b232de7d3881aa93d2f52e7b9682d30396e8d7e7", func := "loop.example/integerplanner/laws.FnCompareRat", spec := "fnCompareRat", apart := false }
def FnCompareRatSaid : Prop := fnCompareRatRow.holds Try.pinned (OpenSpec.ofChange fnCompareRatSpec)

/-- ITS FALSE NEIGHBOUR: 'it returns false'. Refute it at one input. -/
def fnCompareRatWrong : ChangeSpec := { name := "fnCompareRat", fn := fun _ => fun
  | [d] => { results := [.lit (.bool false)], args := [d] }
  | _ => none }
def FnCompareRatWrongFalsely : Prop := fnCompareRatRow.holds Try.pinned (OpenSpec.ofChange fnCompareRatWrong)

/-- 'laws.FnCompareRatDifference': WHATEVER THE INPUT: true; the input reads as it did. -/
def fnCompareRatDifferenceSpec : ChangeSpec := { name := "fnCompareRatDifference", fn := fun _ => fun
  | [d] => { results := [.lit (.bool true)], args := [d] }
  | _ => none }
def fnCompareRatDifferenceRow : OpenClaim := { program := "ytkempbmkplcknaa", sum := "5cb9f33b38b31b0947d227b3b232de7d3881aa93d2f52e7b9682d30396e8d7e7", func := "loop.example/integerplanner/laws.FnCompareRatDifference", spec := "fnCompareRatDifference", apart := false }
def FnCompareRatDifferenceSaid : Prop := fnCompareRatDifferenceRow.holds Try.pinned (OpenSpec.ofChange fnCompareRatDifferenceSpec)

/-- ITS FALSE NEIGHBOUR: 'it returns false'. Refute it at one input. -/
def fnCompareRatDifferenceWrong : ChangeSpec := { name := "fnCompareRatDifference", fn := fun _ => fun
  | [d] => { results := [.lit (.bool false)], args := [d] }
  | _ => none }
def FnCompareRatDifferenceWrongFalsely : Prop := fnCompareRatDifferenceRow.holds Try.pinned (OpenSpec.ofChange fnCompareRatDifferenceWrong)

/-- 'laws.FnFloorRat': WHATEVER THE INPUT: true; the input reads as it did. -/
def fnFloorRatSpec : ChangeSpec := { name := "fnFloorRat", fn := fun _ => fun
  | [d] => { results := [.lit (.bool true)], args := [d] }
  | _ => none }
def fnFloorRatRow : OpenClaim := { program := "ytkempbmkplcknaa", sum := "5cb9f33b38b31b0947d227b3b232de7d3881aa93d2f52e7b9682d30396e8d7e7", func := "loop.example/integerplanner/laws.FnFloorRat", spec := "fnFloorRat", apart := false }
def FnFloorRatSaid : Prop := fnFloorRatRow.holds Try.pinned (OpenSpec.ofChange fnFloorRatSpec)

/-- ITS FALSE NEIGHBOUR: 'it returns false'. Refute it at one input. -/
def fnFloorRatWrong : ChangeSpec := { name := "fnFloorRat", fn := fun _ => fun
  | [d] => { results := [.lit (.bool false)], args := [d] }
  | _ => none }
def FnFloorRatWrongFalsely : Prop := fnFloorRatRow.holds Try.pinned (OpenSpec.ofChange fnFloorRatWrong)

/-- 'laws.FnMulUnit': WHATEVER THE INPUT: true; the input reads as it did. -/
def fnMulUnitSpec : ChangeSpec := { name := "fnMulUnit", fn := fun _ => fun
  | [d] => { results := [.lit (.bool true)], args := [d] }
  | _ => none }
def fnMulUnitRow : OpenClaim := { program := "ytkempbmkplcknaa", sum := "5cb9f33b38b31b0947d227b3b232de7d3881aa93d2f52e7b9682d30396e8d7e7", func := "loop.example/integerplanner/laws.FnMulUnit", spec := "fnMulUnit", apart := false }
def FnMulUnitSaid : Prop := fnMulUnitRow.holds Try.pinned (OpenSpec.ofChange fnMulUnitSpec)

/-- ITS FALSE NEIGHBOUR: 'it returns false'. Refute it at one input. -/
def fnMulUnitWrong : ChangeSpec := { name := "fnMulUnit", fn := fun _ => fun
  | [d] => { results := [.lit (.bool false)], args := [d] }
  | _ => none }
def FnMulUnitWrongFalsely : Prop := fnMulUnitRow.holds Try.pinned (OpenSpec.ofChange fnMulUnitWrong)

/- THE SECOND FORM. 'bulk': how many values and letters a reading holds, each counted each time it is reached (what is shared counts as often as it is met; a slice's spare places count too). A statement '..UptoSaid' is the law's where the arguments, and the package variables that the reading takes, are together of bulk at most 1048576: NARROWER than '..Said'. Prove '..Said' where nothing that the law and all that it calls make is longer than what came in: it says more and counts as full. Else prove '..UptoSaid'. A law counts once. -/
mutual
def uptoBulk {H : Type} : DataW H → Nat
  | .lit (.string bytes) => bytes.length + 1
  | .lit _ => 1
  | .nil => 1
  | .ptr d => uptoBulk d + 1
  | .slice elems spare => uptoBulkAll elems + uptoBulkAll spare + 1
  | .agg parts => uptoBulkAll parts + 1
  | .iface _ d => uptoBulk d + 1
  | .map entries => uptoBulkEntries entries + 1
  | .held _ => 1
def uptoBulkAll {H : Type} : List (DataW H) → Nat
  | [] => 0
  | d :: r => uptoBulk d + uptoBulkAll r
def uptoBulkEntries {H : Type} : List (Lit × DataW H) → Nat
  | [] => 0
  | x :: r => uptoBulkEntry x + uptoBulkEntries r
def uptoBulkEntry {H : Type} : Lit × DataW H → Nat
  | (.string bytes, d) => bytes.length + uptoBulk d + 1
  | (_, d) => uptoBulk d + 1
 end
def uptoSmall : (H : Type) → List (DataW H) → Bool := fun _ ds => decide (uptoBulkAll ds ≤ 1048576)
def OpenSpec.upto (s : _root_.Go.ChangeSpec) : _root_.Go.OpenSpec := { _root_.Go.OpenSpec.ofChange s with cond := some uptoSmall }

/-- 'laws.FnMakeRat', WHERE WHAT IT READS IS OF BULK AT MOST 1048576: true; the input reads as it did. -/
def fnMakeRatUptoRow : OpenClaim := { program := "ytkempbmkplcknaa", sum := "5cb9f33b38b31b0947d227b3b232de7d3881aa93d2f52e7b9682d30396e8d7e7", func := "loop.example/integerplanner/laws.FnMakeRat", spec := "fnMakeRat", apart := false, narrowed := true }
def FnMakeRatUptoSaid : Prop := fnMakeRatUptoRow.holds Try.pinned (OpenSpec.upto fnMakeRatSpec)

/-- 'laws.FnMakeRatSigns', WHERE WHAT IT READS IS OF BULK AT MOST 1048576: true; the input reads as it did. -/
def fnMakeRatSignsUptoRow : OpenClaim := { program := "ytkempbmkplcknaa", sum := "5cb9f33b38b31b0947d227b3b232de7d3881aa93d2f52e7b9682d30396e8d7e7", func := "loop.example/integerplanner/laws.FnMakeRatSigns", spec := "fnMakeRatSigns", apart := false, narrowed := true }
def FnMakeRatSignsUptoSaid : Prop := fnMakeRatSignsUptoRow.holds Try.pinned (OpenSpec.upto fnMakeRatSignsSpec)

/-- 'laws.FnValidRat', WHERE WHAT IT READS IS OF BULK AT MOST 1048576: true; the input reads as it did. -/
def fnValidRatUptoRow : OpenClaim := { program := "ytkempbmkplcknaa", sum := "5cb9f33b38b31b0947d227b3b232de7d3881aa93d2f52e7b9682d30396e8d7e7", func := "loop.example/integerplanner/laws.FnValidRat", spec := "fnValidRat", apart := false, narrowed := true }
def FnValidRatUptoSaid : Prop := fnValidRatUptoRow.holds Try.pinned (OpenSpec.upto fnValidRatSpec)

/-- 'laws.FnAddRat', WHERE WHAT IT READS IS OF BULK AT MOST 1048576: true; the input reads as it did. -/
def fnAddRatUptoRow : OpenClaim := { program := "ytkempbmkplcknaa", sum := "5cb9f33b38b31b0947d227b3b232de7d3881aa93d2f52e7b9682d30396e8d7e7", func := "loop.example/integerplanner/laws.FnAddRat", spec := "fnAddRat", apart := false, narrowed := true }
def FnAddRatUptoSaid : Prop := fnAddRatUptoRow.holds Try.pinned (OpenSpec.upto fnAddRatSpec)

/-- 'laws.FnAddRatZero', WHERE WHAT IT READS IS OF BULK AT MOST 1048576: true; the input reads as it did. -/
def fnAddRatZeroUptoRow : OpenClaim := { program := "ytkempbmkplcknaa", sum := "5cb9f33b38b31b0947d227b3b232de7d3881aa93d2f52e7b9682d30396e8d7e7", func := "loop.example/integerplanner/laws.FnAddRatZero", spec := "fnAddRatZero", apart := false, narrowed := true }
def FnAddRatZeroUptoSaid : Prop := fnAddRatZeroUptoRow.holds Try.pinned (OpenSpec.upto fnAddRatZeroSpec)

/-- 'laws.FnMulRat', WHERE WHAT IT READS IS OF BULK AT MOST 1048576: true; the input reads as it did. -/
def fnMulRatUptoRow : OpenClaim := { program := "ytkempbmkplcknaa", sum := "5cb9f33b38b31b0947d227b3b232de7d3881aa93d2f52e7b9682d30396e8d7e7", func := "loop.example/integerplanner/laws.FnMulRat", spec := "fnMulRat", apart := false, narrowed := true }
def FnMulRatUptoSaid : Prop := fnMulRatUptoRow.holds Try.pinned (OpenSpec.upto fnMulRatSpec)

/-- 'laws.FnMulRatInverse', WHERE WHAT IT READS IS OF BULK AT MOST 1048576: true; the input reads as it did. -/
def fnMulRatInverseUptoRow : OpenClaim := { program := "ytkempbmkplcknaa", sum := "5cb9f33b38b31b0947d227b3b232de7d3881aa93d2f52e7b9682d30396e8d7e7", func := "loop.example/integerplanner/laws.FnMulRatInverse", spec := "fnMulRatInverse", apart := false, narrowed := true }
def FnMulRatInverseUptoSaid : Prop := fnMulRatInverseUptoRow.holds Try.pinned (OpenSpec.upto fnMulRatInverseSpec)

/-- 'laws.FnMulRatAdds', WHERE WHAT IT READS IS OF BULK AT MOST 1048576: true; the input reads as it did. -/
def fnMulRatAddsUptoRow : OpenClaim := { program := "ytkempbmkplcknaa", sum := "5cb9f33b38b31b0947d227b3b232de7d3881aa93d2f52e7b9682d30396e8d7e7", func := "loop.example/integerplanner/laws.FnMulRatAdds", spec := "fnMulRatAdds", apart := false, narrowed := true }
def FnMulRatAddsUptoSaid : Prop := fnMulRatAddsUptoRow.holds Try.pinned (OpenSpec.upto fnMulRatAddsSpec)

/-- 'laws.FnCompareRat', WHERE WHAT IT READS IS OF BULK AT MOST 1048576: true; the input reads as it did. -/
def fnCompareRatUptoRow : OpenClaim := { program := "ytkempbmkplcknaa", sum := "5cb9f33b38b31b0947d227b3b232de7d3881aa93d2f52e7b9682d30396e8d7e7", func := "loop.example/integerplanner/laws.FnCompareRat", spec := "fnCompareRat", apart := false, narrowed := true }
def FnCompareRatUptoSaid : Prop := fnCompareRatUptoRow.holds Try.pinned (OpenSpec.upto fnCompareRatSpec)

/-- 'laws.FnCompareRatDifference', WHERE WHAT IT READS IS OF BULK AT MOST 1048576: true; the input reads as it did. -/
def fnCompareRatDifferenceUptoRow : OpenClaim := { program := "ytkempbmkplcknaa", sum := "5cb9f33b38b31b0947d227b3b232de7d3881aa93d2f52e7b9682d30396e8d7e7", func := "loop.example/integerplanner/laws.FnCompareRatDifference", spec := "fnCompareRatDifference", apart := false, narrowed := true }
def FnCompareRatDifferenceUptoSaid : Prop := fnCompareRatDifferenceUptoRow.holds Try.pinned (OpenSpec.upto fnCompareRatDifferenceSpec)

/-- 'laws.FnFloorRat', WHERE WHAT IT READS IS OF BULK AT MOST 1048576: true; the input reads as it did. -/
def fnFloorRatUptoRow : OpenClaim := { program := "ytkempbmkplcknaa", sum := "5cb9f33b38b31b0947d227b3b232de7d3881aa93d2f52e7b9682d30396e8d7e7", func := "loop.example/integerplanner/laws.FnFloorRat", spec := "fnFloorRat", apart := false, narrowed := true }
def FnFloorRatUptoSaid : Prop := fnFloorRatUptoRow.holds Try.pinned (OpenSpec.upto fnFloorRatSpec)

/-- 'laws.FnMulUnit', WHERE WHAT IT READS IS OF BULK AT MOST 1048576: true; the input reads as it did. -/
def fnMulUnitUptoRow : OpenClaim := { program := "ytkempbmkplcknaa", sum := "5cb9f33b38b31b0947d227b3b232de7d3881aa93d2f52e7b9682d30396e8d7e7", func := "loop.example/integerplanner/laws.FnMulUnit", spec := "fnMulUnit", apart := false, narrowed := true }
def FnMulUnitUptoSaid : Prop := fnMulUnitUptoRow.holds Try.pinned (OpenSpec.upto fnMulUnitSpec)

end Rows
end Go.Proofs.Ytkempbmkplcknaa
