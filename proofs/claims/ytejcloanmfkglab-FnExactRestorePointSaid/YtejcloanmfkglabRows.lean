/-
  No cell of these rows narrows 'for every input' (looked for: loops, veiled, ifaces, maps, wideKeys, modest, calm, conditions, laid).
  DERIVED. THE GIVEN ROWS OF THIS SEAT. 10 by the template 'for every input the law returns true; each argument reads behind the call as it read before'; 0 by the template 'total and deterministic' (their statements: YtejcloanmfkglabTotals.lean).
  GIVEN WITH THE SEED: the statements are not yours to turn. If you find one false, say at which input.
  Laid BY PROGRAM, IN A SANDBOX (cutbox-rows.mjs): the forced cells as the released guide's own fill.sh prints them over the translation 0219e40c5535514c… (all of the seat's roots in one cut). By AI agents, Wed Nov 11 2026. No macro, syntax, notation, axiom, sorry.
-/
import Derived.Test.YtejcloanmfkglabChecked
import GoSem.Claim
import GoSem.ClaimJoined
import GoSem.ClaimMapViews
import Derived.JoinedTies
import Derived.KernelRfl
namespace Go.Proofs.Ytejcloanmfkglab
/- THE CELL 'sum', in the pinned program and in every row, IS THE sha256 OF THE DUMP (.gsa) THAT YtejcloanmfkglabProg.lean LOADS. Nothing in Lean hashes anything: it is a label: what it is worth is what the hold of that sum in a sandbox is worth. -/
noncomputable def Try.pinned : Pinned := { name := "ytejcloanmfkglab", sum := "0219e40c5535514cd2f9c0c5e94453da67373e4d0dfece9c94d3afc4044c4131", checked := Try.checked }
namespace Rows
def none {H : Type} : Left H := { results := [], args := [] }

/-- 'laws.FnExactNormalTerms': WHATEVER THE INPUT: true; the input reads as it did. -/
def fnExactNormalTermsSpec : ChangeSpec := { name := "fnExactNormalTerms", fn := fun _ => fun
  | [d] => { results := [.lit (.bool true)], args := [d] }
  | _ => none }
def fnExactNormalTermsRow : OpenClaim := { program := "ytejcloanmfkglab", sum := "0219e40c5535514cd2f9c0c5e94453da67373e4d0dfece9c94d3afc4044c4131", func := "loop.example/integerplanner/laws.FnExactNormalTerms", spec := "fnExactNormalTerms", apart := false }
def FnExactNormalTermsSaid : Prop := fnExactNormalTermsRow.holds Try.pinned (OpenSpec.ofChange fnExactNormalTermsSpec)

/-- ITS FALSE NEIGHBOUR: 'it returns false'. Refute it at one input. -/
def fnExactNormalTermsWrong : ChangeSpec := { name := "fnExactNormalTerms", fn := fun _ => fun
  | [d] => { results := [.lit (.bool false)], args := [d] }
  | _ => none }
def FnExactNormalTermsWrongFalsely : Prop := fnExactNormalTermsRow.holds Try.pinned (OpenSpec.ofChange fnExactNormalTermsWrong)

/-- 'laws.FnExactAddTerms': WHATEVER THE INPUT: true; the input reads as it did. -/
def fnExactAddTermsSpec : ChangeSpec := { name := "fnExactAddTerms", fn := fun _ => fun
  | [d1, d2] => { results := [.lit (.bool true)], args := [d1, d2] }
  | _ => none }
def fnExactAddTermsRow : OpenClaim := { program := "ytejcloanmfkglab", sum := "0219e40c5535514cd2f9c0c5e94453da67373e4d0dfece9c94d3afc4044c4131", func := "loop.example/integerplanner/laws.FnExactAddTerms", spec := "fnExactAddTerms", apart := false }
def FnExactAddTermsSaid : Prop := fnExactAddTermsRow.holds Try.pinned (OpenSpec.ofChange fnExactAddTermsSpec)

/-- ITS FALSE NEIGHBOUR: 'it returns false'. Refute it at one input. -/
def fnExactAddTermsWrong : ChangeSpec := { name := "fnExactAddTerms", fn := fun _ => fun
  | [d1, d2] => { results := [.lit (.bool false)], args := [d1, d2] }
  | _ => none }
def FnExactAddTermsWrongFalsely : Prop := fnExactAddTermsRow.holds Try.pinned (OpenSpec.ofChange fnExactAddTermsWrong)

/-- 'laws.FnExactScaleTerms': WHATEVER THE INPUT: true; the input reads as it did. -/
def fnExactScaleTermsSpec : ChangeSpec := { name := "fnExactScaleTerms", fn := fun _ => fun
  | [d1, d2] => { results := [.lit (.bool true)], args := [d1, d2] }
  | _ => none }
def fnExactScaleTermsRow : OpenClaim := { program := "ytejcloanmfkglab", sum := "0219e40c5535514cd2f9c0c5e94453da67373e4d0dfece9c94d3afc4044c4131", func := "loop.example/integerplanner/laws.FnExactScaleTerms", spec := "fnExactScaleTerms", apart := false }
def FnExactScaleTermsSaid : Prop := fnExactScaleTermsRow.holds Try.pinned (OpenSpec.ofChange fnExactScaleTermsSpec)

/-- ITS FALSE NEIGHBOUR: 'it returns false'. Refute it at one input. -/
def fnExactScaleTermsWrong : ChangeSpec := { name := "fnExactScaleTerms", fn := fun _ => fun
  | [d1, d2] => { results := [.lit (.bool false)], args := [d1, d2] }
  | _ => none }
def FnExactScaleTermsWrongFalsely : Prop := fnExactScaleTermsRow.holds Try.pinned (OpenSpec.ofChange fnExactScaleTermsWrong)

/-- 'laws.FnExactRowOfTerms': WHATEVER THE INPUT: true; the input reads as it did. -/
def fnExactRowOfTermsSpec : ChangeSpec := { name := "fnExactRowOfTerms", fn := fun _ => fun
  | [d1, d2, d3, d4] => { results := [.lit (.bool true)], args := [d1, d2, d3, d4] }
  | _ => none }
def fnExactRowOfTermsRow : OpenClaim := { program := "ytejcloanmfkglab", sum := "0219e40c5535514cd2f9c0c5e94453da67373e4d0dfece9c94d3afc4044c4131", func := "loop.example/integerplanner/laws.FnExactRowOfTerms", spec := "fnExactRowOfTerms", apart := false }
def FnExactRowOfTermsSaid : Prop := fnExactRowOfTermsRow.holds Try.pinned (OpenSpec.ofChange fnExactRowOfTermsSpec)

/-- ITS FALSE NEIGHBOUR: 'it returns false'. Refute it at one input. -/
def fnExactRowOfTermsWrong : ChangeSpec := { name := "fnExactRowOfTerms", fn := fun _ => fun
  | [d1, d2, d3, d4] => { results := [.lit (.bool false)], args := [d1, d2, d3, d4] }
  | _ => none }
def FnExactRowOfTermsWrongFalsely : Prop := fnExactRowOfTermsRow.holds Try.pinned (OpenSpec.ofChange fnExactRowOfTermsWrong)

/-- 'laws.FnExactViolated': WHATEVER THE INPUT: true; the input reads as it did. -/
def fnExactViolatedSpec : ChangeSpec := { name := "fnExactViolated", fn := fun _ => fun
  | [d1, d2] => { results := [.lit (.bool true)], args := [d1, d2] }
  | _ => none }
def fnExactViolatedRow : OpenClaim := { program := "ytejcloanmfkglab", sum := "0219e40c5535514cd2f9c0c5e94453da67373e4d0dfece9c94d3afc4044c4131", func := "loop.example/integerplanner/laws.FnExactViolated", spec := "fnExactViolated", apart := false }
def FnExactViolatedSaid : Prop := fnExactViolatedRow.holds Try.pinned (OpenSpec.ofChange fnExactViolatedSpec)

/-- ITS FALSE NEIGHBOUR: 'it returns false'. Refute it at one input. -/
def fnExactViolatedWrong : ChangeSpec := { name := "fnExactViolated", fn := fun _ => fun
  | [d1, d2] => { results := [.lit (.bool false)], args := [d1, d2] }
  | _ => none }
def FnExactViolatedWrongFalsely : Prop := fnExactViolatedRow.holds Try.pinned (OpenSpec.ofChange fnExactViolatedWrong)

/-- 'laws.FnExactStartBox': WHATEVER THE INPUT: true; the input reads as it did. -/
def fnExactStartBoxSpec : ChangeSpec := { name := "fnExactStartBox", fn := fun _ => fun
  | [d] => { results := [.lit (.bool true)], args := [d] }
  | _ => none }
def fnExactStartBoxRow : OpenClaim := { program := "ytejcloanmfkglab", sum := "0219e40c5535514cd2f9c0c5e94453da67373e4d0dfece9c94d3afc4044c4131", func := "loop.example/integerplanner/laws.FnExactStartBox", spec := "fnExactStartBox", apart := false }
def FnExactStartBoxSaid : Prop := fnExactStartBoxRow.holds Try.pinned (OpenSpec.ofChange fnExactStartBoxSpec)

/-- ITS FALSE NEIGHBOUR: 'it returns false'. Refute it at one input. -/
def fnExactStartBoxWrong : ChangeSpec := { name := "fnExactStartBox", fn := fun _ => fun
  | [d] => { results := [.lit (.bool false)], args := [d] }
  | _ => none }
def FnExactStartBoxWrongFalsely : Prop := fnExactStartBoxRow.holds Try.pinned (OpenSpec.ofChange fnExactStartBoxWrong)

/-- 'laws.FnExactTightenRow': WHATEVER THE INPUT: true; the input reads as it did. -/
def fnExactTightenRowSpec : ChangeSpec := { name := "fnExactTightenRow", fn := fun _ => fun
  | [d1, d2, d3] => { results := [.lit (.bool true)], args := [d1, d2, d3] }
  | _ => none }
def fnExactTightenRowRow : OpenClaim := { program := "ytejcloanmfkglab", sum := "0219e40c5535514cd2f9c0c5e94453da67373e4d0dfece9c94d3afc4044c4131", func := "loop.example/integerplanner/laws.FnExactTightenRow", spec := "fnExactTightenRow", apart := false }
def FnExactTightenRowSaid : Prop := fnExactTightenRowRow.holds Try.pinned (OpenSpec.ofChange fnExactTightenRowSpec)

/-- ITS FALSE NEIGHBOUR: 'it returns false'. Refute it at one input. -/
def fnExactTightenRowWrong : ChangeSpec := { name := "fnExactTightenRow", fn := fun _ => fun
  | [d1, d2, d3] => { results := [.lit (.bool false)], args := [d1, d2, d3] }
  | _ => none }
def FnExactTightenRowWrongFalsely : Prop := fnExactTightenRowRow.holds Try.pinned (OpenSpec.ofChange fnExactTightenRowWrong)

/-- 'laws.FnExactRedundantRows': WHATEVER THE INPUT: true; the input reads as it did. -/
def fnExactRedundantRowsSpec : ChangeSpec := { name := "fnExactRedundantRows", fn := fun _ => fun
  | [d1, d2] => { results := [.lit (.bool true)], args := [d1, d2] }
  | _ => none }
def fnExactRedundantRowsRow : OpenClaim := { program := "ytejcloanmfkglab", sum := "0219e40c5535514cd2f9c0c5e94453da67373e4d0dfece9c94d3afc4044c4131", func := "loop.example/integerplanner/laws.FnExactRedundantRows", spec := "fnExactRedundantRows", apart := false }
def FnExactRedundantRowsSaid : Prop := fnExactRedundantRowsRow.holds Try.pinned (OpenSpec.ofChange fnExactRedundantRowsSpec)

/-- ITS FALSE NEIGHBOUR: 'it returns false'. Refute it at one input. -/
def fnExactRedundantRowsWrong : ChangeSpec := { name := "fnExactRedundantRows", fn := fun _ => fun
  | [d1, d2] => { results := [.lit (.bool false)], args := [d1, d2] }
  | _ => none }
def FnExactRedundantRowsWrongFalsely : Prop := fnExactRedundantRowsRow.holds Try.pinned (OpenSpec.ofChange fnExactRedundantRowsWrong)

/-- 'laws.FnExactRestorePoint': WHATEVER THE INPUT: true; the input reads as it did. -/
def fnExactRestorePointSpec : ChangeSpec := { name := "fnExactRestorePoint", fn := fun _ => fun
  | [d1, d2, d3] => { results := [.lit (.bool true)], args := [d1, d2, d3] }
  | _ => none }
def fnExactRestorePointRow : OpenClaim := { program := "ytejcloanmfkglab", sum := "0219e40c5535514cd2f9c0c5e94453da67373e4d0dfece9c94d3afc4044c4131", func := "loop.example/integerplanner/laws.FnExactRestorePoint", spec := "fnExactRestorePoint", apart := false }
def FnExactRestorePointSaid : Prop := fnExactRestorePointRow.holds Try.pinned (OpenSpec.ofChange fnExactRestorePointSpec)

/-- ITS FALSE NEIGHBOUR: 'it returns false'. Refute it at one input. -/
def fnExactRestorePointWrong : ChangeSpec := { name := "fnExactRestorePoint", fn := fun _ => fun
  | [d1, d2, d3] => { results := [.lit (.bool false)], args := [d1, d2, d3] }
  | _ => none }
def FnExactRestorePointWrongFalsely : Prop := fnExactRestorePointRow.holds Try.pinned (OpenSpec.ofChange fnExactRestorePointWrong)

/-- 'laws.FnExactCountFeasible': WHATEVER THE INPUT: true; the input reads as it did. -/
def fnExactCountFeasibleSpec : ChangeSpec := { name := "fnExactCountFeasible", fn := fun _ => fun
  | [d] => { results := [.lit (.bool true)], args := [d] }
  | _ => none }
def fnExactCountFeasibleRow : OpenClaim := { program := "ytejcloanmfkglab", sum := "0219e40c5535514cd2f9c0c5e94453da67373e4d0dfece9c94d3afc4044c4131", func := "loop.example/integerplanner/laws.FnExactCountFeasible", spec := "fnExactCountFeasible", unfollowed := true, recurses := true, apart := false }
def FnExactCountFeasibleSaid : Prop := fnExactCountFeasibleRow.holds Try.pinned (OpenSpec.ofChange fnExactCountFeasibleSpec)

/-- ITS FALSE NEIGHBOUR: 'it returns false'. Refute it at one input. -/
def fnExactCountFeasibleWrong : ChangeSpec := { name := "fnExactCountFeasible", fn := fun _ => fun
  | [d] => { results := [.lit (.bool false)], args := [d] }
  | _ => none }
def FnExactCountFeasibleWrongFalsely : Prop := fnExactCountFeasibleRow.holds Try.pinned (OpenSpec.ofChange fnExactCountFeasibleWrong)

/- THE SECOND FORM. 'bulk': how many values and letters a reading holds, each counted each time it is reached (what is shared counts as often as it is met; a slice's spare places count too). A statement '..UptoSaid' is the law's where the arguments, and the package variables that the reading takes, are together of bulk at most 1048576: NARROWER than '..Said'. Prove '..Said' where nothing that the law and all that it calls make is longer than what came in: it says more and counts as full. Else prove '..UptoSaid'. A law counts once. -/
mutual
def uptoBulk {H : Type} : DataW H → Nat
  | .lit (.string bytes) => bytes.length + 1
  | .lit _ => 1
  | .nil => 1
  | .ptr d => uptoBulk d + 1
  | .slice elems spare => uptoBulkAll elems + uptoBulkAll spare + 1
  | .agg parts => uptoBulkAll parts + 1
  | .iface _ d => uptoBulk d + 1
  | .map entries => uptoBulkEntries entries + 1
  | .held _ => 1
def uptoBulkAll {H : Type} : List (DataW H) → Nat
  | [] => 0
  | d :: r => uptoBulk d + uptoBulkAll r
def uptoBulkEntries {H : Type} : List (Lit × DataW H) → Nat
  | [] => 0
  | x :: r => uptoBulkEntry x + uptoBulkEntries r
def uptoBulkEntry {H : Type} : Lit × DataW H → Nat
  | (.string bytes, d) => bytes.length + uptoBulk d + 1
  | (_, d) => uptoBulk d + 1
 end
def uptoSmall : (H : Type) → List (DataW H) → Bool := fun _ ds => decide (uptoBulkAll ds ≤ 1048576)
def OpenSpec.upto (s : _root_.Go.ChangeSpec) : _root_.Go.OpenSpec := { _root_.Go.OpenSpec.ofChange s with cond := some uptoSmall }

/-- 'laws.FnExactNormalTerms', WHERE WHAT IT READS IS OF BULK AT MOST 1048576: true; the input reads as it did. -/
def fnExactNormalTermsUptoRow : OpenClaim := { program := "ytejcloanmfkglab", sum := "0219e40c5535514cd2f9c0c5e94453da67373e4d0dfece9c94d3afc4044c4131", func := "loop.example/integerplanner/laws.FnExactNormalTerms", spec := "fnExactNormalTerms", apart := false, narrowed := true }
def FnExactNormalTermsUptoSaid : Prop := fnExactNormalTermsUptoRow.holds Try.pinned (OpenSpec.upto fnExactNormalTermsSpec)

/-- 'laws.FnExactAddTerms', WHERE WHAT IT READS IS OF BULK AT MOST 1048576: true; the input reads as it did. -/
def fnExactAddTermsUptoRow : OpenClaim := { program := "ytejcloanmfkglab", sum := "0219e40c5535514cd2f9c0c5e94453da67373e4d0dfece9c94d3afc4044c4131", func := "loop.example/integerplanner/laws.FnExactAddTerms", spec := "fnExactAddTerms", apart := false, narrowed := true }
def FnExactAddTermsUptoSaid : Prop := fnExactAddTermsUptoRow.holds Try.pinned (OpenSpec.upto fnExactAddTermsSpec)

/-- 'laws.FnExactScaleTerms', WHERE WHAT IT READS IS OF BULK AT MOST 1048576: true; the input reads as it did. -/
def fnExactScaleTermsUptoRow : OpenClaim := { program := "ytejcloanmfkglab", sum := "0219e40c5535514cd2f9c0c5e94453da67373e4d0dfece9c94d3afc4044c4131", func := "loop.example/integerplanner/laws.FnExactScaleTerms", spec := "fnExactScaleTerms", apart := false, narrowed := true }
def FnExactScaleTermsUptoSaid : Prop := fnExactScaleTermsUptoRow.holds Try.pinned (OpenSpec.upto fnExactScaleTermsSpec)

/-- 'laws.FnExactRowOfTerms', WHERE WHAT IT READS IS OF BULK AT MOST 1048576: true; the input reads as it did. -/
def fnExactRowOfTermsUptoRow : OpenClaim := { program := "ytejcloanmfkglab", sum := "0219e40c5535514cd2f9c0c5e94453da67373e4d0dfece9c94d3afc4044c4131", func := "loop.example/integerplanner/laws.FnExactRowOfTerms", spec := "fnExactRowOfTerms", apart := false, narrowed := true }
def FnExactRowOfTermsUptoSaid : Prop := fnExactRowOfTermsUptoRow.holds Try.pinned (OpenSpec.upto fnExactRowOfTermsSpec)

/-- 'laws.FnExactViolated', WHERE WHAT IT READS IS OF BULK AT MOST 1048576: true; the input reads as it did. -/
def fnExactViolatedUptoRow : OpenClaim := { program := "ytejcloanmfkglab", sum := "0219e40c5535514cd2f9c0c5e94453da67373e4d0dfece9c94d3afc4044c4131", func := "loop.example/integerplanner/laws.FnExactViolated", spec := "fnExactViolated", apart := false, narrowed := true }
def FnExactViolatedUptoSaid : Prop := fnExactViolatedUptoRow.holds Try.pinned (OpenSpec.upto fnExactViolatedSpec)

/-- 'laws.FnExactStartBox', WHERE WHAT IT READS IS OF BULK AT MOST 1048576: true; the input reads as it did. -/
def fnExactStartBoxUptoRow : OpenClaim := { program := "ytejcloanmfkglab", sum := "0219e40c5535514cd2f9c0c5e94453da67373e4d0dfece9c94d3afc4044c4131", func := "loop.example/integerplanner/laws.FnExactStartBox", spec := "fnExactStartBox", apart := false, narrowed := true }
def FnExactStartBoxUptoSaid : Prop := fnExactStartBoxUptoRow.holds Try.pinned (OpenSpec.upto fnExactStartBoxSpec)

/-- 'laws.FnExactTightenRow', WHERE WHAT IT READS IS OF BULK AT MOST 1048576: true; the input reads as it did. -/
def fnExactTightenRowUptoRow : OpenClaim := { program := "ytejcloanmfkglab", sum := "0219e40c5535514cd2f9c0c5e94453da67373e4d0dfece9c94d3afc4044c4131", func := "loop.example/integerplanner/laws.FnExactTightenRow", spec := "fnExactTightenRow", apart := false, narrowed := true }
def FnExactTightenRowUptoSaid : Prop := fnExactTightenRowUptoRow.holds Try.pinned (OpenSpec.upto fnExactTightenRowSpec)

/-- 'laws.FnExactRedundantRows', WHERE WHAT IT READS IS OF BULK AT MOST 1048576: true; the input reads as it did. -/
def fnExactRedundantRowsUptoRow : OpenClaim := { program := "ytejcloanmfkglab", sum := "0219e40c5535514cd2f9c0c5e94453da67373e4d0dfece9c94d3afc4044c4131", func := "loop.example/integerplanner/laws.FnExactRedundantRows", spec := "fnExactRedundantRows", apart := false, narrowed := true }
def FnExactRedundantRowsUptoSaid : Prop := fnExactRedundantRowsUptoRow.holds Try.pinned (OpenSpec.upto fnExactRedundantRowsSpec)

/-- 'laws.FnExactRestorePoint', WHERE WHAT IT READS IS OF BULK AT MOST 1048576: true; the input reads as it did. -/
def fnExactRestorePointUptoRow : OpenClaim := { program := "ytejcloanmfkglab", sum := "0219e40c5535514cd2f9c0c5e94453da67373e4d0dfece9c94d3afc4044c4131", func := "loop.example/integerplanner/laws.FnExactRestorePoint", spec := "fnExactRestorePoint", apart := false, narrowed := true }
def FnExactRestorePointUptoSaid : Prop := fnExactRestorePointUptoRow.holds Try.pinned (OpenSpec.upto fnExactRestorePointSpec)

/-- 'laws.FnExactCountFeasible', WHERE WHAT IT READS IS OF BULK AT MOST 1048576: true; the input reads as it did. -/
def fnExactCountFeasibleUptoRow : OpenClaim := { program := "ytejcloanmfkglab", sum := "0219e40c5535514cd2f9c0c5e94453da67373e4d0dfece9c94d3afc4044c4131", func := "loop.example/integerplanner/laws.FnExactCountFeasible", spec := "fnExactCountFeasible", unfollowed := true, recurses := true, apart := false, narrowed := true }
def FnExactCountFeasibleUptoSaid : Prop := fnExactCountFeasibleUptoRow.holds Try.pinned (OpenSpec.upto fnExactCountFeasibleSpec)

end Rows
end Go.Proofs.Ytejcloanmfkglab
