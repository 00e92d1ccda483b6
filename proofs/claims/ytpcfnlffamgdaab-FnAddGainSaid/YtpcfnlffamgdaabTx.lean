
/-
  The helpers of the exact laws: sizes, copies and comparisons of lists of numbers.
-/
import Derived.Test.YtpcfnlffamgdaabQ2
set_option linter.unusedSimpArgs false
set_option linter.unusedVariables false
namespace Go.Proofs.Ytpcfnlffamgdaab
open Go.RowKit

theorem info_int : (Try.prog.info? 3).map (fun i => (i.zero, i.size, i.bytes)) = some (some (.int .i64 0), 1, 8) := by kernel_rfl

def szI (left : Int) (n : Nat) : Int := if left - n < 0 then -1 else left - n
theorem szI_pos {left : Int} {n : Nat} (h : left - n < 0) : szI left n = -1 := by unfold szI; rw [if_pos h]
theorem szI_neg {left : Int} {n : Nat} (h : ¬ left - n < 0) : szI left n = left - n := by unfold szI; rw [if_neg h]
end Go.Proofs.Ytpcfnlffamgdaab
