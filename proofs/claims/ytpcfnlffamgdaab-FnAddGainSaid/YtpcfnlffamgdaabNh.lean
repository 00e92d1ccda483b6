
/-
  Negated rows, more: NegateRow in the model and in the program.
-/
import Derived.Test.YtpcfnlffamgdaabNg
set_option linter.unusedSimpArgs false
set_option linter.unusedVariables false
namespace Go.Proofs.Ytpcfnlffamgdaab
open Go.RowKit

def ngR (r : PRow) : PRow := if vRow r r.cs.length then negR r else ⟨[], 0, 0⟩
theorem ngR_0 {r : PRow} (h : vRow r r.cs.length = false) : ngR r = ⟨[], 0, 0⟩ := by simp [ngR, h]
theorem ngR_1 {r : PRow} (h : vRow r r.cs.length = true) : ngR r = negR r := by simp [ngR, h]
theorem RowEnd.nil {L : PRow} {w w' : World} (h : L = ⟨[], 0, 0⟩) (hb : Below w.heap.size w w') : RowEnd L w (.returned (.agg #[.slice none 0 0, .int .i64 0, .int .i64 0])) w' := by
  subst h; exact ⟨none, 0, rfl, OwnS.nil _ _ _ _, hb⟩

end Go.Proofs.Ytpcfnlffamgdaab
