
/-
  The draws of lists of numbers out of the reader.
-/
import Derived.Test.YtkjdfgdfbapimaaDq
set_option linter.unusedSimpArgs false
set_option linter.unusedVariables false
namespace Go.Proofs.Ytkjdfgdfbapimaa
open Go.RowKit

/-- A list of n numbers between low and high was drawn. -/
def DrewSome (B rb P n : Nat) (low high : Int) (w : World) (e : Ending) (w' : World) : Prop :=
  ∃ (v : Value) (xs : List Int), xs.length = n ∧ (∀ x ∈ xs, low ≤ x ∧ x ≤ high) ∧ v ≠ .slice none 0 0 ∧ e = .returned v ∧ Grow w' w.heap.size 3 v xs ∧ Rd B w' rb P ∧ Only rb w w'

end Go.Proofs.Ytkjdfgdfbapimaa
