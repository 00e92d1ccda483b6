
/-
  Values of choices and covers: what the program's functions and the model's answer.
-/
import Derived.Test.YtppdomoifnokpaaKn
set_option linter.unusedSimpArgs false
set_option linter.unusedVariables false
namespace Go.Proofs.Ytppdomoifnokpaa
open Go.RowKit

theorem asc_in {ps : List Int} {n : Nat} (h : ascB ps n = true) : ∀ p ∈ ps, 0 ≤ p ∧ p < n := fun p hp => by have := ascB_mem h p hp; omega
theorem wts_le {ws : List Int} {c : Int} (h : vWts ws c = true) : ws.length ≤ 10 := (vWts_facts h).1

end Go.Proofs.Ytppdomoifnokpaa
