
/-
  Problems: the program's test of validity.
-/
import Derived.Test.YtkjdfgdfbapimaaPb
set_option linter.unusedSimpArgs false
set_option linter.unusedVariables false
namespace Go.Proofs.Ytkjdfgdfbapimaa
open Go.RowKit

end Go.Proofs.Ytkjdfgdfbapimaa
