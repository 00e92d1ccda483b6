
/-
  Problems: the program's test of validity.
-/
import Derived.Test.YtjbgjljcgdligaaPb
set_option linter.unusedSimpArgs false
set_option linter.unusedVariables false
namespace Go.Proofs.Ytjbgjljcgdligaa
open Go.RowKit

end Go.Proofs.Ytjbgjljcgdligaa
