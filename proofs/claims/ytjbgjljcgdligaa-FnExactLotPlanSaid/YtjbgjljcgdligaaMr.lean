
/-
  The marks of the exact laws on rows.
-/
import Derived.Test.YtjbgjljcgdligaaMk
set_option linter.unusedSimpArgs false
set_option linter.unusedVariables false
namespace Go.Proofs.Ytjbgjljcgdligaa
open Go.RowKit

end Go.Proofs.Ytjbgjljcgdligaa
