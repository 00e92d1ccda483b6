
/-
  Problems: the program's test of validity.
-/
import Derived.Test.YtfidahpaidkhgaaPb
set_option linter.unusedSimpArgs false
set_option linter.unusedVariables false
namespace Go.Proofs.Ytfidahpaidkhgaa
open Go.RowKit

end Go.Proofs.Ytfidahpaidkhgaa
