
/-
  Problems: the program's test of validity.
-/
import Derived.Test.YtppdomoifnokpaaPb
set_option linter.unusedSimpArgs false
set_option linter.unusedVariables false
namespace Go.Proofs.Ytppdomoifnokpaa
open Go.RowKit

end Go.Proofs.Ytppdomoifnokpaa
