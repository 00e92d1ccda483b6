
/-
  Boxes: the ends of the range of a row, in the model.
-/
import Derived.Test.YtpcfnlffamgdaabBx
set_option linter.unusedSimpArgs false
set_option linter.unusedVariables false
namespace Go.Proofs.Ytpcfnlffamgdaab
open Go.RowKit

end Go.Proofs.Ytpcfnlffamgdaab
