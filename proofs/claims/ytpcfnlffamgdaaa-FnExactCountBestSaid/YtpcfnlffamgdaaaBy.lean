
/-
  Boxes: the ends of the range of a row, in the model.
-/
import Derived.Test.YtpcfnlffamgdaaaBx
set_option linter.unusedSimpArgs false
set_option linter.unusedVariables false
namespace Go.Proofs.Ytpcfnlffamgdaaa
open Go.RowKit

end Go.Proofs.Ytpcfnlffamgdaaa
