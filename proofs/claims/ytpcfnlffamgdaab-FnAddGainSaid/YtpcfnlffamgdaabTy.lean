
/-
  The helpers of the exact laws on rows.
-/
import Derived.Test.YtpcfnlffamgdaabTx
set_option linter.unusedSimpArgs false
set_option linter.unusedVariables false
namespace Go.Proofs.Ytpcfnlffamgdaab
open Go.RowKit

theorem RowV.small {w : World} {A : Option Addr} {c : Nat} {r : PRow} (h : RowV w A c r) : r.cs.length ≤ maxLen := Nat.le_trans h.2.1 h.2.2.1

end Go.Proofs.Ytpcfnlffamgdaab
