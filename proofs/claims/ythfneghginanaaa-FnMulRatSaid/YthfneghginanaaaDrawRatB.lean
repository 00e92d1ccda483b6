
/-
  The draws of the laws on rational numbers, whole.
-/
import Derived.Test.YthfneghginanaaaDrawRat
import Derived.Test.YthfneghginanaaaTwo
import Derived.Deep.RegionHeld3
set_option linter.unusedSimpArgs false
set_option linter.unusedVariables false
namespace Go.Proofs.Ythfneghginanaaa
open Go.RowKit

theorem Two.only {rb : Nat} {w w' : World} {b : Nat} {x y : Value} (h : Two w b x y) (ho : Only rb w w') (hn : b ≠ rb) : Two w' b x y := h.keep ho.size (ho.block _ h.2.2.2.2 hn)

/-- Two small numbers were drawn. -/
def DrewTwo (B : Nat) (w : World) (e : Ending) (w' : World) : Prop :=
  ∃ n d : Int, (-200000000000 ≤ n ∧ n ≤ 200000000000) ∧ (-200000000000 ≤ d ∧ d ≤ 200000000000) ∧ e = .returned (.tuple #[.int .i64 n, .int .i64 d]) ∧ Below B w w'

end Go.Proofs.Ythfneghginanaaa
