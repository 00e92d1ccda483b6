
/-
  The helpers of the exact laws on problems and boxes.
-/
import Derived.Test.YtpcfnlffamgdaabTz
set_option linter.unusedSimpArgs false
set_option linter.unusedVariables false
namespace Go.Proofs.Ytpcfnlffamgdaab
open Go.RowKit

def SzEnd (left : Int) (P : Prop) (w : World) (e : Ending) (w' : World) : Prop := ∃ v, Sz left v P ∧ e = .returned (.int .i64 v) ∧ Below w.heap.size w w'
/-- A problem of the call's own, from block lo on; its rows from block lo2 on. -/
def OwnP (w : World) (lo g0 g1 g2 : Nat) (p : PProb) : Prop := lo ≤ g0 ∧ g0 < g1 ∧ OwnI w g0 p.costs ∧ OwnI w g1 p.uppers ∧ ∃ lo2, g1 < lo2 ∧ OwnR w lo2 g2 p.rows.length p.rows p.rows.length
def ToProbEnd (p : PProb) (w : World) (e : Ending) (w' : World) : Prop :=
  ∃ g0 g1 g2, e = .returned (.agg #[.slice (some ⟨g0, 0, none⟩) p.costs.length p.costs.length, .slice (some ⟨g1, 0, none⟩) p.uppers.length p.uppers.length, .slice (some ⟨g2, 0, none⟩) p.rows.length p.rows.length]) ∧ OwnP w' w.heap.size g0 g1 g2 p ∧
    ProbV w' (some ⟨g0, 0, none⟩) (some ⟨g1, 0, none⟩) (some ⟨g2, 0, none⟩) p.costs.length p.uppers.length p.rows.length p ∧ Below w.heap.size w w'
def ToBoxEnd (p : PBox) (w : World) (e : Ending) (w' : World) : Prop :=
  ∃ g0 g1, e = .returned (.agg #[.slice (some ⟨g0, 0, none⟩) p.low.length p.low.length, .slice (some ⟨g1, 0, none⟩) p.high.length p.high.length]) ∧
    (w.heap.size ≤ g0 ∧ g0 < g1 ∧ OwnI w' g0 p.low ∧ OwnI w' g1 p.high) ∧ BoxV w' (some ⟨g0, 0, none⟩) (some ⟨g1, 0, none⟩) p.low.length p.high.length p ∧ Below w.heap.size w w'
end Go.Proofs.Ytpcfnlffamgdaab
