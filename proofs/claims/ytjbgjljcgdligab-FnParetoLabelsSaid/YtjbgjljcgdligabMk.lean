
/-
  The marks of the exact laws: what they write, and what they find again.
-/
import Derived.Test.YtjbgjljcgdligabM3
import Derived.Test.YtjbgjljcgdligabTp
set_option linter.unusedSimpArgs false
set_option linter.unusedVariables false
namespace Go.Proofs.Ytjbgjljcgdligab
open Go.RowKit

/-- All rows from place k on are still the call's own; their headers stand. -/
def RowsLeft (w : World) (g n : Nat) (rs : List PRow) (G : Nat → Nat) (k : Nat) : Prop :=
  (∀ j, j < n * 3 → ∃ v, w.cell? ⟨g, j, none⟩ = some v ∧ w.frozen? ⟨g, j, none⟩ = false) ∧
    ∀ i r, rs[i]? = some r → w.cell? ⟨g, i * 3, none⟩ = some (.slice (some ⟨G i, 0, none⟩) r.cs.length r.cs.length) ∧ (k ≤ i → OwnI w (G i) r.cs)

end Go.Proofs.Ytjbgjljcgdligab
