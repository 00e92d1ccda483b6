
/-
  Tables of values, more: the model's table, single best values, and what KnapsackTable answers.
-/
import Derived.Test.YtppdomoifnokpaaKt
set_option linter.unusedSimpArgs false
set_option linter.unusedVariables false
namespace Go.Proofs.Ytppdomoifnokpaa
open Go.RowKit

theorem OwnS.widen {w : World} {lo hi lo' hi' : Nat} {A : Option Addr} {xs : List Int} (h : OwnS w lo hi A xs) (h1 : lo' ≤ lo) (h2 : hi ≤ hi') : OwnS w lo' hi' A xs := by
  obtain ⟨h0 | ⟨g, e, a, b, c⟩, h4⟩ := h
  · exact ⟨.inl h0, h4⟩
  · exact ⟨.inr ⟨g, e, by omega, by omega, c⟩, h4⟩
theorem SliceEnd.pass {L L' : List Int} {w w' : World} {A : Option Addr} {c lo hi : Nat} (e : L' = L) (h : OwnS w' lo hi A L) (h1 : w.heap.size ≤ lo) (h2 : hi ≤ w'.heap.size) (hb : Below w.heap.size w w') : SliceEnd L' w (.returned (.slice A L.length c)) w' := by
  subst e
  exact ⟨A, c, rfl, h.widen h1 h2, hb⟩

end Go.Proofs.Ytppdomoifnokpaa
