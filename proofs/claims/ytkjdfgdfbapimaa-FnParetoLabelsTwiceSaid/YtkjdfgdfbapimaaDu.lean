
/-
  The draws of the laws on rows; rows that are equal.
-/
import Derived.Test.YtkjdfgdfbapimaaDt
set_option linter.unusedSimpArgs false
set_option linter.unusedVariables false
namespace Go.Proofs.Ytkjdfgdfbapimaa
open Go.RowKit

/-- A row was drawn: its numbers lie in a block of its own. -/
def RowDrawn (w : World) (e : Ending) (w' : World) : Prop :=
  ∃ (g c : Nat) (r : PRow), w.heap.size ≤ g ∧ e = .returned (.agg #[.slice (some ⟨g, 0, none⟩) r.cs.length c, .int .i64 r.s, .int .i64 r.b]) ∧ OwnI w' g r.cs ∧ RowV w' (some ⟨g, 0, none⟩) c r ∧ r.cs.length ≤ 1000 ∧ Below w.heap.size w w'

theorem RowDrawn.mk {g c n : Nat} {xs : List Int} {s b : Int} {A : Option Addr} {w w' w0 : World} (hg : w.heap.size ≤ g) (ho : OwnI w' g xs) (hi : Ints w0 A n xs) (lc : xs.length ≤ c) (mc : c ≤ maxLen) (hm : xs.length ≤ 1000) (hs : I64 s) (hb : I64 b) (hO : Below w.heap.size w w') :
    RowDrawn w (.returned (.agg #[.slice (some ⟨g, 0, none⟩) xs.length c, .int .i64 s, .int .i64 b])) w' := by
  have e := hi.1
  subst e
  exact ⟨g, c, ⟨xs, s, b⟩, hg, rfl, ho, ⟨ho.ints_of hi, lc, mc, hs, hb⟩, hm, hO⟩
end Go.Proofs.Ytkjdfgdfbapimaa
