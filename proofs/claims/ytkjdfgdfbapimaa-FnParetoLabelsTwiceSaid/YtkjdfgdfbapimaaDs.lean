
/-
  The draws of rows out of the reader.
-/
import Derived.Test.YtkjdfgdfbapimaaDr
set_option linter.unusedSimpArgs false
set_option linter.unusedVariables false
namespace Go.Proofs.Ytkjdfgdfbapimaa
open Go.RowKit

/-- A row was drawn: its numbers lie in a block of its own. -/
def DrewRow (B rb P m : Nat) (w : World) (e : Ending) (w' : World) : Prop :=
  ∃ (g c : Nat) (r : PRow), w.heap.size ≤ g ∧ e = .returned (.agg #[.slice (some ⟨g, 0, none⟩) r.cs.length c, .int .i64 r.s, .int .i64 r.b]) ∧ OwnI w' g r.cs ∧ RowV w' (some ⟨g, 0, none⟩) c r ∧ r.cs.length ≤ m ∧ Rd B w' rb P ∧ Only rb w w'

theorem DrewRow.mk {B rb P m g c n : Nat} {xs : List Int} {s b : Int} {w w' w0 : World} {A : Option Addr} (hg : w.heap.size ≤ g) (ho : OwnI w' g xs) (hi : Ints w0 A n xs) (lc : xs.length ≤ c) (mc : c ≤ maxLen) (hm : xs.length ≤ m) (hs : I64 s) (hb : I64 b)
    (hr : Rd B w' rb P) (hO : Only rb w w') : DrewRow B rb P m w (.returned (.agg #[.slice (some ⟨g, 0, none⟩) xs.length c, .int .i64 s, .int .i64 b])) w' := by
  have e := hi.1
  subst e
  exact ⟨g, c, ⟨xs, s, b⟩, hg, rfl, ho, ⟨ho.ints_of hi, lc, mc, hs, hb⟩, hm, hr, hO⟩

end Go.Proofs.Ytkjdfgdfbapimaa
