
/-
  The draws of rows that may be invalid.
-/
import Derived.Test.YtkjdfgdfbapimaaDs
set_option linter.unusedSimpArgs false
set_option linter.unusedVariables false
namespace Go.Proofs.Ytkjdfgdfbapimaa
open Go.RowKit

/-- A copy that can grow. -/
def CopyEnd (xs : List Int) (w : World) (e : Ending) (w' : World) : Prop :=
  ∃ v : Value, v ≠ .slice none 0 0 ∧ e = .returned v ∧ Grow w' w.heap.size 3 v xs ∧ Below w.heap.size w w'
theorem one_drew (B rb P : Nat) (l : List Int) (w0 : World) (t : TypeId) (lb cap : Nat) (hr : Rd B w0 rb P) (hP : P ≤ 1000000) (h1 : 1 ≤ l.length) (h2 : l.length ≤ 1000) (hlb : lb = w0.heap.size) :
    Calls Try.prog 9 #[.pointer (some ⟨rb, 0, none⟩), .slice (some ⟨lb, 0, none⟩) l.length cap] (w0.alloc (.cells (l.map (Value.int .i64)).toArray t)).drew (DrewOf B rb P l (w0.alloc (.cells (l.map (Value.int .i64)).toArray t)).drew) := by
  subst hlb
  have h0 := hr.2.1
  exact one_any B rb P _ cap l _ (hr.alloc _).drew hP h1 h2 (by omega) (by simp) (fun i hi => by rw [World.cell?_drew]; exact lit_cells i hi)
theorem DrewRow.mk2 {B rb P m g c : Nat} {xs : List Int} {s b : Int} {w w' : World} (hg : w.heap.size ≤ g) (ho : OwnI w' g xs) (hi : ∀ x ∈ xs, I64 x) (lc : xs.length ≤ c) (mc : c ≤ maxLen) (hm : xs.length ≤ m) (hs : I64 s) (hb : I64 b)
    (hr : Rd B w' rb P) (hO : Only rb w w') : DrewRow B rb P m w (.returned (.agg #[.slice (some ⟨g, 0, none⟩) xs.length c, .int .i64 s, .int .i64 b])) w' :=
  ⟨g, c, ⟨xs, s, b⟩, hg, rfl, ho, ⟨ho.ints hi, lc, mc, hs, hb⟩, hm, hr, hO⟩
theorem OwnI.head {w : World} {g : Nat} {x : Int} {xs : List Int} (h : OwnI w g (x :: xs)) (y : Int) : OwnI (w.setCell ⟨g, 0, none⟩ (.int .i64 y)) g (y :: xs) := h.set_ (k := 0) (x0 := x) rfl y
end Go.Proofs.Ytkjdfgdfbapimaa
