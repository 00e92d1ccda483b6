
/-
  Frames of calls that only make memory; a block that holds two numbers.
-/
import Derived.Test.YthfneghginanaaaRatD
set_option linter.unusedSimpArgs false
set_option linter.unusedVariables false
namespace Go.Proofs.Ythfneghginanaaa
open Go.RowKit

theorem belTA {w w1 w2 : World} {o : Obj} (h : Below w.heap.size w w1) (hb : Below (w1.alloc o).heap.size (w1.alloc o) w2) : Below w.heap.size w w2 :=
  (belA h h.size).trans (hb.mono (by have := h.size; simp; omega))
theorem belTA2 {w w1 w2 : World} {o o' : Obj} (h : Below w.heap.size w w1) (hb : Below ((w1.alloc o).alloc o').heap.size ((w1.alloc o).alloc o') w2) : Below w.heap.size w w2 :=
  (belA (belA h h.size) (by have := h.size; simp; omega)).trans (hb.mono (by have := h.size; simp; omega))
theorem belAA {w w1 : World} {o : Obj} (h : Below w.heap.size w w1) : Below w.heap.size w (w1.alloc o) := belA h h.size

/-- Block b holds two numbers and can be written. -/
def Two (w : World) (b : Nat) (x y : Value) : Prop :=
  w.cell? ⟨b, 0, none⟩ = some x ∧ w.cell? ⟨b, 1, none⟩ = some y ∧ w.frozen? ⟨b, 0, none⟩ = false ∧ w.frozen? ⟨b, 1, none⟩ = false ∧ b < w.heap.size
theorem Two.keep {w w' : World} {b : Nat} {x y : Value} (h : Two w b x y) (hs : w.heap.size ≤ w'.heap.size) (hb : w'.heap[b]? = w.heap[b]?) : Two w' b x y := by
  obtain ⟨c0, c1, f0, f1, z⟩ := h
  refine ⟨?_, ?_, ?_, ?_, by omega⟩
  · rw [World.cell?_of_block (w := w) (w' := w') (a := ⟨b, 0, none⟩) hb]; exact c0
  · rw [World.cell?_of_block (w := w) (w' := w') (a := ⟨b, 1, none⟩) hb]; exact c1
  · rw [World.frozen?_of_block (w := w) (w' := w') (a := ⟨b, 0, none⟩) hb]; exact f0
  · rw [World.frozen?_of_block (w := w) (w' := w') (a := ⟨b, 1, none⟩) hb]; exact f1
theorem Two.below {w w' : World} {b : Nat} {x y : Value} (h : Two w b x y) (hb : Below w.heap.size w w') : Two w' b x y := h.keep hb.size (hb.block _ h.2.2.2.2)
theorem Two.alloc {w : World} {b : Nat} {x y : Value} (h : Two w b x y) (o : Obj) : Two (w.alloc o) b x y := h.below ((Below.refl _ _).alloc (Nat.le_refl _) _)
theorem Two.drewN {w : World} {b : Nat} {x y : Value} (h : Two w b x y) (n : Nat) : Two (w.drewN n) b x y := h.keep (Nat.le_refl _) rfl
theorem Two.drew {w : World} {b : Nat} {x y : Value} (h : Two w b x y) : Two w.drew b x y := h.drewN 1
theorem Two.pair {w : World} {b : Nat} {x y : Value} (h : Two w b x y) : w.cell? ⟨b, 0, none⟩ = some x ∧ w.cell? ⟨b, 1, none⟩ = some y := ⟨h.1, h.2.1⟩
theorem Two.pair2 {w : World} {b b' : Nat} {x y x' y' : Value} (h : Two w b x y) (h' : Two w b' x' y') : w.cell? ⟨b, 0, none⟩ = some x ∧ w.cell? ⟨b, 1, none⟩ = some y ∧ w.cell? ⟨b', 0, none⟩ = some x' ∧ w.cell? ⟨b', 1, none⟩ = some y' := ⟨h.1, h.2.1, h'.1, h'.2.1⟩
theorem Two.set {w : World} {b b' o : Nat} {x y v : Value} (h : Two w b x y) (hn : b ≠ b') : Two (w.setCell ⟨b', o, none⟩ v) b x y := h.keep (by simp [World.setCell]) (Below.heap_setCell _ _ _ _ (by simpa using hn))
theorem Two.new (w : World) (x y : Value) (t : TypeId) : Two (w.alloc (.cells #[x, y] t)) w.heap.size x y := by
  refine ⟨?_, ?_, ?_, ?_, by simp⟩ <;> simp [World.cell?_alloc_new, go_sem]

end Go.Proofs.Ythfneghginanaaa
