
/-
  Words for memory, more: what a call that writes into some blocks alone leaves; slices of the call's own within bounds.
-/
import Derived.Test.YtpcfnlffamgdaabM2
set_option linter.unusedSimpArgs false
set_option linter.unusedVariables false
namespace Go.Proofs.Ytpcfnlffamgdaab
open Go.RowKit

/-- Blocks from lo up to hi, and what is new, may have turned; nothing else has. -/
structure Turn (lo hi : Nat) (w w' : World) : Prop where
  os : w'.os = w.os
  tape : w'.tape = w.tape
  output : w'.output = w.output
  size : w.heap.size ≤ w'.heap.size
  block : ∀ b, b < w.heap.size → (b < lo ∨ hi ≤ b) → w'.heap[b]? = w.heap[b]?
section
variable {w w' a b c : World} {lo hi lo' hi' B g n : Nat} {xs : List Int} {A : Option Addr}
theorem Turn.refl (lo hi : Nat) (w : World) : Turn lo hi w w := ⟨rfl, rfl, rfl, Nat.le_refl _, fun _ _ _ => rfl⟩
theorem Turn.trans (h : Turn lo hi a b) (k : Turn lo hi b c) : Turn lo hi a c :=
  ⟨k.os.trans h.os, k.tape.trans h.tape, k.output.trans h.output, Nat.le_trans h.size k.size, fun i hi' hn => (k.block i (Nat.lt_of_lt_of_le hi' h.size) hn).trans (h.block i hi' hn)⟩
theorem Turn.mono (h : Turn lo hi w w') (h1 : lo' ≤ lo) (h2 : hi ≤ hi') : Turn lo' hi' w w' := ⟨h.os, h.tape, h.output, h.size, fun i hi' hn => h.block i hi' (by omega)⟩
theorem Turn.of_below (h : Below w.heap.size w w') : Turn lo hi w w' := ⟨h.os, h.tape, h.output, h.size, fun i hi' _ => h.block i hi'⟩
theorem Turn.alloc (h : Turn lo hi a w) (o : Obj) : Turn lo hi a (w.alloc o) := h.trans (Turn.of_below ((Below.refl _ _).alloc (Nat.le_refl _) _))
theorem Turn.drewN (h : Turn lo hi a w) (m : Nat) : Turn lo hi a (w.drewN m) := ⟨h.os, h.tape, h.output, h.size, h.block⟩
theorem Turn.drew (h : Turn lo hi a w) : Turn lo hi a w.drew := ⟨h.os, h.tape, h.output, h.size, h.block⟩
theorem Turn.set (h : Turn lo hi a w) {p : Addr} (hp : (lo ≤ p.block ∧ p.block < hi) ∨ a.heap.size ≤ p.block) (u : Value) : Turn lo hi a (w.setCell p u) :=
  ⟨h.os, h.tape, h.output, by simpa [World.setCell] using h.size, fun i hi' hn => (Below.heap_setCell _ _ _ _ (by omega)).trans (h.block i hi' hn)⟩
theorem Below.turn (h : Below B a w) (k : Turn lo hi w w') (h1 : B ≤ lo) (h2 : B ≤ w.heap.size) : Below B a w' :=
  ⟨k.os.trans h.os, k.tape.trans h.tape, k.output.trans h.output, Nat.le_trans h.size k.size, fun i hi' => (k.block i (by omega) (by omega)).trans (h.block i hi')⟩
theorem OwnI.turn (k : Hid (Turn lo hi w w')) (hn : g < lo ∨ hi ≤ g) (h : OwnI w g xs) : OwnI w' g xs := h.keep k.out.size (k.out.block _ h.1 hn)
theorem Box.turn {cs : Array Value} (k : Hid (Turn lo hi w w')) (hn : g < lo ∨ hi ≤ g) (h : Box w g cs) : Box w' g cs := h.keep k.out.size (k.out.block _ h.1 hn)

theorem OwnI.madeAt (w : World) (e : TypeId) (n : Nat) (hg : g = w.heap.size) : OwnI (w.alloc (.cells (madeCells #[Value.int .i64 0] n) e)) g (List.replicate n 0) := by subst hg; exact OwnI.made w e n
/-- A slice of the call's own: empty, or in a block from lo up to hi. -/
def OwnS (w : World) (lo hi : Nat) (A : Option Addr) (xs : List Int) : Prop := (xs = [] ∨ ∃ g, A = some ⟨g, 0, none⟩ ∧ lo ≤ g ∧ g < hi ∧ OwnI w g xs) ∧ (∀ x ∈ xs, I64 x) ∧ xs.length ≤ 1048576
theorem OwnS.keepI (h : OwnS w lo hi A xs) (hk : ∀ g, lo ≤ g → g < hi → OwnI w g xs → OwnI w' g xs) : OwnS w' lo hi A xs := by
  obtain ⟨h0 | ⟨g, e, h1, h2, h3⟩, h4⟩ := h
  · exact ⟨.inl h0, h4⟩
  · exact ⟨.inr ⟨g, e, h1, h2, hk g h1 h2 h3⟩, h4⟩
theorem OwnS.below (h : OwnS w lo hi A xs) (hb : Below w.heap.size w w') : OwnS w' lo hi A xs := h.keepI fun _ _ _ o => o.below hb
theorem OwnS.belowD {W : World} (hb : Hid (Below W.heap.size W w')) (h : OwnS W lo hi A xs) : OwnS w' lo hi A xs := h.below hb
theorem OwnS.alloc (h : OwnS w lo hi A xs) (o : Obj) : OwnS (w.alloc o) lo hi A xs := h.keepI fun _ _ _ k => k.alloc o
theorem OwnS.drewN (h : OwnS w lo hi A xs) (m : Nat) : OwnS (w.drewN m) lo hi A xs := h.keepI fun _ _ _ k => k.drewN m
theorem OwnS.drew (h : OwnS w lo hi A xs) : OwnS w.drew lo hi A xs := h.keepI fun _ _ _ k => k.drew
theorem OwnS.far (h : OwnS w lo hi A xs) {p : Addr} (hp : p.block < lo ∨ hi ≤ p.block) (u : Value) : OwnS (w.setCell p u) lo hi A xs := h.keepI fun g h1 h2 k => k.far (by omega) u
theorem OwnS.turn (k : Hid (Turn lo' hi' w w')) (hn : hi ≤ lo' ∨ hi' ≤ lo) (h : OwnS w lo hi A xs) : OwnS w' lo hi A xs := h.keepI fun g h1 h2 o => OwnI.turn k (by omega) o
theorem OwnS.by_ {w0 : World} (h0 : Hid (OwnS w0 lo hi A xs)) (h : OwnS w lo hi A xs) : OwnS w lo hi A xs := h
theorem OwnS.ints (h : OwnS w lo hi A xs) : Ints w A xs.length xs := by
  obtain ⟨h0 | ⟨g, rfl, _, _, h3⟩, h4, _⟩ := h
  · subst h0; exact Ints.nil _ _
  · exact h3.ints h4
theorem OwnS.small (h : OwnS w lo hi A xs) : xs.length ≤ 1048576 := h.2.2
theorem OwnS.of_own (h : OwnI w g xs) (h1 : lo ≤ g) (h2 : g < hi) (h3 : ∀ x ∈ xs, I64 x) (h4 : xs.length ≤ 1048576) : OwnS w lo hi (some ⟨g, 0, none⟩) xs := ⟨.inr ⟨g, rfl, h1, h2, h⟩, h3, h4⟩
theorem OwnS.nil (w : World) (lo hi : Nat) (A : Option Addr) : OwnS w lo hi A [] := ⟨.inl rfl, by simp, by simp⟩

/-- The numbers from k on. -/
def marks (k : Int) (n : Nat) : List Int := (List.range n).map fun i : Nat => k + (i : Int)
theorem marks_len (k : Int) (n : Nat) : (marks k n).length = n := by simp [marks]
theorem marks_at {k : Int} {n i : Nat} (h : i < n) : (marks k n)[i]? = some (k + i) := by simp [marks, h]
theorem marks_succ (k : Int) (n : Nat) : marks k (n + 1) = marks k n ++ [k + (n : Int)] := by simp [marks, List.range_succ]
theorem marks_zero (k : Int) : marks k 0 = [] := rfl
theorem marks_bd {k : Int} {n : Nat} (h0 : 0 ≤ k) (h1 : k ≤ 1125899906842624) (hn : n ≤ 1048576) : ∀ x ∈ marks k n, I64 x := by
  intro x hx
  simp only [marks, List.mem_map, List.mem_range] at hx
  obtain ⟨i, hi, rfl⟩ := hx
  exact ⟨by omega, by omega⟩
end
end Go.Proofs.Ytpcfnlffamgdaab
