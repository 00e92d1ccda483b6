
/-
  Slices of flat structures (all fields numbers): their numbers lie one behind the other.
-/
import Derived.Test.YtjbgjljcgdligabMk
set_option linter.unusedSimpArgs false
set_option linter.unusedVariables false
namespace Go.Proofs.Ytjbgjljcgdligab
open Go.RowKit

theorem Ints.at2 {w : World} {A : Option Addr} {n k : Nat} {xs : List Int} (h : Ints w A (n * 2) xs) (hk : k < n) : ∃ (b off : Nat) (x0 x1 : Int), A = some ⟨b, off, none⟩ ∧ b < w.heap.size ∧ xs[k * 2]? = some x0 ∧ xs[k * 2 + 1]? = some x1 ∧ I64 x0 ∧ I64 x1 ∧ w.cell? ⟨b, off + k * 2, none⟩ = some (.int .i64 x0) ∧ w.cell? ⟨b, off + k * 2 + 1, none⟩ = some (.int .i64 x1) := by
  obtain ⟨b0, off0, x0, e0, q0, h0, l0, u0, c0⟩ := h.at_ (k := k * 2) (by omega)
  obtain ⟨b1, off1, x1, e1, q1, h1, l1, u1, c1⟩ := h.at_ (k := k * 2 + 1) (by omega)
  rw [e0] at e1; injection e1 with e1; injection e1 with p1 r1; subst p1 r1
  exact ⟨b0, off0, x0, x1, e0, q0, h0, h1, ⟨l0, u0⟩, ⟨l1, u1⟩, c0, (by rw [Nat.add_assoc]; exact c1)⟩
theorem Ints.at3 {w : World} {A : Option Addr} {n k : Nat} {xs : List Int} (h : Ints w A (n * 3) xs) (hk : k < n) : ∃ (b off : Nat) (x0 x1 x2 : Int), A = some ⟨b, off, none⟩ ∧ b < w.heap.size ∧ xs[k * 3]? = some x0 ∧ xs[k * 3 + 1]? = some x1 ∧ xs[k * 3 + 2]? = some x2 ∧ I64 x0 ∧ I64 x1 ∧ I64 x2 ∧ w.cell? ⟨b, off + k * 3, none⟩ = some (.int .i64 x0) ∧ w.cell? ⟨b, off + k * 3 + 1, none⟩ = some (.int .i64 x1) ∧ w.cell? ⟨b, off + k * 3 + 2, none⟩ = some (.int .i64 x2) := by
  obtain ⟨b0, off0, x0, e0, q0, h0, l0, u0, c0⟩ := h.at_ (k := k * 3) (by omega)
  obtain ⟨b1, off1, x1, e1, q1, h1, l1, u1, c1⟩ := h.at_ (k := k * 3 + 1) (by omega)
  obtain ⟨b2, off2, x2, e2, q2, h2, l2, u2, c2⟩ := h.at_ (k := k * 3 + 2) (by omega)
  rw [e0] at e1; injection e1 with e1; injection e1 with p1 r1; subst p1 r1
  rw [e0] at e2; injection e2 with e2; injection e2 with p2 r2; subst p2 r2
  exact ⟨b0, off0, x0, x1, x2, e0, q0, h0, h1, h2, ⟨l0, u0⟩, ⟨l1, u1⟩, ⟨l2, u2⟩, c0, (by rw [Nat.add_assoc]; exact c1), (by rw [Nat.add_assoc]; exact c2)⟩
theorem Ints.at4 {w : World} {A : Option Addr} {n k : Nat} {xs : List Int} (h : Ints w A (n * 4) xs) (hk : k < n) : ∃ (b off : Nat) (x0 x1 x2 x3 : Int), A = some ⟨b, off, none⟩ ∧ b < w.heap.size ∧ xs[k * 4]? = some x0 ∧ xs[k * 4 + 1]? = some x1 ∧ xs[k * 4 + 2]? = some x2 ∧ xs[k * 4 + 3]? = some x3 ∧ I64 x0 ∧ I64 x1 ∧ I64 x2 ∧ I64 x3 ∧ w.cell? ⟨b, off + k * 4, none⟩ = some (.int .i64 x0) ∧ w.cell? ⟨b, off + k * 4 + 1, none⟩ = some (.int .i64 x1) ∧ w.cell? ⟨b, off + k * 4 + 2, none⟩ = some (.int .i64 x2) ∧ w.cell? ⟨b, off + k * 4 + 3, none⟩ = some (.int .i64 x3) := by
  obtain ⟨b0, off0, x0, e0, q0, h0, l0, u0, c0⟩ := h.at_ (k := k * 4) (by omega)
  obtain ⟨b1, off1, x1, e1, q1, h1, l1, u1, c1⟩ := h.at_ (k := k * 4 + 1) (by omega)
  obtain ⟨b2, off2, x2, e2, q2, h2, l2, u2, c2⟩ := h.at_ (k := k * 4 + 2) (by omega)
  obtain ⟨b3, off3, x3, e3, q3, h3, l3, u3, c3⟩ := h.at_ (k := k * 4 + 3) (by omega)
  rw [e0] at e1; injection e1 with e1; injection e1 with p1 r1; subst p1 r1
  rw [e0] at e2; injection e2 with e2; injection e2 with p2 r2; subst p2 r2
  rw [e0] at e3; injection e3 with e3; injection e3 with p3 r3; subst p3 r3
  exact ⟨b0, off0, x0, x1, x2, x3, e0, q0, h0, h1, h2, h3, ⟨l0, u0⟩, ⟨l1, u1⟩, ⟨l2, u2⟩, ⟨l3, u3⟩, c0, (by rw [Nat.add_assoc]; exact c1), (by rw [Nat.add_assoc]; exact c2), (by rw [Nat.add_assoc]; exact c3)⟩
theorem Ints.at5 {w : World} {A : Option Addr} {n k : Nat} {xs : List Int} (h : Ints w A (n * 5) xs) (hk : k < n) : ∃ (b off : Nat) (x0 x1 x2 x3 x4 : Int), A = some ⟨b, off, none⟩ ∧ b < w.heap.size ∧ xs[k * 5]? = some x0 ∧ xs[k * 5 + 1]? = some x1 ∧ xs[k * 5 + 2]? = some x2 ∧ xs[k * 5 + 3]? = some x3 ∧ xs[k * 5 + 4]? = some x4 ∧ I64 x0 ∧ I64 x1 ∧ I64 x2 ∧ I64 x3 ∧ I64 x4 ∧ w.cell? ⟨b, off + k * 5, none⟩ = some (.int .i64 x0) ∧ w.cell? ⟨b, off + k * 5 + 1, none⟩ = some (.int .i64 x1) ∧ w.cell? ⟨b, off + k * 5 + 2, none⟩ = some (.int .i64 x2) ∧ w.cell? ⟨b, off + k * 5 + 3, none⟩ = some (.int .i64 x3) ∧ w.cell? ⟨b, off + k * 5 + 4, none⟩ = some (.int .i64 x4) := by
  obtain ⟨b0, off0, x0, e0, q0, h0, l0, u0, c0⟩ := h.at_ (k := k * 5) (by omega)
  obtain ⟨b1, off1, x1, e1, q1, h1, l1, u1, c1⟩ := h.at_ (k := k * 5 + 1) (by omega)
  obtain ⟨b2, off2, x2, e2, q2, h2, l2, u2, c2⟩ := h.at_ (k := k * 5 + 2) (by omega)
  obtain ⟨b3, off3, x3, e3, q3, h3, l3, u3, c3⟩ := h.at_ (k := k * 5 + 3) (by omega)
  obtain ⟨b4, off4, x4, e4, q4, h4, l4, u4, c4⟩ := h.at_ (k := k * 5 + 4) (by omega)
  rw [e0] at e1; injection e1 with e1; injection e1 with p1 r1; subst p1 r1
  rw [e0] at e2; injection e2 with e2; injection e2 with p2 r2; subst p2 r2
  rw [e0] at e3; injection e3 with e3; injection e3 with p3 r3; subst p3 r3
  rw [e0] at e4; injection e4 with e4; injection e4 with p4 r4; subst p4 r4
  exact ⟨b0, off0, x0, x1, x2, x3, x4, e0, q0, h0, h1, h2, h3, h4, ⟨l0, u0⟩, ⟨l1, u1⟩, ⟨l2, u2⟩, ⟨l3, u3⟩, ⟨l4, u4⟩, c0, (by rw [Nat.add_assoc]; exact c1), (by rw [Nat.add_assoc]; exact c2), (by rw [Nat.add_assoc]; exact c3), (by rw [Nat.add_assoc]; exact c4)⟩
/-- Block g has N cells that can be written; the first m of them hold the first numbers of xs. -/
def Part (w : World) (g N : Nat) (xs : List Int) (m : Nat) : Prop :=
  g < w.heap.size ∧ (∀ j, j < N → ∃ v, w.cell? ⟨g, j, none⟩ = some v ∧ w.frozen? ⟨g, j, none⟩ = false) ∧ ∀ j x, j < m → xs[j]? = some x → w.cell? ⟨g, j, none⟩ = some (.int .i64 x)
section
variable {w w' : World} {g N m : Nat} {xs : List Int}
theorem Part.below (h : Part w g N xs m) (hb : Below w.heap.size w w') : Part w' g N xs m := by
  obtain ⟨h0, h1, h2⟩ := h
  refine ⟨by have := hb.size; omega, fun j hj => ?_, fun j x hj hx => (hb.cell (p := ⟨g, j, none⟩) h0).trans (h2 j x hj hx)⟩
  obtain ⟨v, a, b⟩ := h1 j hj
  exact ⟨v, (hb.cell (p := ⟨g, j, none⟩) h0).trans a, (hb.frozen (p := ⟨g, j, none⟩) h0).trans b⟩
theorem Part.room (h : Part w g N xs m) {j : Nat} (hj : j < N) : ∃ v, w.cell? ⟨g, j, none⟩ = some v ∧ w.frozen? ⟨g, j, none⟩ = false := h.2.1 j hj
theorem Part.store (h : Part w g N xs m) {x : Int} (hx : xs[m]? = some x) (hm : m < N) : Part (w.setCell ⟨g, m, none⟩ (.int .i64 x)) g N xs (m + 1) := by
  obtain ⟨h0, h1, h2⟩ := h
  refine ⟨by simpa [World.setCell] using h0, fun j hj => ?_, fun j y hj hy => ?_⟩
  · obtain ⟨v, a, b⟩ := h1 j hj
    exact ⟨_, cell_set a, by rw [World.frozen?_setCell]; exact b⟩
  · by_cases e : m = j
    · subst e
      rw [hx] at hy
      injection hy with hy
      subst hy
      obtain ⟨v, a, b⟩ := h1 m hm
      rw [cell_set a, if_pos rfl]
    · rw [cell_set (h2 j y (by omega) hy), if_neg e]
theorem Part.made (w : World) (e : TypeId) (z : Array Value) (C n : Nat) (xs : List Int) (hz : z.size = C) : Part (w.alloc (.cells (madeCells z (n * C)) e)) w.heap.size (n * C) xs 0 := by
  refine ⟨by simp, fun j hj => ?_, fun j x hj => by omega⟩
  have hs : j < (madeCells z (n * C)).size := by rw [size_madeCells]; exact hj
  exact ⟨(madeCells z (n * C))[j], by rw [World.cell?_alloc_new]; exact Array.getElem?_eq_getElem hs, by simp⟩
theorem Part.own (h : Part w g N xs N) (hl : xs.length = N) : OwnI w g xs := by
  refine ⟨h.1, fun i x hx => ?_⟩
  have hi : i < N := by have := (List.getElem?_eq_some_iff.1 hx).1; omega
  obtain ⟨v, a, b⟩ := h.2.1 i hi
  exact ⟨h.2.2 i x hi hx, b⟩
end
theorem marks_bdX {k : Int} {n : Nat} (h0 : 0 ≤ k) (h1 : k ≤ 1125899906842624) (hn : n ≤ 104857600) : ∀ x ∈ marks k n, I64 x := by
  intro x hx
  simp only [marks, List.mem_map, List.mem_range] at hx
  obtain ⟨i, hi, rfl⟩ := hx
  exact ⟨by omega, by omega⟩
theorem marks_step {g : Nat} {w : World} {k : Int} {i : Nat} {xs : List Int} (h : OwnI w g (marks k i ++ xs.drop i)) (hi : i < xs.length) (y : Int) (hy : y = k + i) : OwnI (w.setCell ⟨g, i, none⟩ (.int .i64 y)) g (marks k (i + 1) ++ xs.drop (i + 1)) := by
  subst hy
  have hx : (marks k i ++ xs.drop i)[i]? = some xs[i] := by
    rw [List.getElem?_append_right (by rw [marks_len]; exact Nat.le_refl _), marks_len, Nat.sub_self, List.getElem?_drop]
    simp [hi]
  have := h.set_ hx (k + i)
  have e : (marks k i ++ xs.drop i).set i (k + i) = marks k (i + 1) ++ xs.drop (i + 1) := by
    rw [List.set_append, marks_len, if_neg (Nat.lt_irrefl _), Nat.sub_self, marks_succ, List.drop_eq_getElem_cons hi, List.set_cons_zero, List.append_assoc]
    rfl
  rwa [e] at this
end Go.Proofs.Ytjbgjljcgdligab
