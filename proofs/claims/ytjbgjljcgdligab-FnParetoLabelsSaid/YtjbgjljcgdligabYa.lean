
/-
  Slices of labels: labels that no other one dominates; the library's searches.
-/
import Derived.Test.YtjbgjljcgdligabLb
import Derived.Test.YtjbgjljcgdligabFa
import Derived.Test.YtjbgjljcgdligabVi
set_option linter.unusedSimpArgs false
set_option linter.unusedVariables false
namespace Go.Proofs.Ytjbgjljcgdligab
open Go.RowKit

def flL : List PLab → List Int
  | [] => []
  | x :: t => x.a :: x.m :: x.t :: x.o :: x.c :: flL t
theorem flL_len : ∀ (ls : List PLab), (flL ls).length = ls.length * 5
  | [] => rfl
  | _ :: t => by simp only [flL, List.length_cons, flL_len t]; omega
theorem flL_snoc (x : PLab) : ∀ (ls : List PLab), flL (ls ++ [x]) = flL ls ++ [x.a, x.m, x.t, x.o, x.c]
  | [] => rfl
  | p :: t => by simp only [List.cons_append, flL, flL_snoc x t]
theorem flL_at : ∀ {ls : List PLab} {k : Nat} {x : PLab}, ls[k]? = some x → (flL ls)[k * 5]? = some x.a ∧ (flL ls)[k * 5 + 1]? = some x.m ∧ (flL ls)[k * 5 + 2]? = some x.t ∧ (flL ls)[k * 5 + 3]? = some x.o ∧ (flL ls)[k * 5 + 4]? = some x.c
  | [], k, x, h => by simp at h
  | q :: t, 0, x, h => by simp at h; subst h; exact ⟨rfl, rfl, rfl, rfl, rfl⟩
  | q :: t, k + 1, x, h => by
    have := flL_at (ls := t) (k := k) (x := x) (by simpa using h)
    rw [show (k + 1) * 5 = k * 5 + 1 + 1 + 1 + 1 + 1 by omega, show k * 5 + 1 + 1 + 1 + 1 + 1 + 1 = (k * 5 + 1) + 1 + 1 + 1 + 1 + 1 by omega, show k * 5 + 1 + 1 + 1 + 1 + 1 + 2 = (k * 5 + 2) + 1 + 1 + 1 + 1 + 1 by omega, show k * 5 + 1 + 1 + 1 + 1 + 1 + 3 = (k * 5 + 3) + 1 + 1 + 1 + 1 + 1 by omega, show k * 5 + 1 + 1 + 1 + 1 + 1 + 4 = (k * 5 + 4) + 1 + 1 + 1 + 1 + 1 by omega]
    exact ⟨by simpa [flL] using this.1, by simpa [flL] using this.2.1, by simpa [flL] using this.2.2.1, by simpa [flL] using this.2.2.2.1, by simpa [flL] using this.2.2.2.2⟩
theorem flL_of : ∀ (n : Nat) (xs : List Int), xs.length = n * 5 → ∃ ls : List PLab, ls.length = n ∧ flL ls = xs
  | 0, xs, h => ⟨[], rfl, by have : xs = [] := List.eq_nil_of_length_eq_zero (by omega); rw [this]; rfl⟩
  | n + 1, xs, h => by
    match xs, h with
    | a :: m :: t :: o :: c :: r, h =>
      obtain ⟨ls, h1, h2⟩ := flL_of n r (by simp at h; omega)
      exact ⟨⟨a, m, t, o, c⟩ :: ls, by simp [h1], by simp [flL, h2]⟩
    | [], h => simp at h
    | [_], h => simp at h; omega
    | [_, _], h => simp at h; omega
    | [_, _, _], h => simp at h; omega
    | [_, _, _, _], h => simp at h; omega
/-- A slice of labels. -/
def LabS (w : World) (A : Option Addr) (n : Nat) (ls : List PLab) : Prop := ls.length = n ∧ Ints w A (n * 5) (flL ls)
theorem LabS.below {w w' : World} {A : Option Addr} {n : Nat} {ls : List PLab} (h : LabS w A n ls) (hb : Below w.heap.size w w') : LabS w' A n ls := ⟨h.1, h.2.below hb⟩
theorem LabS.len {w : World} {A : Option Addr} {n : Nat} {ls : List PLab} (h : LabS w A n ls) : ls.length = n := h.1
theorem LabS.at_ {w : World} {A : Option Addr} {n k : Nat} {ls : List PLab} (h : LabS w A n ls) (hk : k < n) : ∃ (b off : Nat) (x : PLab), A = some ⟨b, off, none⟩ ∧ b < w.heap.size ∧ ls[k]? = some x ∧ x.ok ∧
    w.cell? ⟨b, off + k * 5, none⟩ = some (.int .i64 x.a) ∧ w.cell? ⟨b, off + k * 5 + 1, none⟩ = some (.int .i64 x.m) ∧ w.cell? ⟨b, off + k * 5 + 2, none⟩ = some (.int .i64 x.t) ∧ w.cell? ⟨b, off + k * 5 + 3, none⟩ = some (.int .i64 x.o) ∧ w.cell? ⟨b, off + k * 5 + 4, none⟩ = some (.int .i64 x.c) := by
  obtain ⟨b, off, x0, x1, x2, x3, x4, rfl, hb, h0, h1, h2, h3, h4, i0, i1, i2, i3, i4, c0, c1, c2, c3, c4⟩ := h.2.at5 hk
  obtain ⟨x, hx⟩ : ∃ x, ls[k]? = some x := ⟨_, List.getElem?_eq_getElem (by have := h.1; omega)⟩
  obtain ⟨e0, e1, e2, e3, e4⟩ := flL_at hx
  rw [h0] at e0; injection e0 with e0
  rw [h1] at e1; injection e1 with e1
  rw [h2] at e2; injection e2 with e2
  rw [h3] at e3; injection e3 with e3
  rw [h4] at e4; injection e4 with e4
  refine ⟨b, off, x, rfl, hb, hx, ⟨?_, ?_, ?_, ?_, ?_⟩, ?_, ?_, ?_, ?_, ?_⟩
  · rw [← e0]; exact i0
  · rw [← e1]; exact i1
  · rw [← e2]; exact i2
  · rw [← e3]; exact i3
  · rw [← e4]; exact i4
  · rw [← e0]; exact c0
  · rw [← e1]; exact c1
  · rw [← e2]; exact c2
  · rw [← e3]; exact c3
  · rw [← e4]; exact c4

def eqLB (x y : PLab) : Bool := decide (x.a = y.a ∧ x.m = y.m ∧ x.t = y.t ∧ x.o = y.o ∧ x.c = y.c)
theorem eqLB_iff {x y : PLab} : eqLB x y = true ↔ x = y := by
  obtain ⟨a, m, t, o, c⟩ := x
  obtain ⟨a', m', t', o', c'⟩ := y
  simp [eqLB]
theorem eqLB_refl (x : PLab) : eqLB x x = true := by simp [eqLB]
/-- Label x is a different one that dominates y. -/
def betB (x y : PLab) : Bool := !eqLB x y && domB x y
/-- Which field is the first one that differs. -/
theorem differ {x y : PLab} (h : eqLB x y = false) : ¬ x.a = y.a ∨ (x.a = y.a ∧ ¬ x.m = y.m) ∨ (x.a = y.a ∧ x.m = y.m ∧ ¬ x.t = y.t) ∨ (x.a = y.a ∧ x.m = y.m ∧ x.t = y.t ∧ ¬ x.o = y.o) ∨ (x.a = y.a ∧ x.m = y.m ∧ x.t = y.t ∧ x.o = y.o ∧ ¬ x.c = y.c) := by
  have h' : ¬ (x.a = y.a ∧ x.m = y.m ∧ x.t = y.t ∧ x.o = y.o ∧ x.c = y.c) := by simpa [eqLB] using h
  omega
/-- Label number i stays: no different one dominates it, and no equal one stands before it. -/
def stays (ls : List PLab) (i : Nat) : Bool := match ls[i]? with
  | some x => !(ls.any fun y => betB y x) && !((ls.take i).any fun y => eqLB x y)
  | none => false
theorem stays_at {ls : List PLab} {i : Nat} {x : PLab} (h : ls[i]? = some x) : stays ls i = (!(ls.any fun y => betB y x) && !((ls.take i).any fun y => eqLB x y)) := by simp [stays, h]
def parL (ls : List PLab) : Nat → List PLab
  | 0 => []
  | k + 1 => if stays ls k then parL ls k ++ (ls[k]?).toList else parL ls k
theorem parL_yes {ls : List PLab} {k : Nat} {x : PLab} (hx : ls[k]? = some x) (h : stays ls k = true) : parL ls (k + 1) = parL ls k ++ [x] := by rw [parL, if_pos h, hx]; rfl
theorem parL_no {ls : List PLab} {k : Nat} (h : stays ls k = false) : parL ls (k + 1) = parL ls k := by rw [parL, if_neg (by simp [h])]
theorem parL_len (ls : List PLab) : ∀ k, (parL ls k).length ≤ k
  | 0 => Nat.le_refl _
  | k + 1 => by
    have := parL_len ls k
    rw [parL]
    split
    · rw [List.length_append]
      have : ((ls[k]?).toList).length ≤ 1 := by cases ls[k]? <;> simp
      omega
    · omega
theorem parL_mem {ls : List PLab} {x : PLab} : ∀ {k : Nat}, x ∈ parL ls k → ∃ i, i < k ∧ ls[i]? = some x ∧ stays ls i = true
  | 0, h => by simp [parL] at h
  | k + 1, h => by
    rw [parL] at h
    split at h
    · rename_i hs
      rcases List.mem_append.1 h with h | h
      · obtain ⟨i, h1, h2, h3⟩ := parL_mem h
        exact ⟨i, by omega, h2, h3⟩
      · refine ⟨k, by omega, ?_, hs⟩
        cases hk : ls[k]? with
        | none => rw [hk] at h; simp at h
        | some y => rw [hk] at h; simp at h; rw [h]
    · obtain ⟨i, h1, h2, h3⟩ := parL_mem h
      exact ⟨i, by omega, h2, h3⟩
def parV (ls : List PLab) : List PLab := if ls.length ≤ 20 then parL ls ls.length else []
theorem parV_1 {ls : List PLab} (h : ¬ ls.length ≤ 20) : parV ls = [] := by simp [parV, h]
theorem parV_2 {ls : List PLab} (h : ls.length ≤ 20) : parV ls = parL ls ls.length := by simp [parV, h]
theorem flL_mem {Q : Int → Prop} : ∀ {ls : List PLab}, (∀ x ∈ ls, Q x.a ∧ Q x.m ∧ Q x.t ∧ Q x.o ∧ Q x.c) → ∀ z ∈ flL ls, Q z
  | [], _, z, hz => by simp [flL] at hz
  | p :: t, h, z, hz => by
    simp only [flL, List.mem_cons] at hz
    obtain ⟨h0, h1, h2, h3, h4⟩ := h p (by simp)
    rcases hz with rfl | rfl | rfl | rfl | rfl | hz
    · exact h0
    · exact h1
    · exact h2
    · exact h3
    · exact h4
    · exact flL_mem (fun q hq => h q (by simp [hq])) z hz
theorem parV_bd {ls : List PLab} (h : ∀ x ∈ ls, x.ok) : (∀ z ∈ flL (parV ls), I64 z) ∧ (flL (parV ls)).length ≤ 100 := by
  unfold parV
  split
  · refine ⟨flL_mem fun x hx => ?_, ?_⟩
    · obtain ⟨i, _, hi, _⟩ := parL_mem hx
      exact h x (List.mem_of_getElem? hi)
    · rw [flL_len]
      have := parL_len ls ls.length
      omega
  · simp [flL]
theorem any_step {α : Type} {p : α → Bool} {xs : List α} {k : Nat} {x : α} (hx : xs[k]? = some x) (h : (xs.take k).any p = false) (hp : p x = false) : (xs.take (k + 1)).any p = false := by
  rw [List.take_add_one, hx]; simp [List.any_append, h, hp]
theorem any_yes {α : Type} {p : α → Bool} {xs : List α} {k : Nat} {x : α} (hx : xs[k]? = some x) (hp : p x = true) : xs.any p = true := List.any_eq_true.2 ⟨x, List.mem_of_getElem? hx, hp⟩
theorem any_end {α : Type} {p : α → Bool} {xs : List α} {k : Nat} (hk : xs.length ≤ k) (h : (xs.take k).any p = false) : xs.any p = false := by rwa [List.take_of_length_le hk] at h
end Go.Proofs.Ytjbgjljcgdligab
