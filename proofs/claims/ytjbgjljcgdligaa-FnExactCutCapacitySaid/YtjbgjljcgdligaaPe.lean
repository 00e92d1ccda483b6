
/-
  Violated rows, feasibility and costs: what the program's functions and the model's return.
-/
import Derived.Test.YtjbgjljcgdligaaPd
set_option linter.unusedSimpArgs false
set_option linter.unusedVariables false
namespace Go.Proofs.Ytjbgjljcgdligaa
open Go.RowKit

theorem feas_1 {p : PProb} {xs : List Int} (h : vProb p = false) : feas p xs = false := by simp [feas, h]
theorem feas_2 {p : PProb} {xs : List Int} (h : isPt p.uppers xs = false) : feas p xs = false := by simp [feas, h]
theorem feas_3 {p : PProb} {xs : List Int} (h1 : vProb p = true) (h2 : isPt p.uppers xs = true) : feas p xs = allRows p xs := by simp [feas, h1, h2, allRows]
theorem costW_1 {p : PProb} {xs : List Int} (h : vProb p = false) : costW p xs = -1 := by simp [costW, h]
theorem costW_2 {p : PProb} {xs : List Int} (h : isPt p.uppers xs = false) : costW p xs = -1 := by simp [costW, h]
theorem costW_3 {p : PProb} {xs : List Int} (h1 : vProb p = true) (h2 : isPt p.uppers xs = true) : costW p xs = dotW p.costs xs := by simp [costW, h1, h2]
theorem vProb_ul {p : PProb} (h : vProb p = true) : p.uppers.length = p.costs.length := by
  simp only [vProb, Bool.and_eq_true, decide_eq_true_eq] at h
  exact h.2.1

theorem vProb_r6 {p : PProb} (h : vProb p = true) : p.rows.length ≤ 6 := by
  simp only [vProb, Bool.and_eq_true, decide_eq_true_eq] at h
  exact h.2.2.1

def holdsAt (p : PProb) (xs : List Int) (i : Nat) : Bool := match p.rows[i]? with | some r => holdsW r xs | none => false
theorem holdsAt_of {p : PProb} {xs : List Int} {i : Nat} {r : PRow} (h : p.rows[i]? = some r) : holdsAt p xs i = holdsW r xs := by simp [holdsAt, h]
def viol (p : PProb) (xs : List Int) : List Int := idxs (fun i => !holdsAt p xs i) p.rows.length
theorem viol_none (p : PProb) (xs : List Int) : allRows p xs = (((idxs (fun i => !holdsAt p xs i) p.rows.length).length : Int) == 0) := by
  rw [Bool.eq_iff_iff]
  have h1 : ((((idxs (fun i => !holdsAt p xs i) p.rows.length).length : Int) == 0) = true) ↔ idxs (fun i => !holdsAt p xs i) p.rows.length = [] := by
    rw [beq_iff_eq, ← List.length_eq_zero_iff]; omega
  rw [h1, idxs_empty]
  unfold allRows
  rw [List.all_eq_true]
  constructor
  · intro h i hi
    have hr : p.rows[i]? = some p.rows[i] := List.getElem?_eq_getElem hi
    rw [holdsAt_of hr, h _ (List.getElem_mem hi)]; rfl
  · intro h r hr
    obtain ⟨i, hi⟩ := List.mem_iff_getElem?.1 hr
    have hlt : i < p.rows.length := (List.getElem?_eq_some_iff.1 hi).1
    have := h i hlt
    rw [holdsAt_of hi] at this
    simpa using this

end Go.Proofs.Ytjbgjljcgdligaa
