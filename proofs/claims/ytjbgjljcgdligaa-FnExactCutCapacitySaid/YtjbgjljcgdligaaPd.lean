
/-
  Points of problems, the rows that hold for them, and their costs: what the program's functions and the model's return.
-/
import Derived.Test.YtjbgjljcgdligaaPc
import Derived.Test.YtjbgjljcgdligaaM2
set_option linter.unusedSimpArgs false
set_option linter.unusedVariables false
namespace Go.Proofs.Ytjbgjljcgdligaa
open Go.RowKit

def ptOk (us x : List Int) (i : Nat) : Bool := inB (x.getD i 0) 0 (us.getD i 0)
theorem isPt_no {us x : List Int} (h : ¬ x.length = us.length) : isPt us x = false := by simp [isPt, h]
theorem isPt_all {us x : List Int} (h : x.length = us.length) : isPt us x = (List.range x.length).all (ptOk us x) := by simp [isPt, h]; rfl
theorem range_at {n k : Nat} (h : k < n) : (List.range n)[k]? = some k := by simp [h]

/-- All rows have as many coefficients as there are variables. -/
def Fits (p : PProb) (n : Nat) : Prop := ∀ r ∈ p.rows, r.cs.length ≤ n
theorem vProb_fits {p : PProb} {xs : List Int} (h : vProb p = true) (hx : isPt p.uppers xs = true) : p.uppers.length = p.costs.length ∧ xs.length = p.uppers.length ∧ Fits p xs.length := by
  simp only [vProb, Bool.and_eq_true, decide_eq_true_eq, List.all_eq_true] at h
  obtain ⟨h1, h2, h3, h4, h5⟩ := h
  simp only [isPt, Bool.and_eq_true, decide_eq_true_eq] at hx
  refine ⟨h2, hx.1, fun r hr => ?_⟩
  have := vRow_len (h5 r hr)
  omega

def allRows (p : PProb) (xs : List Int) : Bool := p.rows.all fun r => holdsW r xs
end Go.Proofs.Ytjbgjljcgdligaa
