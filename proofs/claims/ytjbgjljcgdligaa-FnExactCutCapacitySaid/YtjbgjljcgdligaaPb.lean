
/-
  Problems: whether they are valid, their points: what the program's functions and the model's return.
-/
import Derived.Test.YtjbgjljcgdligaaRh
import Derived.Test.YtjbgjljcgdligaaTp
set_option linter.unusedSimpArgs false
set_option linter.unusedVariables false
namespace Go.Proofs.Ytjbgjljcgdligaa
open Go.RowKit

theorem ProbV.small {w : World} {A0 A1 A2 : Option Addr} {c0 c1 c2 : Nat} {p : PProb} (h : ProbV w A0 A1 A2 c0 c1 c2 p) : p.costs.length ≤ maxLen ∧ p.uppers.length ≤ maxLen ∧ p.rows.length ≤ maxLen :=
  ⟨Nat.le_trans h.2.2.2.1 h.2.2.2.2.2.2.1, Nat.le_trans h.2.2.2.2.1 h.2.2.2.2.2.2.2.1, Nat.le_trans h.2.2.2.2.2.1 h.2.2.2.2.2.2.2.2⟩

theorem vProb_1 {p : PProb} (h : inB p.costs.length 1 5 = false) : vProb p = false := by simp [vProb, h]
theorem vProb_2 {p : PProb} (h : ¬ p.uppers.length = p.costs.length) : vProb p = false := by simp [vProb, h]
theorem vProb_3 {p : PProb} (h : ¬ p.rows.length ≤ 6) : vProb p = false := by simp [vProb, h]
theorem vProb_4 {p : PProb} (h : vInts p.costs 0 99 = false) : vProb p = false := by simp [vProb, h]
theorem vProb_5 {p : PProb} (h : vInts p.uppers 0 9 = false) : vProb p = false := by simp [vProb, h]
theorem vProb_6 {p : PProb} (h : (p.rows.all fun r => vRow r p.costs.length) = false) : vProb p = false := by simp [vProb, h]
theorem vProb_7 {p : PProb} (h1 : inB p.costs.length 1 5 = true) (h2 : p.uppers.length = p.costs.length) (h3 : p.rows.length ≤ 6) (h6 : (p.rows.all fun r => vRow r p.costs.length) = true) : vProb p = (vInts p.costs 0 99 && vInts p.uppers 0 9) := by
  simp only [vProb, h1, h2, h3, h6]; simp

end Go.Proofs.Ytjbgjljcgdligaa
