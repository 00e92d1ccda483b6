
/-
  Sums of rational numbers, in the program and in its model.
-/
import Derived.Test.YtpcfnlffamgdaaaR1d
set_option linter.unusedSimpArgs false
set_option linter.unusedVariables false
namespace Go.Proofs.Ytpcfnlffamgdaaa.Rat1
open Go.RowKit

theorem Q.prod_bd {x y M D : Int} (h1 : -M ≤ x) (h2 : x ≤ M) (h3 : 1 ≤ y) (h4 : y ≤ D) : -(M * D) ≤ x * y ∧ x * y ≤ M * D := by
  have hM : 0 ≤ M := by omega
  have a := Int.mul_le_mul_of_nonneg_left h4 hM
  have b := Int.mul_le_mul_of_nonneg_right h2 (show 0 ≤ y by omega)
  have c := Int.mul_le_mul_of_nonneg_right h1 (show 0 ≤ y by omega)
  rw [Int.neg_mul] at c
  omega
theorem Q.bd_of {an ad bn bd : Int} (ha : Q.vr an ad = true) (hb : Q.vr bn bd = true) :
    (-1000000000000000000 ≤ an * bd ∧ an * bd ≤ 1000000000000000000) ∧ (-1000000000000000000 ≤ bn * ad ∧ bn * ad ≤ 1000000000000000000) ∧ (1 ≤ ad * bd ∧ ad * bd ≤ 100000000000000) ∧ ad * bd ≠ 0 := by
  obtain ⟨a1, a2, a3, a4, _⟩ := Q.vr_iff.1 ha
  obtain ⟨b1, b2, b3, b4, _⟩ := Q.vr_iff.1 hb
  have h1 := Q.prod_bd a3 a4 b1 b2
  have h2 := Q.prod_bd b3 b4 a1 a2
  have h3 := Q.prod_bd (M := 10000000) (by omega) a2 b1 b2
  have h4 := Int.mul_pos (show 0 < ad by omega) (show 0 < bd by omega)
  omega
theorem Q.add_f {an ad bn bd : Int} (h : Q.vr an ad = false ∨ Q.vr bn bd = false) : Q.addB an ad bn bd = false := by
  rcases h with h | h <;> simp [Q.addB, h]

end Go.Proofs.Ytpcfnlffamgdaaa.Rat1
