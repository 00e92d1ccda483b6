
/-
  Products of rational numbers, in the program and in its model.
-/
import Derived.Test.YtibehbfnkecmkaaRatE
import Derived.Deep.RegionHeld3
set_option linter.unusedSimpArgs false
set_option linter.unusedVariables false
namespace Go.Proofs.Ytibehbfnkecmkaa
open Go.RowKit

theorem Q.mul_f {an ad bn bd : Int} (h : Q.vr an ad = false ∨ Q.vr bn bd = false) : Q.mulB an ad bn bd = false := by
  rcases h with h | h <;> simp [Q.mulB, h]
theorem Q.le_of_mul {g x a : Int} (hg : 0 < g) (h : a = g * x) : x.natAbs ≤ a.natAbs := by
  rw [h, Int.natAbs_mul]
  exact Nat.le_mul_of_pos_left _ (by omega)
theorem Q.q_bd {n d : Int} (hd : 0 < d) : (Q.qn n d).natAbs ≤ n.natAbs ∧ 0 < Q.qd n d ∧ Q.qd n d ≤ d := by
  obtain ⟨x, y, g, hg, ex, ey, _, e1, e2⟩ := Q.q_ex n d (by omega)
  obtain ⟨p, -, -⟩ := Q.q_nd n d (by omega)
  rw [if_neg (by omega)] at e1 e2
  rw [e2] at p
  rw [e1, e2]
  have h1 := Q.le_of_mul hg ex
  have h2 := Q.le_of_mul hg ey
  omega
theorem Q.big_of {X Y : Int} (hX : X ≠ 0) (h : 100000000000 / (X.natAbs : Int) < (Y.natAbs : Int)) : ¬ (-100000000000 ≤ X * Y ∧ X * Y ≤ 100000000000) := by
  have h1 := (Int.ediv_lt_iff_lt_mul (show (0 : Int) < (X.natAbs : Int) by omega)).1 h
  have h2 : ((Y.natAbs : Int)) * (X.natAbs : Int) = ((X * Y).natAbs : Int) := by rw [Int.natAbs_mul, Int.natCast_mul, Int.mul_comm]
  omega
theorem Q.small_of {X Y : Int} (h : X = 0 ∨ X ≠ 0 ∧ ¬ 100000000000 / (X.natAbs : Int) < (Y.natAbs : Int)) : -100000000000 ≤ X * Y ∧ X * Y ≤ 100000000000 := by
  rcases h with h | ⟨h0, h⟩
  · subst h; simp
  · have h1 := mt (Int.ediv_lt_iff_lt_mul (show (0 : Int) < (X.natAbs : Int) by omega)).2 h
    have h2 : ((Y.natAbs : Int)) * (X.natAbs : Int) = ((X * Y).natAbs : Int) := by rw [Int.natAbs_mul, Int.natCast_mul, Int.mul_comm]
    omega
theorem Q.mul_facts {an ad bn bd : Int} (ha : Q.vr an ad = true) (hb : Q.vr bn bd = true) :
    Q.mulB an ad bn bd = Q.vr (Q.qn an bd * Q.qn bn ad) (Q.qd an bd * Q.qd bn ad) ∧ Q.qn (an * bn) (ad * bd) = Q.qn an bd * Q.qn bn ad ∧ Q.qd (an * bn) (ad * bd) = Q.qd an bd * Q.qd bn ad := by
  obtain ⟨h1, h2, -⟩ := Q.mul_cross ha hb
  exact ⟨by simp [Q.mulB, ha, hb, h1, h2], h1, h2⟩
theorem Q.mul_bds {an ad bn bd : Int} (ha : Q.vr an ad = true) (hb : Q.vr bn bd = true) :
    (-100000000000 ≤ Q.qn an bd ∧ Q.qn an bd ≤ 100000000000) ∧ (-100000000000 ≤ Q.qn bn ad ∧ Q.qn bn ad ≤ 100000000000) ∧ (1 ≤ Q.qd an bd ∧ Q.qd an bd ≤ 10000000) ∧ (1 ≤ Q.qd bn ad ∧ Q.qd bn ad ≤ 10000000) ∧ (1 ≤ Q.qd an bd * Q.qd bn ad ∧ Q.qd an bd * Q.qd bn ad ≤ 100000000000000) := by
  obtain ⟨a1, a2, a3, a4, _⟩ := Q.vr_iff.1 ha
  obtain ⟨b1, b2, b3, b4, _⟩ := Q.vr_iff.1 hb
  obtain ⟨x1, x2, x3⟩ := Q.q_bd (n := an) (show 0 < bd by omega)
  obtain ⟨y1, y2, y3⟩ := Q.q_bd (n := bn) (show 0 < ad by omega)
  have := Q.prod_bd (M := 10000000) (show -10000000 ≤ Q.qd an bd by omega) (by omega) (show 1 ≤ Q.qd bn ad by omega) (show Q.qd bn ad ≤ 10000000 by omega)
  have := Int.mul_pos x2 y2
  omega

end Go.Proofs.Ytibehbfnkecmkaa
