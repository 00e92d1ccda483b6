
/-
  The model's products of rational numbers.
-/
import Derived.Test.YtibehbfnkecmkaaRatF
set_option linter.unusedSimpArgs false
set_option linter.unusedVariables false
namespace Go.Proofs.Ytibehbfnkecmkaa
open Go.RowKit

theorem q_add {P : Program} {f : FuncId} {args : Array Value} {w : World} {a n : Nat} {v : Value}
    (h : Calls P f args (w.drewN (a + n)) fun e w' => e = .returned v ∧ ∃ m, w' = (w.drewN (a + n)).drewN m) :
    Calls P f args (w.drewN (a + n)) fun e w'' => e = .returned v ∧ ∃ m, w'' = w.drewN (a + m) :=
  h.mono fun _ _ ⟨he, m, hm⟩ => ⟨he, n + m, by rw [hm, World.drewN_drewN, Nat.add_assoc]⟩
theorem q_add_same {P : Program} {f : FuncId} {args : Array Value} {w : World} {a n : Nat} {v : Value}
    (h : Calls P f args (w.drewN (a + n)) fun e w' => e = .returned v ∧ w.drewN (a + n) = w') :
    Calls P f args (w.drewN (a + n)) fun e w'' => e = .returned v ∧ ∃ m, w'' = w.drewN (a + m) :=
  h.mono fun _ _ ⟨he, hm⟩ => ⟨he, n, hm.symm⟩
theorem Q.tdiv_g {n d : Int} (h : 0 < d) : n.tdiv (Q.gc n d) = Q.qn n d := Q.low_pos h
theorem Q.ediv_g {n d : Int} (h : 0 < d) : d / (Q.gc n d) = Q.qd n d := by
  unfold Q.qd; rw [if_neg (by omega)]
theorem Q.mul_again {an ad bn bd : Int} (ha : Q.vr an ad = true) (hb : Q.vr bn bd = true) :
    Q.qn (Q.qn an bd * Q.qn bn ad) (Q.qd an bd * Q.qd bn ad) = Q.qn an bd * Q.qn bn ad ∧ Q.qd (Q.qn an bd * Q.qn bn ad) (Q.qd an bd * Q.qd bn ad) = Q.qd an bd * Q.qd bn ad := by
  obtain ⟨-, -, h⟩ := Q.mul_cross ha hb
  obtain ⟨-, -, ⟨d1, d2⟩, ⟨g1, g2⟩, p1, p2⟩ := Q.mul_bds ha hb
  exact Q.q_self (by omega) h

end Go.Proofs.Ytibehbfnkecmkaa
