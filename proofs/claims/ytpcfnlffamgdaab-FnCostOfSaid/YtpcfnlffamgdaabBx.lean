
/-
  Boxes: the range of a row: what the program's functions and the model's return.
-/
import Derived.Test.YtpcfnlffamgdaabPe
set_option linter.unusedSimpArgs false
set_option linter.unusedVariables false
namespace Go.Proofs.Ytpcfnlffamgdaab
open Go.RowKit

def lstT (x l u : Int) : Int := min (wrap64 (x * l)) (wrap64 (x * u))
def grtT (x l u : Int) : Int := max (wrap64 (x * l)) (wrap64 (x * u))
theorem lstT_1 {x l u : Int} (h : wrap64 (x * l) ≤ wrap64 (x * u)) : lstT x l u = wrap64 (x * l) := by unfold lstT; omega
theorem lstT_2 {x l u : Int} (h : wrap64 (x * u) ≤ wrap64 (x * l)) : lstT x l u = wrap64 (x * u) := by unfold lstT; omega
theorem grtT_1 {x l u : Int} (h : wrap64 (x * u) ≤ wrap64 (x * l)) : grtT x l u = wrap64 (x * l) := by unfold grtT; omega
theorem grtT_2 {x l u : Int} (h : wrap64 (x * l) ≤ wrap64 (x * u)) : grtT x l u = wrap64 (x * u) := by unfold grtT; omega
theorem ret_2 {a b c d : Int} (h : a = b) (h' : c = d) : Ending.returned (.tuple #[.int .i64 a, .int .i64 c]) = .returned (.tuple #[.int .i64 b, .int .i64 d]) := by rw [h, h']

def lstK (cs : List Int) (b : PBox) (k : Nat) (n : Int) : Int := wrap64 (n + lstT (cs.getD k 0) (b.low.getD k 0) (b.high.getD k 0))
def grtK (cs : List Int) (b : PBox) (k : Nat) (n : Int) : Int := wrap64 (n + grtT (cs.getD k 0) (b.low.getD k 0) (b.high.getD k 0))
def leastW (cs : List Int) (b : PBox) : Int := fold (lstK cs b) cs.length
def greatW (cs : List Int) (b : PBox) : Int := fold (grtK cs b) cs.length
theorem lstK_step {cs : List Int} {b : PBox} {k : Nat} {x l u : Int} (hx : cs[k]? = some x) (hl : b.low[k]? = some l) (hu : b.high[k]? = some u) : wrap64 (fold (lstK cs b) k + lstT x l u) = fold (lstK cs b) (k + 1) := by
  show _ = lstK cs b k (fold (lstK cs b) k)
  unfold lstK; rw [getD_of hx, getD_of hl, getD_of hu]
theorem grtK_step {cs : List Int} {b : PBox} {k : Nat} {x l u : Int} (hx : cs[k]? = some x) (hl : b.low[k]? = some l) (hu : b.high[k]? = some u) : wrap64 (fold (grtK cs b) k + grtT x l u) = fold (grtK cs b) (k + 1) := by
  show _ = grtK cs b k (fold (grtK cs b) k)
  unfold grtK; rw [getD_of hx, getD_of hl, getD_of hu]
theorem get_of {xs : List Int} {k : Nat} (h : k < xs.length) : ∃ x, xs[k]? = some x := ⟨_, List.getElem?_eq_getElem h⟩
theorem BoxV.small {w : World} {A0 A1 : Option Addr} {c0 c1 : Nat} {b : PBox} (h : BoxV w A0 A1 c0 c1 b) : b.low.length ≤ maxLen ∧ b.high.length ≤ maxLen := ⟨Nat.le_trans h.2.2.1 h.2.2.2.2.1, Nat.le_trans h.2.2.2.1 h.2.2.2.2.2⟩

end Go.Proofs.Ytpcfnlffamgdaab
