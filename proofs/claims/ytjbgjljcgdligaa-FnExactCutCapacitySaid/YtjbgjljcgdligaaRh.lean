
/-
  Sums of products and whether rows hold: what the program's functions and the model's return.
-/
import Derived.Test.YtjbgjljcgdligaaRw
set_option linter.unusedSimpArgs false
set_option linter.unusedVariables false
namespace Go.Proofs.Ytjbgjljcgdligaa
open Go.RowKit

theorem mac_step {xs ys : List Int} {k : Nat} {x y : Int} (hx : xs[k]? = some x) (hy : ys[k]? = some y) : wrap64 (fold (mac xs ys) k + wrap64 (x * y)) = fold (mac xs ys) (k + 1) := by
  show _ = mac xs ys k (fold (mac xs ys) k)
  unfold mac; rw [getD_of hx, getD_of hy]

theorem cmp_1 {n s b : Int} (h : s = 1) : cmpW n s b = decide (n ≤ b) := by simp [cmpW, h]
theorem cmp_2 {n s b : Int} (h : s = 2) : cmpW n s b = decide (b ≤ n) := by simp [cmpW, h]
theorem cmp_3 {n s b : Int} (h1 : ¬ s = 1) (h2 : ¬ s = 2) : cmpW n s b = (n == b) := by simp [cmpW, h1, h2]; by_cases h : n = b <;> simp [h]
def rhB (r : PRow) (xs : List Int) (n : Nat) : Bool := vRow r n && (vInts xs 0 9 && holdsW r xs)
theorem rhB_1 {r : PRow} {xs : List Int} {n : Nat} (h : vRow r n = false) : rhB r xs n = false := by simp [rhB, h]
theorem rhB_2 {r : PRow} {xs : List Int} {n : Nat} (h : vInts xs 0 9 = false) : rhB r xs n = false := by simp [rhB, h]
theorem rhB_3 {r : PRow} {xs : List Int} {n : Nat} (h1 : vRow r n = true) (h2 : vInts xs 0 9 = true) : rhB r xs n = holdsW r xs := by simp [rhB, h1, h2]
theorem vRow_len {r : PRow} {n : Nat} (h : vRow r n = true) : r.cs.length = n := by simp [vRow] at h; omega

end Go.Proofs.Ytjbgjljcgdligaa
