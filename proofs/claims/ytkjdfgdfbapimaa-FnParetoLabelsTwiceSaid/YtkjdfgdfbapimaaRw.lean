
/-
  Rows: what the program's functions on rows and the model's return.
-/
import Derived.Test.YtkjdfgdfbapimaaTy
set_option linter.unusedSimpArgs false
set_option linter.unusedVariables false
namespace Go.Proofs.Ytkjdfgdfbapimaa
open Go.RowKit

theorem q_same {P : Program} {f : FuncId} {args : Array Value} {w : World} {n : Nat} {v : Value}
    (h : Calls P f args (w.drewN n) fun e w' => e = .returned v ∧ w.drewN n = w') : Calls P f args (w.drewN n) fun e w'' => e = .returned v ∧ ∃ m, w'' = w.drewN m :=
  h.mono fun _ _ ⟨he, hm⟩ => ⟨he, n, hm.symm⟩

theorem impl_inRange (a lo hi : Int) (w : World) : Calls Try.prog 17 #[.int .i64 a, .int .i64 lo, .int .i64 hi] w fun e w' => e = .returned (.bool (inB a lo hi)) ∧ w = w' := by
  by_cases h1 : lo ≤ a
  all_goals
    go_enter Try.func17, Try.ntmps17
    go_wp2
    go_ret
    exact ⟨ret_b (by simp [inB]; omega), rfl⟩
theorem spec_inRange (a lo hi : Int) (w : World) : Calls Try.prog 22 #[.int .i64 a, .int .i64 lo, .int .i64 hi] w fun e w' => e = .returned (.bool (inB a lo hi)) ∧ w = w' := by
  by_cases h1 : lo ≤ a
  all_goals
    go_enter Try.func22, Try.ntmps22
    go_wp2
    go_ret
    exact ⟨ret_b (by simp [inB]; omega), rfl⟩

theorem vRow_1 {r : PRow} {m : Int} (h : inB m 1 5 = false) : vRow r m = false := by simp [vRow, h]
theorem vRow_2 {r : PRow} {m : Int} (h : ¬ (r.cs.length : Int) = m) : vRow r m = false := by simp [vRow, h]
theorem vRow_3 {r : PRow} {m : Int} (h : vInts r.cs (-9) 9 = false) : vRow r m = false := by simp [vRow, h]
theorem vRow_4 {r : PRow} {m : Int} (h : inB r.s 1 3 = false) : vRow r m = false := by simp [vRow, h]
theorem vRow_5 {r : PRow} {m : Int} (h1 : inB m 1 5 = true) (h2 : (r.cs.length : Int) = m) (h3 : vInts r.cs (-9) 9 = true) (h4 : inB r.s 1 3 = true) : vRow r m = inB r.b (-99) 99 := by simp [vRow, h1, h2, h3, h4]

end Go.Proofs.Ytkjdfgdfbapimaa
