
/-
  The helpers of the rational numbers, in the program and in its model: ranges, absolute values, greatest common divisors.
-/
import Derived.Test.YtpcfnlffamgdaabRows
import Derived.Test.YtpcfnlffamgdaabR1q
import Derived.WalkKit
import Derived.BigQuiet
import Derived.Deep.QuietTactic
import Derived.Lib.Hide
set_option linter.unusedSimpArgs false
set_option linter.unusedVariables false
namespace Go.Proofs.Ytpcfnlffamgdaab.Rat1
open Go.RowKit

theorem Q.inR_t {a lo hi : Int} (h1 : lo ≤ a) (h2 : a ≤ hi) : Q.inR a lo hi = true := by simp [Q.inR, h1, h2]
theorem ret_b {a b : Bool} (h : a = b) : Ending.returned (.bool a) = .returned (.bool b) := by rw [h]
theorem ret_i {a b : Int} (h : a = b) : Ending.returned (.int .i64 a) = .returned (.int .i64 b) := by rw [h]

theorem impl_inRange (a lo hi : Int) (w : World) : Calls Try.prog 67 #[.int .i64 a, .int .i64 lo, .int .i64 hi] w fun e w' => e = .returned (.bool (Q.inR a lo hi)) ∧ w = w' := by
  by_cases h1 : lo ≤ a
  all_goals
    go_enter Try.func67, Try.ntmps67
    go_wp2
    go_ret
    exact ⟨ret_b (by simp [Q.inR]; omega), rfl⟩
theorem spec_inRange (a lo hi : Int) (w : World) : Calls Try.prog 69 #[.int .i64 a, .int .i64 lo, .int .i64 hi] w fun e w' => e = .returned (.bool (Q.inR a lo hi)) ∧ w = w' := by
  by_cases h1 : lo ≤ a
  all_goals
    go_enter Try.func69, Try.ntmps69
    go_wp2
    go_ret
    exact ⟨ret_b (by simp [Q.inR]; omega), rfl⟩

theorem impl_abs (a : Int) (w : World) (h1 : -9223372036854775807 ≤ a) (h2 : a ≤ 9223372036854775807) : Calls Try.prog 103 #[.int .i64 a] w fun e w' => e = .returned (.int .i64 (a.natAbs : Int)) ∧ w = w' := by
  by_cases h : a < 0
  all_goals
    go_enter Try.func103, Try.ntmps103
    go_wp2
    go_ret
    exact ⟨ret_i (by omega), rfl⟩
theorem spec_distance (a : Int) (w : World) (h1 : -9223372036854775807 ≤ a) (h2 : a ≤ 9223372036854775807) : Calls Try.prog 105 #[.int .i64 a] w fun e w' => e = .returned (.int .i64 (a.natAbs : Int)) ∧ w = w' := by
  by_cases h : a < 0
  all_goals
    go_enter Try.func105, Try.ntmps105
    go_wp2
    go_ret
    exact ⟨ret_i (by omega), rfl⟩

theorem Q.gc_step {x y : Int} (h0 : 0 ≤ x) (h : 0 < y) : Q.gc y (x % y) = Q.gc x y := by
  obtain ⟨m, rfl⟩ := Int.eq_ofNat_of_zero_le h0
  obtain ⟨n, rfl⟩ := Int.eq_ofNat_of_zero_le (Int.le_of_lt h)
  unfold Q.gc
  congr 1
  show Nat.gcd n (m % n) = Nat.gcd m n
  rw [Nat.gcd_comm n, ← Nat.gcd_rec, Nat.gcd_comm]
theorem Q.gc_end {x : Int} (h0 : 0 ≤ x) : Q.gc x 0 = x := by
  unfold Q.gc
  rw [Int.gcd_zero_right]; omega

set_option maxHeartbeats 1000000 in
theorem impl_divisor (a b : Int) (w : World) (ha : 0 ≤ a) (ha' : a ≤ 9223372036854775807) (hb : 0 ≤ b) (hb' : b ≤ 9223372036854775807) :
    Calls Try.prog 102 #[.int .i64 a, .int .i64 b] w fun e w' => e = .returned (.int .i64 (Q.gc a b)) ∧ ∃ n, w' = w.drewN n := by
  go_enter Try.func102, Try.ntmps102
  go_wp2
  go_loopw [0, 1] (fun s0 s1 wr => ∃ x y : Int, 0 ≤ x ∧ x ≤ 9223372036854775807 ∧ 0 ≤ y ∧ y ≤ 9223372036854775807 ∧ s0 = .int .i64 x ∧ s1 = .int .i64 y ∧ Hid (Q.gc x y = Q.gc a b) ∧ ∃ n, wr = w.drewN n) (fun _ s1 _ => (intOf s1).toNat)
  case atStart => exact ⟨a, b, ha, ha', hb, hb', rfl, rfl, rfl, 0, rfl⟩
  case round =>
    obtain ⟨x, y, hx, hx', hy, hy', rfl, rfl, hg, n, rfl⟩ := hrel
    by_cases h0 : y = 0
    · subst h0
      go_wp2
      go_ret
      exact ⟨ret_i (by rw [← hg.out, Q.gc_end hx]), n, rfl⟩
    · have hpos : 0 < y := by omega
      have hne : (y == 0) = false := by simp [h0]
      have hnn : (y != 0) = true := by simp [h0]
      clear h0
      go_wp2
      go_quiet (fail)
      go_wp2
      go_roundw
      case rel => exact ⟨y, x % y, hy, hy', Int.emod_nonneg _ (by omega), by have := Int.emod_lt_of_pos x hpos; omega, rfl, rfl, (Q.gc_step hx hpos).trans hg.out, n + nq, World.drewN_drewN _ _ _⟩
      case measure => simp [intOf]; have := Int.emod_lt_of_pos x hpos; omega
theorem spec_gcd (a b : Int) (w : World) (ha : 0 ≤ a) (ha' : a ≤ 9223372036854775807) (hb : 0 ≤ b) (hb' : b ≤ 9223372036854775807) :
    Calls Try.prog 104 #[.int .i64 a, .int .i64 b] w fun e w' => e = .returned (.int .i64 (Q.gc a b)) ∧ ∃ n, w' = w.drewN n := by
  go_enter Try.func104, Try.ntmps104
  go_wp2
  go_loopw [0, 1] (fun s0 s1 wr => ∃ x y : Int, 0 ≤ x ∧ x ≤ 9223372036854775807 ∧ 0 ≤ y ∧ y ≤ 9223372036854775807 ∧ s0 = .int .i64 x ∧ s1 = .int .i64 y ∧ Hid (Q.gc x y = Q.gc a b) ∧ ∃ n, wr = w.drewN n) (fun _ s1 _ => (intOf s1).toNat)
  case atStart => exact ⟨a, b, ha, ha', hb, hb', rfl, rfl, rfl, 0, rfl⟩
  case round =>
    obtain ⟨x, y, hx, hx', hy, hy', rfl, rfl, hg, n, rfl⟩ := hrel
    by_cases h0 : y = 0
    · subst h0
      go_wp2
      go_ret
      exact ⟨ret_i (by rw [← hg.out, Q.gc_end hx]), n, rfl⟩
    · have hpos : 0 < y := by omega
      clear h0
      go_wp2
      go_quiet (fail)
      go_wp2
      go_roundw
      case rel => exact ⟨y, x % y, hy, hy', Int.emod_nonneg _ (by omega), by have := Int.emod_lt_of_pos x hpos; omega, rfl, rfl, (Q.gc_step hx hpos).trans hg.out, n + nq, World.drewN_drewN _ _ _⟩
      case measure => simp [intOf]; have := Int.emod_lt_of_pos x hpos; omega
end Go.Proofs.Ytpcfnlffamgdaab.Rat1
