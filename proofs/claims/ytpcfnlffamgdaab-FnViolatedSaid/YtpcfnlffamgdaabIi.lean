
/-
  The laws' isIn; the problem with other rows (a loop that collects rows of a problem).
-/
import Derived.Test.YtpcfnlffamgdaabDa
import Derived.Test.YtpcfnlffamgdaabPf
set_option linter.unusedSimpArgs false
set_option linter.unusedVariables false
namespace Go.Proofs.Ytpcfnlffamgdaab
open Go.RowKit

theorem isIn_no {xs : List Int} {y : Int} (h : xs.all (fun x => !(x == y)) = true) : decide (y ∈ xs) = false := by
  rw [decide_eq_false_iff_not]
  intro hc
  have := List.all_eq_true.1 h y hc
  simp at this
set_option maxHeartbeats 1000000 in
theorem laws_isInV (A : Option Addr) (n c : Nat) (xs : List Int) (y : Int) (w : World) (hI : Ints w A n xs) (hn : n ≤ maxLen) :
    Calls Try.prog 58 #[.slice A n c, .int .i64 y] w fun e w' => e = .returned (.bool (decide (y ∈ xs))) ∧ w = w' := by
  unfold maxLen at hn
  have HI := Lib.hid hI; clear hI
  go_enter Try.func58, Try.ntmps58
  go_wp2
  go_loop [5] (fun s5 => ∃ k : Nat, k ≤ n ∧ s5 = .int .i64 k ∧ Hid ((xs.take k).all (fun x => !(x == y)) = true)) (fun s5 => n - (intOf s5).toNat)
  case atStart => exact ⟨0, by omega, rfl, all_zero⟩
  case round =>
    obtain ⟨k, hk, rfl, hal⟩ := hrel
    by_cases hlt : k < n
    · obtain ⟨b, off, x, rfl, hb, hx, hlo, hhi, hc⟩ := HI.out.at_ hlt
      have HX := Lib.hid hx; clear hx
      by_cases hxy : x = y
      · have E : Hid (decide (y ∈ xs) = true) := Lib.hid (by rw [decide_eq_true_eq, ← hxy]; exact List.mem_of_getElem? HX.out)
        have e1 : (x == y) = true := by simp [hxy]
        clear hxy
        go_wp2
        go_ret
        exact ⟨ret_b E.out.symm, rfl⟩
      · have e1 : (x == y) = false := by simp [hxy]
        have T := Lib.hid (all_step (p := fun x => !(x == y)) HX.out hal.out (by simp [hxy]))
        clear hxy
        go_wp2
        go_round
        case rel => exact ⟨k + 1, by omega, by go_num, T⟩
        case measure => simp [intOf]; omega
    · have E : Hid (decide (y ∈ xs) = false) := Lib.hid (isIn_no (all_end (by rw [HI.out.len]; omega) hal.out))
      go_wp2
      go_ret
      exact ⟨ret_b E.out.symm, rfl⟩
end Go.Proofs.Ytpcfnlffamgdaab
