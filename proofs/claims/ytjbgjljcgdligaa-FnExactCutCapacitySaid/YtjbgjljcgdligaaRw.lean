
/-
  Rows: what the program's functions on rows and the model's return.
-/
import Derived.Test.YtjbgjljcgdligaaTy
set_option linter.unusedSimpArgs false
set_option linter.unusedVariables false
namespace Go.Proofs.Ytjbgjljcgdligaa
open Go.RowKit

theorem q_same {P : Program} {f : FuncId} {args : Array Value} {w : World} {n : Nat} {v : Value}
    (h : Calls P f args (w.drewN n) fun e w' => e = .returned v ∧ w.drewN n = w') : Calls P f args (w.drewN n) fun e w'' => e = .returned v ∧ ∃ m, w'' = w.drewN m :=
  h.mono fun _ _ ⟨he, hm⟩ => ⟨he, n, hm.symm⟩

theorem impl_inRange (a lo hi : Int) (w : World) : Calls Try.prog 88 #[.int .i64 a, .int .i64 lo, .int .i64 hi] w fun e w' => e = .returned (.bool (inB a lo hi)) ∧ w = w' := by
  by_cases h1 : lo ≤ a
  all_goals
    go_enter Try.func88, Try.ntmps88
    go_wp2
    go_ret
    exact ⟨ret_b (by simp [inB]; omega), rfl⟩
theorem spec_inRange (a lo hi : Int) (w : World) : Calls Try.prog 90 #[.int .i64 a, .int .i64 lo, .int .i64 hi] w fun e w' => e = .returned (.bool (inB a lo hi)) ∧ w = w' := by
  by_cases h1 : lo ≤ a
  all_goals
    go_enter Try.func90, Try.ntmps90
    go_wp2
    go_ret
    exact ⟨ret_b (by simp [inB]; omega), rfl⟩

set_option maxHeartbeats 1000000 in
theorem spec_allIn (A : Option Addr) (n c : Nat) (lo hi : Int) (xs : List Int) (w : World) (hI : Ints w A n xs) (hn : n ≤ maxLen) :
    Calls Try.prog 67 #[.slice A n c, .int .i64 lo, .int .i64 hi] w fun e w' => e = .returned (.bool (vInts xs lo hi)) ∧ w = w' := by
  unfold maxLen at hn
  have HI := Lib.hid hI; clear hI
  go_enter Try.func67, Try.ntmps67
  go_wp2
  go_loop [7] (fun s7 => ∃ k : Nat, k ≤ n ∧ s7 = .int .i64 k ∧ Hid ((xs.take k).all (fun x => inB x lo hi) = true)) (fun s7 => n - (intOf s7).toNat)
  case atStart => exact ⟨0, by omega, rfl, all_zero⟩
  case round =>
    obtain ⟨k, hk, rfl, hal⟩ := hrel
    by_cases hlt : k < n
    · obtain ⟨b, off, x, rfl, hb, hx, hlo, hhi, hc⟩ := HI.out.at_ hlt
      have HX := Lib.hid hx; clear hx
      cases hin : inB x lo hi
      · go_wp2_with (go_at_call 90; refine (spec_inRange _ _ _ _).mono ?_; rintro e w' ⟨rfl, rfl⟩)
        go_ret
        exact ⟨ret_b (all_no HX.out hin).symm, rfl⟩
      · go_wp2_with (go_at_call 90; refine (spec_inRange _ _ _ _).mono ?_; rintro e w' ⟨rfl, rfl⟩)
        go_round
        case rel => exact ⟨k + 1, by omega, by go_num, all_step HX.out hal.out hin⟩
        case measure => simp [intOf]; omega
    · go_wp2
      go_ret
      exact ⟨ret_b (all_end (by rw [HI.out.len]; omega) hal.out).symm, rfl⟩

theorem vRow_1 {r : PRow} {m : Int} (h : inB m 1 5 = false) : vRow r m = false := by simp [vRow, h]
theorem vRow_2 {r : PRow} {m : Int} (h : ¬ (r.cs.length : Int) = m) : vRow r m = false := by simp [vRow, h]
theorem vRow_3 {r : PRow} {m : Int} (h : vInts r.cs (-9) 9 = false) : vRow r m = false := by simp [vRow, h]
theorem vRow_4 {r : PRow} {m : Int} (h : inB r.s 1 3 = false) : vRow r m = false := by simp [vRow, h]
theorem vRow_5 {r : PRow} {m : Int} (h1 : inB m 1 5 = true) (h2 : (r.cs.length : Int) = m) (h3 : vInts r.cs (-9) 9 = true) (h4 : inB r.s 1 3 = true) : vRow r m = inB r.b (-99) 99 := by simp [vRow, h1, h2, h3, h4]

end Go.Proofs.Ytjbgjljcgdligaa
