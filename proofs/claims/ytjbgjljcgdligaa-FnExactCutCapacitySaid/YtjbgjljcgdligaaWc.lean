
/-
  Whether a number is in a list: the library's search and the model's.
-/
import Derived.Test.YtjbgjljcgdligaaRw
set_option linter.unusedSimpArgs false
set_option linter.unusedVariables false
namespace Go.Proofs.Ytjbgjljcgdligaa
open Go.RowKit

theorem not_mem_allW {xs : List Int} {y : Int} (h : xs.all (fun x => !(x == y)) = true) : decide (y ∈ xs) = false := by
  rw [decide_eq_false_iff_not]
  intro hc
  have := List.all_eq_true.1 h y hc
  simp at this
set_option maxHeartbeats 1000000 in
theorem spec_isInW (A : Option Addr) (n c : Nat) (xs : List Int) (y : Int) (w : World) (hI : Ints w A n xs) (hn : n ≤ maxLen) :
    Calls Try.prog 95 #[.slice A n c, .int .i64 y] w fun e w' => e = .returned (.bool (decide (y ∈ xs))) ∧ w = w' := by
  unfold maxLen at hn
  have HI := Lib.hid hI; clear hI
  go_enter Try.func95, Try.ntmps95
  go_wp2
  go_loop [5] (fun s5 => ∃ k : Nat, k ≤ n ∧ s5 = .int .i64 k ∧ Hid ((xs.take k).all (fun x => !(x == y)) = true)) (fun s5 => n - (intOf s5).toNat)
  case atStart => exact ⟨0, by omega, rfl, all_zero⟩
  case round =>
    obtain ⟨k, hk, rfl, hal⟩ := hrel
    by_cases hlt : k < n
    · obtain ⟨b, off, x, rfl, hb, hx, hlo, hhi, hc⟩ := HI.out.at_ hlt
      have HX := Lib.hid hx; clear hx
      by_cases hxy : x = y
      · have E : Hid (decide (y ∈ xs) = true) := Lib.hid (by rw [decide_eq_true_eq, ← hxy]; exact List.mem_of_getElem? HX.out)
        have e1 : (x == y) = true := by simp [hxy]
        clear hxy
        go_wp2
        go_ret
        exact ⟨ret_b E.out.symm, rfl⟩
      · have e1 : (x == y) = false := by simp [hxy]
        have T := Lib.hid (all_step (p := fun x => !(x == y)) HX.out hal.out (by simp [hxy]))
        clear hxy
        go_wp2
        go_round
        case rel => exact ⟨k + 1, by omega, by go_num, T⟩
        case measure => simp [intOf]; omega
    · have E : Hid (decide (y ∈ xs) = false) := Lib.hid (not_mem_allW (all_end (by rw [HI.out.len]; omega) hal.out))
      go_wp2
      go_ret
      exact ⟨ret_b E.out.symm, rfl⟩
set_option maxHeartbeats 1000000 in
theorem lib_IndexW (A : Option Addr) (n c : Nat) (xs : List Int) (y : Int) (w : World) (hI : Ints w A n xs) (hn : n ≤ maxLen) :
    Calls Try.prog 125 #[.slice A n c, .int .i64 y] w fun e w' => ∃ r : Int, e = .returned (.int .i64 r) ∧ (0 ≤ r ↔ y ∈ xs) ∧ -1 ≤ r ∧ r ≤ n ∧ w = w' := by
  unfold maxLen at hn
  have HI := Lib.hid hI; clear hI
  go_enter Try.func125, Try.ntmps125
  go_wp2
  go_loop [5, 8] (fun s5 s8 => ∃ (k : Nat) (u : Value), k ≤ n ∧ s5 = u ∧ s8 = .int .i64 k ∧ Hid ((xs.take k).all (fun x => !(x == y)) = true)) (fun _ s8 => n - (intOf s8).toNat)
  case atStart => exact ⟨0, _, by omega, rfl, rfl, all_zero⟩
  case round =>
    obtain ⟨k, u, hk, rfl, rfl, hal⟩ := hrel
    by_cases hlt : k < n
    · obtain ⟨b, off, x, rfl, hb, hx, hlo, hhi, hc⟩ := HI.out.at_ hlt
      have HX := Lib.hid hx; clear hx
      by_cases hxy : y = x
      · have E : Hid (decide (y ∈ xs) = true) := Lib.hid (by rw [decide_eq_true_eq, hxy]; exact List.mem_of_getElem? HX.out)
        have e1 : (y == x) = true := by simp [hxy]
        clear hxy
        go_wp2
        go_ret
        exact ⟨k, rfl, ⟨fun _ => by simpa using E.out, fun _ => by omega⟩, by omega, by omega, rfl⟩
      · have e1 : (y == x) = false := by simp [hxy]
        have T := Lib.hid (all_step (p := fun x => !(x == y)) HX.out hal.out (by simp; intro e; exact hxy e.symm))
        clear hxy
        go_wp2
        go_round
        case rel => exact ⟨k + 1, _, by omega, rfl, by go_num, T⟩
        case measure => simp [intOf]; omega
    · have E : Hid (decide (y ∈ xs) = false) := Lib.hid (not_mem_allW (all_end (by rw [HI.out.len]; omega) hal.out))
      go_wp2
      go_ret
      exact ⟨-1, rfl, ⟨fun h => by omega, fun h => by have := E.out; simp [h] at this⟩, by omega, by omega, rfl⟩
theorem lib_ContainsW (A : Option Addr) (n c : Nat) (xs : List Int) (y : Int) (w : World) (hI : Ints w A n xs) (hn : n ≤ maxLen) :
    Calls Try.prog 75 #[.slice A n c, .int .i64 y] w fun e w' => e = .returned (.bool (decide (y ∈ xs))) ∧ w = w' := by
  have HI := Lib.hid hI; clear hI
  go_enter Try.func75, Try.ntmps75
  go_wp2_with fail
  refine (lib_IndexW _ _ _ xs y _ HI.out hn).mono ?_
  rintro e w1 ⟨r, rfl, hr, r0, r1, rfl⟩
  have HR := Lib.hid hr; clear hr
  go_wp2_with fail
  go_ret
  exact ⟨ret_b (by simpa using HR.out), rfl⟩
theorem lib_ContainsB (A : Option Addr) (n c : Nat) (xs : List Int) (y : Int) (w : World) (hI : Ints w A n xs) (hn : n ≤ maxLen) :
    Calls Try.prog 75 #[.slice A n c, .int .i64 y] w fun e w' => e = .returned (.bool (decide (y ∈ xs))) ∧ Below w.heap.size w w' :=
  (lib_ContainsW A n c xs y w hI hn).mono fun _ _ ⟨he, hw⟩ => ⟨he, hw ▸ Below.refl _ _⟩
theorem spec_isInB (A : Option Addr) (n c : Nat) (xs : List Int) (y : Int) (w : World) (hI : Ints w A n xs) (hn : n ≤ maxLen) :
    Calls Try.prog 95 #[.slice A n c, .int .i64 y] w fun e w' => e = .returned (.bool (decide (y ∈ xs))) ∧ Below w.heap.size w w' :=
  (spec_isInW A n c xs y w hI hn).mono fun _ _ ⟨he, hw⟩ => ⟨he, hw ▸ Below.refl _ _⟩
end Go.Proofs.Ytjbgjljcgdligaa
