
/-
  Costs of partitions: the program.
-/
import Derived.Test.YtppdomoifnokpaaCg
import Derived.Test.YtppdomoifnokpaaCd
set_option linter.unusedSimpArgs false
set_option linter.unusedVariables false
namespace Go.Proofs.Ytppdomoifnokpaa
open Go.RowKit

set_option maxHeartbeats 1000000 in
theorem impl_with (S : Nat) (x : Int) (w : World) (hS : S < 32) (h0 : 0 ≤ x) (h4 : x ≤ 4) : Calls Try.prog 98 #[.int .u64 S, .int .i64 x] w fun e w' => e = .returned (.int .u64 ((S ||| 2 ^ x.toNat : Nat) : Int)) ∧ w = w' := by
  have hb : ∀ y : Nat, y < 32 → bits .or .u64 (S : Int) (y : Int) = ((S ||| y : Nat) : Int) := fun y hy => by
    have := u64_or (S : Int) (y : Int) (by omega) (by omega) (by omega) (by omega)
    simpa using this
  have b1 := hb 1 (by omega)
  have b2 := hb 2 (by omega)
  have b4 := hb 4 (by omega)
  have b8 := hb 8 (by omega)
  have b16 := hb 16 (by omega)
  simp only [Int.cast_ofNat_Int] at b1 b2 b4 b8 b16
  clear hb
  rcases (by omega : x = 0 ∨ x = 1 ∨ x = 2 ∨ x = 3 ∨ x = 4) with rfl | rfl | rfl | rfl | rfl
  all_goals
    go_enter Try.func98, Try.ntmps98
    go_wp2
    go_ret
    exact ⟨by first | rfl | (simp; done), rfl⟩
set_option maxHeartbeats 1000000 in
theorem impl_firstNumbers (n : Nat) (x : Int) (w : World) (hx : x = (n : Int)) (hn : n ≤ 5) : Calls Try.prog 86 #[.int .i64 x] w fun e w' => e = .returned (.int .u64 ((2 ^ n - 1 : Nat) : Int)) ∧ w = w' := by
  subst hx
  rcases (by omega : n = 0 ∨ n = 1 ∨ n = 2 ∨ n = 3 ∨ n = 4 ∨ n = 5) with rfl | rfl | rfl | rfl | rfl | rfl
  all_goals
    go_enter Try.func86, Try.ntmps86
    go_wp2
    go_ret
    exact ⟨by first | rfl | (simp; done), rfl⟩
theorem impl_partN (S L : Nat) (w : World) (hS : S < 32) (hL : L < 32) : Calls Try.prog 58 #[.int .u64 S, .int .u64 L] w fun e w' => e = .returned (.bool (decide (S ||| L = L))) ∧ w = w' := by
  have ho : (bits .andNot .u64 (S : Int) (L : Int) == 0) = decide (S ||| L = L) := by
    rw [u64_andNot_nat S L (by omega) (by omega)]
    by_cases h : S ||| L = L
    · rw [(sub_or (by omega) (by omega)).2 h]; simp [h]
    · have : ¬ S &&& (18446744073709551615 - L) = 0 := by rw [sub_or (by omega) (by omega)]; exact h
      simp [h, this]
  have HO := Lib.hid ho; clear ho
  go_enter Try.func58, Try.ntmps58
  go_wp2
  go_ret
  exact ⟨ret_b HO.out, rfl⟩
set_option maxHeartbeats 1000000 in
theorem impl_setOf (A : Option Addr) (n c : Nat) (xs : List Int) (w : World) (hI : Ints w A n xs) (hn : n ≤ maxLen) (hx : ∀ x ∈ xs, 0 ≤ x ∧ x ≤ 4) :
    Calls Try.prog 87 #[.slice A n c] w fun e w' => e = .returned (.int .u64 (setN xs : Nat)) ∧ w = w' := by
  unfold maxLen at hn
  have HI := Lib.hid hI; clear hI
  have HX := Lib.hid hx; clear hx
  go_enter Try.func87, Try.ntmps87
  go_wp2
  go_loop [3, 5, 8] (fun s3 s5 s8 => ∃ (k S : Nat) (u5 : Value), k ≤ n ∧ s3 = .int .u64 (S : Nat) ∧ u5 = s5 ∧ s8 = .int .i64 k ∧ Hid (S = setN (xs.take k))) (fun _ _ s8 => n - (intOf s8).toNat)
  case atStart => exact ⟨0, 0, _, by omega, rfl, rfl, rfl, Lib.hid (by simp [setN])⟩
  case round =>
    obtain ⟨k, S, u5, hk, rfl, rfl, rfl, hS⟩ := hrel
    by_cases hlt : k < n
    · obtain ⟨b, off, x, rfl, hb, hxk, hlo, hhi, hc⟩ := HI.out.at_ hlt
      obtain ⟨x0, x4⟩ := HX.out x (List.mem_of_getElem? hxk)
      have NX := Lib.hid (setN_step hxk); clear hxk
      have S32 : S < 32 := by rw [hS.out]; exact setN_lt _ (fun y hy => HX.out y (List.mem_of_mem_take hy))
      go_wp2_with (go_at_call 98; ((with_reducible refine (impl_with _ _ _ S32 x0 x4).mono ?_); rintro e w' ⟨rfl, rfl⟩))
      go_round
      case rel => exact ⟨k + 1, _, _, by omega, rfl, rfl, by go_num, Lib.hid (by rw [NX.out, hS.out])⟩
      case measure => simp [intOf]; omega
    · have hke : xs.take k = xs := List.take_of_length_le (by rw [HI.out.len]; omega)
      have HK := Lib.hid hke; clear hke
      go_wp2
      go_ret
      exact ⟨by rw [hS.out, HK.out]; rfl, rfl⟩
end Go.Proofs.Ytppdomoifnokpaa
