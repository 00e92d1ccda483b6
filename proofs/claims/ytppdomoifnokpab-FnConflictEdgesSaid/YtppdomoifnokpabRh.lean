
/-
  Sums of products and whether rows hold: what the program's functions and the model's return.
-/
import Derived.Test.YtppdomoifnokpabRw
set_option linter.unusedSimpArgs false
set_option linter.unusedVariables false
namespace Go.Proofs.Ytppdomoifnokpab
open Go.RowKit

theorem mac_step {xs ys : List Int} {k : Nat} {x y : Int} (hx : xs[k]? = some x) (hy : ys[k]? = some y) : wrap64 (fold (mac xs ys) k + wrap64 (x * y)) = fold (mac xs ys) (k + 1) := by
  show _ = mac xs ys k (fold (mac xs ys) k)
  unfold mac; rw [getD_of hx, getD_of hy]

set_option maxHeartbeats 1000000 in
theorem impl_sumOfProducts (A A' : Option Addr) (n n' c c' : Nat) (xs ys : List Int) (w : World) (hI : Ints w A n xs) (hJ : Ints w A' n' ys) (hn : n ≤ maxLen) (hnn : n ≤ n') (hn' : n' ≤ maxLen) :
    Calls Try.prog 113 #[.slice A n c, .slice A' n' c'] w fun e w' => e = .returned (.int .i64 (dotW xs ys)) ∧ w = w' := by
  unfold maxLen at hn hn'
  have HI := Lib.hid hI; clear hI
  have HJ := Lib.hid hJ; clear hJ
  go_enter Try.func113, Try.ntmps113
  go_wp2
  go_loop [5, 6, 7, 10] (fun s5 s6 s7 s10 => ∃ (k : Nat) (u v : Value), k ≤ n ∧ s5 = .int .i64 (fold (mac xs ys) k) ∧ s6 = u ∧ s7 = v ∧ s10 = .int .i64 k) (fun _ _ _ s10 => n - (intOf s10).toNat)
  case atStart => exact ⟨0, _, _, by omega, rfl, rfl, rfl, rfl⟩
  case round =>
    obtain ⟨k, u, v, hk, rfl, rfl, rfl, rfl⟩ := hrel
    by_cases hlt : k < n
    · obtain ⟨b, off, x, rfl, hb, hx, hlo, hhi, hc⟩ := HI.out.at_ hlt
      obtain ⟨b', off', y, rfl, hb', hy, hlo', hhi', hc'⟩ := HJ.out.at_ (show k < n' by omega)
      have HS := Lib.hid (mac_step hx hy)
      clear hx hy
      go_wp2
      go_round
      case rel => exact ⟨k + 1, _, _, by omega, by rw [HS.out], rfl, rfl, by go_num⟩
      case measure => simp [intOf]; omega
    · have hl := HI.out.len
      have hke : k = n := by omega
      subst hke
      have HL := Lib.hid hl; clear hl
      go_wp2
      go_ret
      exact ⟨ret_i (by unfold dotW; rw [HL.out]), rfl⟩

set_option maxHeartbeats 1000000 in
theorem spec_dot (A A' : Option Addr) (n n' c c' : Nat) (xs ys : List Int) (w : World) (hI : Ints w A n xs) (hJ : Ints w A' n' ys) (hn : n ≤ maxLen) (hnn : n ≤ n') (hn' : n' ≤ maxLen) :
    Calls Try.prog 119 #[.slice A n c, .slice A' n' c'] w fun e w' => e = .returned (.int .i64 (dotW xs ys)) ∧ ∃ m, w' = w.drewN m := by
  unfold maxLen at hn hn'
  have HI := Lib.hid hI; clear hI
  have HJ := Lib.hid hJ; clear hJ
  go_enter Try.func119, Try.ntmps119
  go_wp2
  go_loopw [5, 6] (fun s5 s6 wr => ∃ (k : Nat), k ≤ n ∧ s5 = .int .i64 (fold (mac xs ys) k) ∧ s6 = .int .i64 k ∧ ∃ m, wr = w.drewN m) (fun _ s6 _ => n - (intOf s6).toNat)
  case atStart => exact ⟨0, by omega, rfl, rfl, 0, rfl⟩
  case round =>
    obtain ⟨k, hk, rfl, rfl, m, rfl⟩ := hrel
    by_cases hlt : k < n
    · obtain ⟨b, off, x, rfl, hb, hx, hlo, hhi, hc⟩ := HI.out.at_ hlt
      obtain ⟨b', off', y, rfl, hb', hy, hlo', hhi', hc'⟩ := HJ.out.at_ (show k < n' by omega)
      have HS := Lib.hid (mac_step hx hy)
      clear hx hy
      go_wp2
      go_quiet (fail)
      go_wp2
      go_roundw
      case rel => exact ⟨k + 1, by omega, by rw [← HS.out], by go_num, m + nq, rfl⟩
      case measure => simp [intOf]; omega
    · have hl := HI.out.len
      have hke : k = n := by omega
      subst hke
      have HL := Lib.hid hl; clear hl
      go_wp2
      go_ret
      exact ⟨ret_i (by unfold dotW; rw [HL.out]), m, rfl⟩

theorem cmp_1 {n s b : Int} (h : s = 1) : cmpW n s b = decide (n ≤ b) := by simp [cmpW, h]
theorem cmp_2 {n s b : Int} (h : s = 2) : cmpW n s b = decide (b ≤ n) := by simp [cmpW, h]
theorem cmp_3 {n s b : Int} (h1 : ¬ s = 1) (h2 : ¬ s = 2) : cmpW n s b = (n == b) := by simp [cmpW, h1, h2]; by_cases h : n = b <;> simp [h]
def rhB (r : PRow) (xs : List Int) (n : Nat) : Bool := vRow r n && (vInts xs 0 9 && holdsW r xs)
theorem rhB_1 {r : PRow} {xs : List Int} {n : Nat} (h : vRow r n = false) : rhB r xs n = false := by simp [rhB, h]
theorem rhB_2 {r : PRow} {xs : List Int} {n : Nat} (h : vInts xs 0 9 = false) : rhB r xs n = false := by simp [rhB, h]
theorem rhB_3 {r : PRow} {xs : List Int} {n : Nat} (h1 : vRow r n = true) (h2 : vInts xs 0 9 = true) : rhB r xs n = holdsW r xs := by simp [rhB, h1, h2]
theorem vRow_len {r : PRow} {n : Nat} (h : vRow r n = true) : r.cs.length = n := by simp [vRow] at h; omega

end Go.Proofs.Ytppdomoifnokpab
