
/-
  The comparison of two lists of labels.
-/
import Derived.Test.YtjbgjljcgdligabYb
set_option linter.unusedSimpArgs false
set_option linter.unusedVariables false
namespace Go.Proofs.Ytjbgjljcgdligab
open Go.RowKit

set_option maxHeartbeats 4000000 in
theorem laws_equalLabels (A B : Option Addr) (n c c' : Nat) (ls : List PLab) (w : World) (hi : LabS w A n ls) (hj : LabS w B n ls) (hn : n ≤ maxLen) :
    Calls Try.prog 41 #[.slice A n c, .slice B n c'] w fun e w' => e = .returned (.bool true) ∧ Below w.heap.size w w' := by
  unfold maxLen at hn
  have HI := Lib.hid hi; clear hi
  have HJ := Lib.hid hj; clear hj
  go_enter Try.func41, Try.ntmps41
  go_wp2_with fail
  go_loopw [5] (fun s5 wr => ∃ k : Nat, k ≤ n ∧ s5 = .int .i64 k ∧ Hid (Below w.heap.size w wr)) (fun s5 _ => n - (intOf s5).toNat)
  case atStart => exact ⟨0, by omega, rfl, Below.refl _ _⟩
  case round =>
    obtain ⟨k, hk, rfl, hbel⟩ := hrel
    have z0 := hbel.out.size
    by_cases hlt : k < n
    · obtain ⟨b, off, x, rfl, hb, hx, hxok, c0, c1, c2, c3, c4⟩ := (HI.out.below hbel.out).at_ hlt
      obtain ⟨b', off', y, rfl, hb', hy, hyok, d0, d1, d2, d3, d4⟩ := (HJ.out.below hbel.out).at_ hlt
      rw [hx] at hy; injection hy with hy; subst hy
      clear hx hxok hyok
      go_wp2_with fail
      go_quiet (fail)
      go_wp2_with fail
      go_roundw
      case rel => exact ⟨k + 1, by omega, by go_num, Lib.hid (bel_drewN hbel.out _)⟩
      case measure => simp [intOf]; omega
    · go_wp2_with fail
      go_ret
      exact ⟨rfl, hbel.out⟩
end Go.Proofs.Ytjbgjljcgdligab
