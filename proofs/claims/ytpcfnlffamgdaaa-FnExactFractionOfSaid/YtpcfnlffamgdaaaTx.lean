
/-
  The helpers of the exact laws: sizes, copies and comparisons of lists of numbers.
-/
import Derived.Test.YtpcfnlffamgdaaaQ2
set_option linter.unusedSimpArgs false
set_option linter.unusedVariables false
namespace Go.Proofs.Ytpcfnlffamgdaaa
open Go.RowKit

theorem info_int : (Try.prog.info? 3).map (fun i => (i.zero, i.size, i.bytes)) = some (some (.int .i64 0), 1, 8) := by kernel_rfl

def szI (left : Int) (n : Nat) : Int := if left - n < 0 then -1 else left - n
theorem szI_pos {left : Int} {n : Nat} (h : left - n < 0) : szI left n = -1 := by unfold szI; rw [if_pos h]
theorem szI_neg {left : Int} {n : Nat} (h : ¬ left - n < 0) : szI left n = left - n := by unfold szI; rw [if_neg h]
theorem laws_szIntS (A : Option Addr) (n c : Nat) (left : Int) (w : World) (hn : n ≤ maxLen) (h0 : 0 ≤ left) (h1 : left ≤ 1048576) :
    Calls Try.prog 74 #[.slice A n c, .int .i64 left] w fun e w' => e = .returned (.int .i64 (szI left n)) ∧ w = w' := by
  unfold maxLen at hn
  by_cases h : left - n < 0
  · go_enter Try.func74, Try.ntmps74
    go_wp2
    go_ret
    exact ⟨ret_i (szI_pos (by omega)).symm, rfl⟩
  · go_enter Try.func74, Try.ntmps74
    go_wp2
    go_ret
    exact ⟨ret_i (szI_neg (by omega)).symm, rfl⟩

set_option maxHeartbeats 1000000 in
theorem laws_toIntS (A : Option Addr) (n c : Nat) (xs : List Int) (w : World) (hi : Ints w A n xs) (hn : n ≤ 1048576) :
    Calls Try.prog 48 #[.slice A n c] w fun e w' => ∃ g, e = .returned (.slice (some ⟨g, 0, none⟩) n n) ∧ w.heap.size ≤ g ∧ OwnI w' g xs ∧ Ints w' (some ⟨g, 0, none⟩) n xs ∧ Below w.heap.size w w' := by
  obtain ⟨i0, hi0, hz0, hz1, hz2⟩ := info_parts info_int
  have hmk := fun W => run_makeN (P := Try.prog) 54 3 i0 (.int .i64 0) Try.underlying54 hi0 hz0 n (by rw [hz2]; omega) (by omega) W
  simp only [hz1, Nat.mul_one] at hmk
  have HI := Lib.hid hi; clear hi
  go_enter Try.func48, Try.ntmps48
  go_wp2
  go_loopw [4] (fun s4 wr => ∃ k : Nat, k ≤ n ∧ s4 = .int .i64 k ∧ OwnI wr w.heap.size (xs.take k ++ List.replicate (n - k) 0) ∧ Below w.heap.size w wr) (fun s4 _ => n - (intOf s4).toNat)
  case atStart => exact ⟨0, by omega, rfl, by simpa using OwnI.made w 3 n, belA (Below.refl _ _) (Nat.le_refl _)⟩
  case round =>
    obtain ⟨k, hk, rfl, hown, hbel⟩ := hrel
    by_cases hlt : k < n
    · obtain ⟨b, off, x, rfl, hb, hx, hlo, hhi, hc⟩ := HI.out.at_ hlt
      have hl := HI.out.len
      obtain ⟨hcr, hfr⟩ := bcell hbel
      obtain ⟨o1, o2⟩ := hown.at_ (k := k) (by simp; omega)
      have OW := Lib.hid hown; clear hown
      have BE := Lib.hid hbel; clear hbel
      have HX := Lib.hid hx; clear hx
      have HL := Lib.hid hl; clear hl
      go_wp2
      go_roundw
      case rel =>
        refine ⟨k + 1, by omega, by go_num, ?_, belS BE.out (Nat.le_refl _)⟩
        have := OW.out.set_ (k := k) (x0 := 0) ?_ x
        · have e : (xs.take k ++ List.replicate (n - k) 0).set k x = xs.take (k + 1) ++ List.replicate (n - (k + 1)) 0 := by
            have h1 := HL.out
            rw [List.take_add_one, HX.out, show n - k = (n - (k + 1)) + 1 by omega, List.replicate_succ, List.set_append]
            have h2 : (xs.take k).length = k := by simp; omega
            rw [if_neg (by omega), h2, Nat.sub_self]
            simp
          rwa [e] at this
        · have h1 := HL.out
          have h2 : (xs.take k).length = k := by simp; omega
          rw [List.getElem?_append_right (by omega), h2, Nat.sub_self, List.getElem?_replicate, if_pos (by omega)]
      case measure => simp [intOf]; omega
    · have hke : k = n := by omega
      subst hke
      have hl := HI.out.len
      have OW := Lib.hid hown; clear hown
      have BE := Lib.hid hbel; clear hbel
      have HL := Lib.hid hl; clear hl
      go_wp2
      go_ret
      have e : xs.take k ++ List.replicate (k - k) 0 = xs := by rw [Nat.sub_self, List.take_of_length_le (by rw [HL.out]; exact Nat.le_refl _)]; simp
      have O := OW.out
      rw [e] at O
      exact ⟨w.heap.size, rfl, Nat.le_refl _, O, by have := O.ints HI.out.2.1; rwa [HL.out] at this, BE.out⟩

set_option maxHeartbeats 1000000 in
theorem laws_eqIntS (A A' : Option Addr) (n c c' : Nat) (xs : List Int) (w : World) (hi : Ints w A n xs) (hj : Ints w A' n xs) (hn : n ≤ 1048576) :
    Calls Try.prog 41 #[.slice A n c, .slice A' n c'] w fun e w' => e = .returned (.bool true) ∧ ∃ m, w' = w.drewN m := by
  have HI := Lib.hid hi; clear hi
  have HJ := Lib.hid hj; clear hj
  go_enter Try.func41, Try.ntmps41
  go_wp2
  go_loopw [5] (fun s5 wr => ∃ k : Nat, k ≤ n ∧ s5 = .int .i64 k ∧ ∃ m, wr = w.drewN m) (fun s5 _ => n - (intOf s5).toNat)
  case atStart => exact ⟨0, by omega, rfl, 0, rfl⟩
  case round =>
    obtain ⟨k, hk, rfl, m, rfl⟩ := hrel
    by_cases hlt : k < n
    · obtain ⟨b, off, x, rfl, hb, hx, hlo, hhi, hc⟩ := HI.out.at_ hlt
      obtain ⟨b', off', x', rfl, hb', hx', hlo', hhi', hc'⟩ := HJ.out.at_ hlt
      rw [hx] at hx'
      injection hx' with hx'
      subst hx'
      clear hx
      go_wp2
      go_quiet (fail)
      go_wp2
      go_roundw
      case rel => exact ⟨k + 1, by omega, by go_num, m + nq, rfl⟩
      case measure => simp [intOf]; omega
    · go_wp2
      go_ret
      exact ⟨rfl, m, rfl⟩
end Go.Proofs.Ytpcfnlffamgdaaa
