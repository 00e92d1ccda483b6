
/-
  Items: what the program's and the model's checks and sums answer.
-/
import Derived.Test.YtjbgjljcgdligabQ5
import Derived.Test.YtjbgjljcgdligabRw
set_option linter.unusedSimpArgs false
set_option linter.unusedVariables false
namespace Go.Proofs.Ytjbgjljcgdligab
open Go.RowKit

set_option maxHeartbeats 1000000 in
theorem impl_allInRange (A : Option Addr) (n c : Nat) (lo hi : Int) (xs : List Int) (w : World) (hI : Ints w A n xs) (hn : n ≤ maxLen) :
    Calls Try.prog 109 #[.slice A n c, .int .i64 lo, .int .i64 hi] w fun e w' => e = .returned (.bool (vInts xs lo hi)) ∧ w = w' := by
  unfold maxLen at hn
  have HI := Lib.hid hI; clear hI
  go_enter Try.func109, Try.ntmps109
  go_wp2
  go_loop [8, 11] (fun s4 s7 => ∃ (k : Nat) (v : Value), k ≤ n ∧ s4 = v ∧ s7 = .int .i64 k ∧ Hid ((xs.take k).all (fun x => inB x lo hi) = true)) (fun _ s7 => n - (intOf s7).toNat)
  case atStart => exact ⟨0, _, by omega, rfl, rfl, all_zero⟩
  case round =>
    obtain ⟨k, v, hk, rfl, rfl, hal⟩ := hrel
    by_cases hlt : k < n
    · obtain ⟨b, off, x, rfl, hb, hx, hlo, hhi, hc⟩ := HI.out.at_ hlt
      have HX := Lib.hid hx; clear hx
      cases hin : inB x lo hi
      · go_wp2_with (go_at_call 93; refine (impl_inRange _ _ _ _).mono ?_; rintro e w' ⟨rfl, rfl⟩)
        go_ret
        exact ⟨ret_b (all_no HX.out hin).symm, rfl⟩
      · go_wp2_with (go_at_call 93; refine (impl_inRange _ _ _ _).mono ?_; rintro e w' ⟨rfl, rfl⟩)
        go_round
        case rel => exact ⟨k + 1, _, by omega, rfl, by go_num, all_step HX.out hal.out hin⟩
        case measure => simp [intOf]; omega
    · go_wp2
      go_ret
      exact ⟨ret_b (all_end (by rw [HI.out.len]; omega) hal.out).symm, rfl⟩

set_option maxHeartbeats 1000000 in
theorem impl_ascends (A : Option Addr) (n c : Nat) (m : Int) (xs : List Int) (w : World) (hI : Ints w A n xs) (hn : n ≤ maxLen) (m0 : 0 ≤ m) (m1 : m ≤ 1048576) :
    Calls Try.prog 76 #[.slice A n c, .int .i64 m] w fun e w' => e = .returned (.bool (ascB xs m)) ∧ w = w' := by
  unfold maxLen at hn
  have HI := Lib.hid hI; clear hI
  go_enter Try.func76, Try.ntmps76
  go_wp2
  go_loop [5, 7, 10] (fun s3 s4 s7 => ∃ (k : Nat) (v : Value) (l : Int), k ≤ n ∧ -1 ≤ l ∧ l ≤ 1048576 ∧ s3 = .int .i64 l ∧ s4 = v ∧ s7 = .int .i64 k ∧ Hid (l = lastV xs k) ∧ Hid (incP xs k = true) ∧ Hid ((xs.take k).all (fun x => inB x 0 (m - 1)) = true)) (fun _ _ s7 => n - (intOf s7).toNat)
  case atStart => exact ⟨0, _, -1, by omega, by omega, by omega, rfl, rfl, rfl, rfl, incP_0, all_zero⟩
  case round =>
    obtain ⟨k, v, l, hk, l0, l1, rfl, rfl, rfl, hl, h1, hal⟩ := hrel
    by_cases hlt : k < n
    · obtain ⟨b, off, x, rfl, hb, hx, hlo, hhi, hc⟩ := HI.out.at_ hlt
      have HX := Lib.hid hx; clear hx
      cases hin : inB x (l + 1) (m - 1)
      · go_wp2_with (go_at_call 93; refine (impl_inRange _ _ _ _).mono ?_; rintro e w' ⟨rfl, rfl⟩)
        go_ret
        exact ⟨ret_b (asc_no HX.out (by rw [← hl.out]; exact hin)).symm, rfl⟩
      · have hst := Lib.hid (asc_step HX.out h1.out hal.out (by rw [← hl.out]; exact hin))
        have hxb := inB_iff.1 hin
        go_wp2_with (go_at_call 93; refine (impl_inRange _ _ _ _).mono ?_; rintro e w' ⟨rfl, rfl⟩)
        go_round
        case rel => exact ⟨k + 1, _, x, by omega, by omega, by omega, rfl, rfl, by go_num, Lib.hid (getD_of HX.out).symm, Lib.hid hst.out.1, Lib.hid hst.out.2⟩
        case measure => simp [intOf]; omega
    · go_wp2
      go_ret
      exact ⟨ret_b (asc_end (by rw [HI.out.len]; omega) h1.out hal.out).symm, rfl⟩

set_option maxHeartbeats 1000000 in
theorem spec_ascending (A : Option Addr) (n c : Nat) (m hi : Int) (xs : List Int) (w : World) (hI : Ints w A n xs) (hn : n ≤ maxLen) (hm : hi = m - 1) :
    Calls Try.prog 78 #[.slice A n c, .int .i64 0, .int .i64 hi] w fun e w' => e = .returned (.bool (ascB xs m)) ∧ ∃ d, w' = w.drewN d := by
  have hn' := hn
  unfold maxLen at hn
  have HI := Lib.hid hI; clear hI
  have HM := Lib.hid hm; clear hm
  go_enter Try.func78, Try.ntmps78
  go_wp2
  go_loopw [7] (fun s4 wr => ∃ (k : Nat), 1 ≤ k ∧ (k ≤ n ∨ k = 1) ∧ s4 = .int .i64 k ∧ Hid (incP xs k = true) ∧ ∃ d, wr = w.drewN d) (fun s4 _ => n - (intOf s4).toNat)
  case atStart => exact ⟨1, by omega, by omega, rfl, incP_1, 0, rfl⟩
  case round =>
    obtain ⟨k, hk0, hk, rfl, h1, d, rfl⟩ := hrel
    by_cases hlt : k < n
    · obtain ⟨b, off, x, rfl, hb, hx, hlo, hhi, hc⟩ := HI.out.at_ hlt
      obtain ⟨b', off', y, e, hb', hy, hlo', hhi', hc'⟩ := HI.out.at_ (show k - 1 < n by omega)
      injection e with e
      injection e with e1 e2
      subst e1 e2
      have hwx : IntKind.i64.wrap ((k : Int) - 1) = ((k - 1 : Nat) : Int) := by rw [IntWalk.i64_in _ ⟨by omega, by omega⟩]; omega
      have HX := Lib.hid (getD_of hx); clear hx
      have HY := Lib.hid (getD_of hy); clear hy
      by_cases hxy : x ≤ y
      · have E := Lib.hid (inc_no (m := m) (by rw [HI.out.len]; exact hlt) hk0 (by rw [HX.out, HY.out]; exact hxy))
        go_wp2
        go_quiet (fail)
        go_wp2
        go_ret
        exact ⟨ret_b E.out.symm, d + nq, World.drewN_drewN _ _ _⟩
      · have E := Lib.hid (incP_yes h1.out (.inr (by rw [HX.out, HY.out]; omega)))
        go_wp2
        go_quiet (fail)
        go_wp2
        go_roundw
        case rel => exact ⟨k + 1, by omega, by omega, by go_num, E, d + nq, rfl⟩
        case measure => simp [intOf]; omega
    · have E := Lib.hid (ascB_of (m := m) (incP_mono h1.out (show xs.length ≤ k by rw [HI.out.len]; omega)))
      have HD : Hid (Ints (w.drewN d) A n xs) := HI.out.below (by (repeat' (first | (with_reducible exact Below.refl _ _) | (with_reducible refine belS ?_ (by first | omega | (simp; done) | (simp; omega) | (simp only [World.size_alloc, World.size_setCell, World.size_drew] at *; omega))) | (with_reducible refine belA ?_ (by first | omega | (simp; done) | (simp; omega) | (simp only [World.size_alloc, World.size_setCell, World.size_drew] at *; omega))) | (with_reducible refine bel_drewN ?_ _) | (with_reducible refine Below.drew ?_) | (with_reducible assumption) | (refine Hid.out ?_; with_reducible assumption) | (apply belV; (with_reducible assumption); exact (by first | omega | (simp; done) | (simp; omega) | (simp only [World.size_alloc, World.size_setCell, World.size_drew] at *; omega))))))
      go_wp2_with (go_at_call 73; refine (spec_allIn _ _ _ _ _ xs _ HD.out hn').mono ?_; rintro e w' ⟨rfl, rfl⟩)
      go_ret
      exact ⟨ret_b (by rw [E.out, HM.out]), d, rfl⟩

/-! ### Valid items -/
end Go.Proofs.Ytjbgjljcgdligab
