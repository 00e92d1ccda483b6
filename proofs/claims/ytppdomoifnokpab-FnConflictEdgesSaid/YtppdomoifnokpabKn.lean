
/-
  Items: what the program's and the model's checks and sums answer.
-/
import Derived.Test.YtppdomoifnokpabQ5
import Derived.Test.YtppdomoifnokpabRw
set_option linter.unusedSimpArgs false
set_option linter.unusedVariables false
namespace Go.Proofs.Ytppdomoifnokpab
open Go.RowKit

set_option maxHeartbeats 1000000 in
theorem impl_allInRange (A : Option Addr) (n c : Nat) (lo hi : Int) (xs : List Int) (w : World) (hI : Ints w A n xs) (hn : n ≤ maxLen) :
    Calls Try.prog 66 #[.slice A n c, .int .i64 lo, .int .i64 hi] w fun e w' => e = .returned (.bool (vInts xs lo hi)) ∧ w = w' := by
  unfold maxLen at hn
  have HI := Lib.hid hI; clear hI
  go_enter Try.func66, Try.ntmps66
  go_wp2
  go_loop [8, 11] (fun s4 s7 => ∃ (k : Nat) (v : Value), k ≤ n ∧ s4 = v ∧ s7 = .int .i64 k ∧ Hid ((xs.take k).all (fun x => inB x lo hi) = true)) (fun _ s7 => n - (intOf s7).toNat)
  case atStart => exact ⟨0, _, by omega, rfl, rfl, all_zero⟩
  case round =>
    obtain ⟨k, v, hk, rfl, rfl, hal⟩ := hrel
    by_cases hlt : k < n
    · obtain ⟨b, off, x, rfl, hb, hx, hlo, hhi, hc⟩ := HI.out.at_ hlt
      have HX := Lib.hid hx; clear hx
      cases hin : inB x lo hi
      · go_wp2_with (go_at_call 60; refine (impl_inRange _ _ _ _).mono ?_; rintro e w' ⟨rfl, rfl⟩)
        go_ret
        exact ⟨ret_b (all_no HX.out hin).symm, rfl⟩
      · go_wp2_with (go_at_call 60; refine (impl_inRange _ _ _ _).mono ?_; rintro e w' ⟨rfl, rfl⟩)
        go_round
        case rel => exact ⟨k + 1, _, by omega, rfl, by go_num, all_step HX.out hal.out hin⟩
        case measure => simp [intOf]; omega
    · go_wp2
      go_ret
      exact ⟨ret_b (all_end (by rw [HI.out.len]; omega) hal.out).symm, rfl⟩

set_option maxHeartbeats 1000000 in
theorem impl_ascends (A : Option Addr) (n c : Nat) (m : Int) (xs : List Int) (w : World) (hI : Ints w A n xs) (hn : n ≤ maxLen) (m0 : 0 ≤ m) (m1 : m ≤ 1048576) :
    Calls Try.prog 57 #[.slice A n c, .int .i64 m] w fun e w' => e = .returned (.bool (ascB xs m)) ∧ w = w' := by
  unfold maxLen at hn
  have HI := Lib.hid hI; clear hI
  go_enter Try.func57, Try.ntmps57
  go_wp2
  go_loop [5, 7, 10] (fun s3 s4 s7 => ∃ (k : Nat) (v : Value) (l : Int), k ≤ n ∧ -1 ≤ l ∧ l ≤ 1048576 ∧ s3 = .int .i64 l ∧ s4 = v ∧ s7 = .int .i64 k ∧ Hid (l = lastV xs k) ∧ Hid (incP xs k = true) ∧ Hid ((xs.take k).all (fun x => inB x 0 (m - 1)) = true)) (fun _ _ s7 => n - (intOf s7).toNat)
  case atStart => exact ⟨0, _, -1, by omega, by omega, by omega, rfl, rfl, rfl, rfl, incP_0, all_zero⟩
  case round =>
    obtain ⟨k, v, l, hk, l0, l1, rfl, rfl, rfl, hl, h1, hal⟩ := hrel
    by_cases hlt : k < n
    · obtain ⟨b, off, x, rfl, hb, hx, hlo, hhi, hc⟩ := HI.out.at_ hlt
      have HX := Lib.hid hx; clear hx
      cases hin : inB x (l + 1) (m - 1)
      · go_wp2_with (go_at_call 60; refine (impl_inRange _ _ _ _).mono ?_; rintro e w' ⟨rfl, rfl⟩)
        go_ret
        exact ⟨ret_b (asc_no HX.out (by rw [← hl.out]; exact hin)).symm, rfl⟩
      · have hst := Lib.hid (asc_step HX.out h1.out hal.out (by rw [← hl.out]; exact hin))
        have hxb := inB_iff.1 hin
        go_wp2_with (go_at_call 60; refine (impl_inRange _ _ _ _).mono ?_; rintro e w' ⟨rfl, rfl⟩)
        go_round
        case rel => exact ⟨k + 1, _, x, by omega, by omega, by omega, rfl, rfl, by go_num, Lib.hid (getD_of HX.out).symm, Lib.hid hst.out.1, Lib.hid hst.out.2⟩
        case measure => simp [intOf]; omega
    · go_wp2
      go_ret
      exact ⟨ret_b (asc_end (by rw [HI.out.len]; omega) h1.out hal.out).symm, rfl⟩

set_option maxHeartbeats 1000000 in
theorem impl_sumAt (A A' : Option Addr) (n n' c c' : Nat) (xs ps : List Int) (w : World) (hI : Ints w A n xs) (hJ : Ints w A' n' ps) (hn : n ≤ maxLen) (hn' : n' ≤ maxLen) (hp : ∀ p ∈ ps, 0 ≤ p ∧ p < n) :
    Calls Try.prog 58 #[.slice A n c, .slice A' n' c'] w fun e w' => e = .returned (.int .i64 (sumW xs ps)) ∧ w = w' := by
  unfold maxLen at hn hn'
  have HI := Lib.hid hI; clear hI
  have HJ := Lib.hid hJ; clear hJ
  have HP := Lib.hid hp; clear hp
  go_enter Try.func58, Try.ntmps58
  go_wp2
  go_loop [5, 7, 10] (fun s3 s4 s7 => ∃ (k : Nat) (v : Value), k ≤ n' ∧ s3 = .int .i64 (fold (sumF xs ps) k) ∧ s4 = v ∧ s7 = .int .i64 k) (fun _ _ s7 => n' - (intOf s7).toNat)
  case atStart => exact ⟨0, _, by omega, rfl, rfl, rfl⟩
  case round =>
    obtain ⟨k, v, hk, rfl, rfl, rfl⟩ := hrel
    by_cases hlt : k < n'
    · obtain ⟨b', off', y, rfl, hb', hy, hlo', hhi', hc'⟩ := HJ.out.at_ hlt
      obtain ⟨y0, y1⟩ := HP.out y (List.mem_of_getElem? hy)
      obtain ⟨j, rfl⟩ := Int.eq_ofNat_of_zero_le y0
      obtain ⟨b, off, x, rfl, hb, hx, hlo, hhi, hc⟩ := HI.out.at_ (show j < n by omega)
      have HS := Lib.hid (sumF_step hy hx)
      clear hx hy
      go_wp2
      go_round
      case rel => exact ⟨k + 1, _, by omega, by rw [HS.out], rfl, by go_num⟩
      case measure => simp [intOf]; omega
    · have hl := HJ.out.len
      have hke : k = n' := by omega
      subst hke
      have HL := Lib.hid hl; clear hl
      go_wp2
      go_ret
      exact ⟨ret_i (by unfold sumW; rw [HL.out]), rfl⟩

/-! ### Valid items -/
set_option maxHeartbeats 1000000 in
theorem impl_validWeights (A : Option Addr) (n c : Nat) (a : Int) (xs : List Int) (w : World) (hI : Ints w A n xs) (hn : n ≤ maxLen) :
    Calls Try.prog 53 #[.slice A n c, .int .i64 a] w fun e w' => e = .returned (.bool (vWts xs a)) ∧ w = w' := by
  have hn' := hn
  unfold maxLen at hn
  obtain rfl := hI.len
  have HI := Lib.hid hI; clear hI
  by_cases h1 : xs.length ≤ 10
  · cases h2 : vInts xs 1 20
    · have E := Lib.hid (vWts_2 (c := a) h2)
      go_enter Try.func53, Try.ntmps53
      go_wp2_with (first | (go_at_call 66; ((with_reducible refine (impl_allInRange _ _ _ _ _ xs _ HI.out hn').mono ?_); rintro e w' ⟨rfl, rfl⟩)) | (go_at_call 60; ((with_reducible refine (impl_inRange _ _ _ _).mono ?_); rintro e w' ⟨rfl, rfl⟩)))
      go_ret
      exact ⟨ret_b E.out.symm, rfl⟩
    · have E := Lib.hid (vWts_3 (c := a) h1 h2)
      go_enter Try.func53, Try.ntmps53
      go_wp2_with (first | (go_at_call 66; ((with_reducible refine (impl_allInRange _ _ _ _ _ xs _ HI.out hn').mono ?_); rintro e w' ⟨rfl, rfl⟩)) | (go_at_call 60; ((with_reducible refine (impl_inRange _ _ _ _).mono ?_); rintro e w' ⟨rfl, rfl⟩)))
      go_ret
      exact ⟨ret_b E.out.symm, rfl⟩
  · have E := Lib.hid (vWts_1 (c := a) h1)
    go_enter Try.func53, Try.ntmps53
    go_wp2_with fail
    go_ret
    exact ⟨ret_b E.out.symm, rfl⟩
set_option maxHeartbeats 1000000 in
theorem spec_validWeights (A : Option Addr) (n c : Nat) (a : Int) (xs : List Int) (w : World) (hI : Ints w A n xs) (hn : n ≤ maxLen) :
    Calls Try.prog 54 #[.slice A n c, .int .i64 a] w fun e w' => e = .returned (.bool (vWts xs a)) ∧ w = w' := by
  have hn' := hn
  unfold maxLen at hn
  obtain rfl := hI.len
  have HI := Lib.hid hI; clear hI
  by_cases h1 : xs.length ≤ 10
  · cases h2 : vInts xs 1 20
    · have E := Lib.hid (vWts_2 (c := a) h2)
      go_enter Try.func54, Try.ntmps54
      go_wp2_with (first | (go_at_call 99; ((with_reducible refine (spec_allIn _ _ _ _ _ xs _ HI.out hn').mono ?_); rintro e w' ⟨rfl, rfl⟩)) | (go_at_call 63; ((with_reducible refine (spec_inRange _ _ _ _).mono ?_); rintro e w' ⟨rfl, rfl⟩)))
      go_ret
      exact ⟨ret_b E.out.symm, rfl⟩
    · have E := Lib.hid (vWts_3 (c := a) h1 h2)
      go_enter Try.func54, Try.ntmps54
      go_wp2_with (first | (go_at_call 99; ((with_reducible refine (spec_allIn _ _ _ _ _ xs _ HI.out hn').mono ?_); rintro e w' ⟨rfl, rfl⟩)) | (go_at_call 63; ((with_reducible refine (spec_inRange _ _ _ _).mono ?_); rintro e w' ⟨rfl, rfl⟩)))
      go_ret
      exact ⟨ret_b E.out.symm, rfl⟩
  · have E := Lib.hid (vWts_1 (c := a) h1)
    go_enter Try.func54, Try.ntmps54
    go_wp2_with fail
    go_ret
    exact ⟨ret_b E.out.symm, rfl⟩
set_option maxHeartbeats 1000000 in
theorem impl_validItems (A A' : Option Addr) (n n' c c' : Nat) (a : Int) (vs ws : List Int) (w : World) (hI : Ints w A n vs) (hJ : Ints w A' n' ws) (hn : n ≤ maxLen) (hn' : n' ≤ maxLen) :
    Calls Try.prog 55 #[.slice A n c, .slice A' n' c', .int .i64 a] w fun e w' => e = .returned (.bool (vItems vs ws a)) ∧ w = w' := by
  have hm := hn
  have hm' := hn'
  unfold maxLen at hn hn'
  obtain rfl := hI.len
  obtain rfl := hJ.len
  have HI := Lib.hid hI; clear hI
  have HJ := Lib.hid hJ; clear hJ
  by_cases h1 : vs.length = ws.length
  · have hb : ((vs.length : Int) == (ws.length : Int)) = true := by simp [h1]
    have H1 := Lib.hid h1; clear h1
    cases h2 : vWts ws a
    · have E := Lib.hid (vItems_2 (vs := vs) h2)
      go_enter Try.func55, Try.ntmps55
      go_wp2_with (first | (go_at_call 53; ((with_reducible refine (impl_validWeights _ _ _ _ ws _ HJ.out hm').mono ?_); rintro e w' ⟨rfl, rfl⟩)) | (go_at_call 66; ((with_reducible refine (impl_allInRange _ _ _ _ _ vs _ HI.out hm).mono ?_); rintro e w' ⟨rfl, rfl⟩)))
      go_ret
      exact ⟨ret_b E.out.symm, rfl⟩
    · have E := Lib.hid (vItems_4 H1.out h2)
      go_enter Try.func55, Try.ntmps55
      go_wp2_with (first | (go_at_call 53; ((with_reducible refine (impl_validWeights _ _ _ _ ws _ HJ.out hm').mono ?_); rintro e w' ⟨rfl, rfl⟩)) | (go_at_call 66; ((with_reducible refine (impl_allInRange _ _ _ _ _ vs _ HI.out hm).mono ?_); rintro e w' ⟨rfl, rfl⟩)))
      go_ret
      exact ⟨ret_b E.out.symm, rfl⟩
  · have hb : ((vs.length : Int) == (ws.length : Int)) = false := by simp; omega
    have E := Lib.hid (vItems_1 (c := a) h1); clear h1
    go_enter Try.func55, Try.ntmps55
    go_wp2_with fail
    go_ret
    exact ⟨ret_b E.out.symm, rfl⟩
end Go.Proofs.Ytppdomoifnokpab
