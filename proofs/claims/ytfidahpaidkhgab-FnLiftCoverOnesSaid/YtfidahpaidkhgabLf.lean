
/-
  Lifted covers: what the model's functions answer.
-/
import Derived.Test.YtfidahpaidkhgabMd
import Derived.Test.YtfidahpaidkhgabQa
set_option linter.unusedSimpArgs false
set_option linter.unusedVariables false
namespace Go.Proofs.Ytfidahpaidkhgab
open Go.RowKit

theorem not_mem_all {xs : List Int} {y : Int} (h : xs.all (fun x => !(x == y)) = true) : decide (y ∈ xs) = false := by
  rw [decide_eq_false_iff_not]
  intro hc
  have := List.all_eq_true.1 h y hc
  simp at this
set_option maxHeartbeats 1000000 in
theorem spec_isIn (A : Option Addr) (n c : Nat) (xs : List Int) (y : Int) (w : World) (hI : Ints w A n xs) (hn : n ≤ maxLen) :
    Calls Try.prog 90 #[.slice A n c, .int .i64 y] w fun e w' => e = .returned (.bool (decide (y ∈ xs))) ∧ w = w' := by
  unfold maxLen at hn
  have HI := Lib.hid hI; clear hI
  go_enter Try.func90, Try.ntmps90
  go_wp2
  go_loop [5] (fun s5 => ∃ k : Nat, k ≤ n ∧ s5 = .int .i64 k ∧ Hid ((xs.take k).all (fun x => !(x == y)) = true)) (fun s5 => n - (intOf s5).toNat)
  case atStart => exact ⟨0, by omega, rfl, all_zero⟩
  case round =>
    obtain ⟨k, hk, rfl, hal⟩ := hrel
    by_cases hlt : k < n
    · obtain ⟨b, off, x, rfl, hb, hx, hlo, hhi, hc⟩ := HI.out.at_ hlt
      have HX := Lib.hid hx; clear hx
      by_cases hxy : x = y
      · have E : Hid (decide (y ∈ xs) = true) := Lib.hid (by rw [decide_eq_true_eq, ← hxy]; exact List.mem_of_getElem? HX.out)
        have e1 : (x == y) = true := by simp [hxy]
        clear hxy
        go_wp2
        go_ret
        exact ⟨ret_b E.out.symm, rfl⟩
      · have e1 : (x == y) = false := by simp [hxy]
        have T := Lib.hid (all_step (p := fun x => !(x == y)) HX.out hal.out (by simp [hxy]))
        clear hxy
        go_wp2
        go_round
        case rel => exact ⟨k + 1, by omega, by go_num, T⟩
        case measure => simp [intOf]; omega
    · have E : Hid (decide (y ∈ xs) = false) := Lib.hid (not_mem_all (all_end (by rw [HI.out.len]; omega) hal.out))
      go_wp2
      go_ret
      exact ⟨ret_b E.out.symm, rfl⟩

/-! ### Equal lists -/
def sameP (xs ys : List Int) (k : Nat) : Bool := (List.range k).all fun i => decide (xs.getD i 0 = ys.getD i 0)
theorem sameP_succ {xs ys : List Int} {k : Nat} (h : sameP xs ys k = true) (h2 : xs.getD k 0 = ys.getD k 0) : sameP xs ys (k + 1) = true := by
  unfold sameP at *; rw [List.range_succ, List.all_append, h]; simpa using h2
theorem same_yes {xs ys : List Int} (hl : xs.length = ys.length) (h : sameP xs ys xs.length = true) : decide (xs = ys) = true := by
  rw [decide_eq_true_eq]
  apply List.ext_getElem hl
  intro i h1 h2
  have := List.all_eq_true.1 h i (List.mem_range.2 h1)
  rw [decide_eq_true_eq, getD_of (List.getElem?_eq_getElem h1), getD_of (List.getElem?_eq_getElem h2)] at this
  exact this
theorem same_no {xs ys : List Int} {k : Nat} (h : ¬ xs.getD k 0 = ys.getD k 0) : decide (xs = ys) = false := by
  rw [decide_eq_false_iff_not]; intro e; subst e; exact h rfl
theorem same_len {xs ys : List Int} (h : ¬ xs.length = ys.length) : decide (xs = ys) = false := by
  rw [decide_eq_false_iff_not]; intro e; subst e; exact h rfl

set_option maxHeartbeats 1000000 in
theorem spec_equalInts (A A' : Option Addr) (n n' c c' : Nat) (xs ys : List Int) (w : World) (hi : Ints w A n xs) (hj : Ints w A' n' ys) (hn : n ≤ maxLen) (hn' : n' ≤ maxLen) :
    Calls Try.prog 62 #[.slice A n c, .slice A' n' c'] w fun e w' => e = .returned (.bool (decide (xs = ys))) ∧ ∃ m, w' = w.drewN m := by
  unfold maxLen at hn hn'
  have hl := hi.len
  have hl' := hj.len
  have HI := Lib.hid hi; clear hi
  have HJ := Lib.hid hj; clear hj
  by_cases hnn : n = n'
  · have e0 : ((n : Int) != (n' : Int)) = false := by simp [hnn]
    have HN := Lib.hid hnn
    have HL := Lib.hid hl
    have HL' := Lib.hid hl'
    clear hnn hl hl'
    go_enter Try.func62, Try.ntmps62
    go_wp2
    go_loopw [5] (fun s5 wr => ∃ k : Nat, k ≤ n ∧ s5 = .int .i64 k ∧ Hid (sameP xs ys k = true) ∧ ∃ m, wr = w.drewN m) (fun s5 _ => n - (intOf s5).toNat)
    case atStart => exact ⟨0, by omega, rfl, rfl, 0, rfl⟩
    case round =>
      obtain ⟨k, hk, rfl, hsm, m, rfl⟩ := hrel
      by_cases hlt : k < n
      · obtain ⟨b, off, x, rfl, hb, hx, hlo, hhi, hc⟩ := HI.out.at_ hlt
        obtain ⟨b', off', y, rfl, hb', hy, hlo', hhi', hc'⟩ := HJ.out.at_ (show k < n' by have := HN.out; omega)
        have hkn' : (k : Int) < (n' : Int) := by have := HN.out; omega
        by_cases hxy : x = y
        · have e1 : (x != y) = false := by simp [hxy]
          have T := Lib.hid (sameP_succ hsm.out (by rw [getD_of hx, getD_of hy, hxy]))
          clear hxy hx hy
          go_wp2
          go_quiet (fail)
          go_wp2
          go_roundw
          case rel => exact ⟨k + 1, by omega, by go_num, T, m + nq, rfl⟩
          case measure => simp [intOf]; omega
        · have e1 : (x != y) = true := by simp [hxy]
          have E := Lib.hid (same_no (xs := xs) (ys := ys) (k := k) (by rw [getD_of hx, getD_of hy]; exact hxy))
          clear hxy hx hy
          go_wp2
          go_quiet (fail)
          go_wp2
          go_ret
          exact ⟨ret_b E.out.symm, m + nq, World.drewN_drewN _ _ _⟩
      · have E := Lib.hid (same_yes (xs := xs) (ys := ys) (by rw [HL.out, HL'.out, HN.out]) (by rw [HL.out, show n = k by omega]; exact hsm.out))
        go_wp2
        go_ret
        exact ⟨ret_b E.out.symm, m, rfl⟩
  · have e0 : ((n : Int) != (n' : Int)) = true := by simp; omega
    have E := Lib.hid (same_len (xs := xs) (ys := ys) (by omega))
    clear hnn hl hl'
    go_enter Try.func62, Try.ntmps62
    go_wp2
    go_ret
    exact ⟨ret_b E.out.symm, 0, rfl⟩

theorem lft_in {ws ps : List Int} {a : Int} {j : Nat} (h : decide ((j : Int) ∈ ps) = true) : lft ws a ps (j + 1) = lft ws a ps j := by
  simp only [decide_eq_true_eq] at h
  simp only [lft]; rw [if_pos h]
theorem lft_out {ws ps : List Int} {a v : Int} {j : Nat} (h : decide ((j : Int) ∈ ps) = false) (hv : v = lval ws a (ps.length - 1) (lft ws a ps j) j) : (lft ws a ps j).set j v = lft ws a ps (j + 1) := by
  simp only [decide_eq_false_iff_not] at h
  simp only [lft]; rw [if_neg h, hv]
theorem cov_pos {ws ps : List Int} {a : Int} (h : isCov ws a ps = true) : 0 < ps.length := by
  simp only [isCov, Bool.and_eq_true, decide_eq_true_eq] at h
  have f := vWts_facts h.1
  cases ps with
  | nil => have := h.2.2; rw [sumW_nil] at this; omega
  | cons p ps => simp
/-- What is known at item j: the coefficients are small, the new one is not negative. -/
theorem lft_at {ws ps : List Int} {a : Int} (h : isCov ws a ps = true) {j : Nat} (hj : j < ws.length) :
    (∀ x ∈ lft ws a ps j, 0 ≤ x ∧ x ≤ 99) ∧ (decide ((j : Int) ∈ ps) = false → 0 ≤ lval ws a (ps.length - 1) (lft ws a ps j) j) := by
  have i := lft_inv h j (by omega)
  refine ⟨fun x hx => by have := i.2.1 x hx; omega, fun hn => ?_⟩
  have l := cov_len h
  have h' := h
  simp only [isCov, Bool.and_eq_true, decide_eq_true_eq] at h'
  obtain ⟨f3, f4, f5, f6⟩ := vWts_facts h'.1
  have hp := cov_pos h
  have z := lft_zero (ws := ws) (a := a) j j (Nat.le_refl _) (by simpa using hn) (fun x hx => (asc_in h'.2.1 x hx).1)
  exact (linv_step f5 (by omega) (by omega) f4 i hj z).1
end Go.Proofs.Ytfidahpaidkhgab
