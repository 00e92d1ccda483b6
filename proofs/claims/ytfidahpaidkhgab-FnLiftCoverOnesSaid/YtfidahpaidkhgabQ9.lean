
/-
  Plain lemmas on minimal covers: they are covers, and have nothing to spare.
-/
import Derived.Test.YtfidahpaidkhgabMc
set_option linter.unusedSimpArgs false
set_option linter.unusedVariables false
namespace Go.Proofs.Ytfidahpaidkhgab
open Go.RowKit

theorem sumL_out {ws xs : List Int} {i : Nat} (hi : i < xs.length) : sumL ws (outAt xs i) = sumL ws xs - ws.getD (xs.getD i 0).toNat 0 := by
  have e : xs = xs.take i ++ (xs.getD i 0 :: xs.drop (i + 1)) := by
    have h := List.drop_eq_getElem_cons hi
    rw [getD_of (List.getElem?_eq_getElem hi), ← h, List.take_append_drop]
  have h1 : sumL ws xs = sumL ws (xs.take i) + (ws.getD (xs.getD i 0).toNat 0 + sumL ws (xs.drop (i + 1))) := by
    conv => lhs; rw [e]
    rw [sumL_append]; rfl
  unfold outAt
  rw [sumL_append, h1]
  omega
/-- No number before place i can be left out. -/
def Tight (ws : List Int) (a : Int) (i : Nat) (out : List Int) : Prop := ∀ j, j < i → j < out.length → ¬ a < sumL ws (outAt out j)
theorem mcov_facts {ws ps : List Int} {a n : Int} (hw : ∀ x ∈ ws, 0 ≤ x ∧ x ≤ 99) (f i : Nat) (out : List Int) (hf : f = out.length - i) (hi : i ≤ out.length) (h10 : out.length ≤ 1000) (ht : Tight ws a i out) (hc : a < sumL ws out) (hm : ∀ x ∈ out, x ∈ ps) (ha : ascB out n = true) :
    Tight ws a (mcov ws a f i out).length (mcov ws a f i out) ∧ a < sumL ws (mcov ws a f i out) ∧ (∀ x ∈ mcov ws a f i out, x ∈ ps) ∧ ascB (mcov ws a f i out) n = true ∧ (mcov ws a f i out).length ≤ out.length := by
  induction f generalizing i out with
  | zero =>
    have e : i = out.length := by omega
    subst e
    exact ⟨ht, hc, hm, ha, Nat.le_refl _⟩
  | succ f ih =>
    have hlt : i < out.length := by omega
    have ol := outAt_len hlt
    simp only [mcov]
    rw [sumW_eq hw (by omega)]
    split
    · rename_i h
      have k := ih i (outAt out i) (by omega) (by omega) (by omega) (fun j hj hj2 => by
        have t := ht j hj (by omega)
        rw [sumL_out (by omega)] at t
        rw [sumL_out hj2, sumL_out hlt, outAt_at hlt, if_pos hj]
        have g := getD_in hw (out.getD i 0).toNat
        omega) h (fun x hx => hm x (outAt_mem x hx)) (asc_out ha hlt)
      exact ⟨k.1, k.2.1, k.2.2.1, k.2.2.2.1, by have := k.2.2.2.2; omega⟩
    · rename_i h
      exact ih (i + 1) out (by omega) (by omega) h10 (fun j hj hj2 => by
        by_cases e : j = i
        · subst e; exact h
        · exact ht j (by omega) hj2) hc hm ha
theorem mcov_tight {ws out : List Int} {a : Int} (hw : ∀ x ∈ ws, 0 ≤ x ∧ x ≤ 99) (h10 : out.length ≤ 1000) (ht : Tight ws a out.length out) (f i : Nat) (hf : f = out.length - i) (hi : i ≤ out.length) : mcov ws a f i out = out := by
  induction f generalizing i with
  | zero => rfl
  | succ f ih =>
    have hlt : i < out.length := by omega
    have ol := outAt_len hlt
    simp only [mcov]
    rw [sumW_eq hw (by omega), if_neg (ht i hlt hlt)]
    exact ih (i + 1) (by omega) (by omega)
/-- What the promise says of a minimal cover. -/
theorem mCov_facts {ws ps : List Int} {a : Int} (h : isCov ws a ps = true) :
    isCov ws a (mCov ws a ps) = true ∧ (∀ x ∈ mCov ws a ps, x ∈ ps) ∧ (∀ i, i < (mCov ws a ps).length → isCov ws a (outAt (mCov ws a ps) i) = false) ∧ mCov ws a (mCov ws a ps) = mCov ws a ps ∧ 0 < (mCov ws a ps).length ∧ (mCov ws a ps).length ≤ 10 := by
  have l10 := (cov_len h).1
  simp only [isCov, Bool.and_eq_true, decide_eq_true_eq] at h
  obtain ⟨h1, h2, h3⟩ := h
  obtain ⟨f3, f4, f5, f6⟩ := vWts_facts h1
  have hw : ∀ x ∈ ws, 0 ≤ x ∧ x ≤ 99 := fun x hx => by have := f4 x hx; omega
  rw [sumW_eq hw (by omega)] at h3
  obtain ⟨r1, r2, r3, r4, r5⟩ := mcov_facts (n := (ws.length : Int)) hw ps.length 0 ps (by omega) (by omega) (by omega) (fun j hj _ => by omega) h3 (fun x hx => hx) h2
  have r1' : Tight ws a (mCov ws a ps).length (mCov ws a ps) := r1
  have r2' : a < sumL ws (mCov ws a ps) := r2
  have r4' : ascB (mCov ws a ps) ws.length = true := r4
  have r5' : (mCov ws a ps).length ≤ ps.length := r5
  refine ⟨?_, r3, fun i hi => ?_, ?_, ?_, by omega⟩
  · rw [isCov_3 h1 r4', sumW_eq hw (by omega)]
    simpa using r2'
  · have ol := outAt_len hi
    rw [isCov_3 h1 (asc_out r4' hi), sumW_eq hw (by omega)]
    simpa using r1' i hi hi
  · exact mcov_tight hw (by omega) r1' _ 0 (by omega) (by omega)
  · rcases Nat.eq_zero_or_pos (mCov ws a ps).length with e | e
    · have : mCov ws a ps = [] := List.eq_nil_of_length_eq_zero e
      rw [this] at r2'
      simp only [sumL] at r2'
      omega
    · exact e

/-- The numbers before place k, without that at place i. -/
def wo (xs : List Int) (i k : Nat) : List Int := if k ≤ i then xs.take k else xs.take i ++ (xs.take k).drop (i + 1)
theorem wo_0 (xs : List Int) (i : Nat) : wo xs i 0 = [] := by simp [wo]
theorem wo_same (xs : List Int) (i : Nat) : wo xs i (i + 1) = wo xs i i := by
  unfold wo
  rw [if_neg (by omega), if_pos (Nat.le_refl _), List.drop_of_length_le (by rw [List.length_take]; omega), List.append_nil]
theorem wo_next {xs : List Int} {i k : Nat} {x : Int} (hx : xs[k]? = some x) (h : ¬ k = i) : wo xs i (k + 1) = wo xs i k ++ [x] := by
  have hk : k < xs.length := (List.getElem?_eq_some_iff.1 hx).1
  unfold wo
  have e : xs.take (k + 1) = xs.take k ++ [x] := by rw [List.take_add_one, hx]; rfl
  by_cases h1 : k ≤ i
  · rw [if_pos (by omega), if_pos h1, e]
  · rw [if_neg (by omega), if_neg h1, e, List.drop_append_of_le_length (by rw [List.length_take]; omega), List.append_assoc]
theorem wo_end {xs : List Int} {i : Nat} (hi : i < xs.length) : wo xs i xs.length = outAt xs i := by
  unfold wo outAt
  rw [if_neg (by omega), List.take_length]
theorem wo_len {xs : List Int} {i k : Nat} : (wo xs i k).length ≤ k := by
  unfold wo
  split
  · rw [List.length_take]; omega
  · rw [List.length_append, List.length_drop, List.length_take, List.length_take]; omega
theorem wo_mem {xs : List Int} {i k : Nat} : ∀ x ∈ wo xs i k, x ∈ xs := by
  intro x hx
  unfold wo at hx
  split at hx
  · exact List.mem_of_mem_take hx
  · rcases List.mem_append.1 hx with h | h
    · exact List.mem_of_mem_take h
    · exact List.mem_of_mem_take (List.mem_of_mem_drop h)
end Go.Proofs.Ytfidahpaidkhgab
