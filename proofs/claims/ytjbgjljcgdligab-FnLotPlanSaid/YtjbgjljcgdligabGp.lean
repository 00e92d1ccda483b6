
/-
  Lots: what is promised of plans in given periods: they begin with an empty stock.
-/
import Derived.Test.YtjbgjljcgdligabGb
set_option linter.unusedSimpArgs false
set_option linter.unusedVariables false
namespace Go.Proofs.Ytjbgjljcgdligab
open Go.RowKit

theorem lpK_up {cs ps : List Int} {n : Nat} (hc : ∀ x ∈ cs, 0 ≤ x) (k : Nat) (hk : k < cs.length) (j : Nat) : (lpK cs ps n k).getD j 0 ≤ (lpK cs ps n (k + 1)).getD j 0 := by
  have hx := hc _ (List.mem_of_getElem? (getD_mem hk))
  rw [lpK]
  split
  · rw [jSet]; split
    · rename_i h; rw [h.1]; omega
    · omega
  · omega
theorem lpK_far {cs ps : List Int} {n : Nat} : ∀ (k j : Nat), k ≤ j → (lpK cs ps n k).getD j 0 = 0
  | 0, j, _ => rep_getD _ _
  | k + 1, j, hj => by
    have ih := lpK_far (cs := cs) (ps := ps) (n := n) k j (by omega)
    have hb := lotK_bd ps (k + 1)
    rw [lpK]
    split
    · rw [jSet, if_neg (by omega)]; exact ih
    · exact ih
theorem sum_le {xs ys : List Int} (hl : xs.length = ys.length) (h : ∀ j, xs.getD j 0 ≤ ys.getD j 0) : ∀ k, k ≤ xs.length → sumI (xs.take k) ≤ sumI (ys.take k)
  | 0, _ => by simp [sumI]
  | k + 1, hk => by
    rw [sumI_take (by omega), sumI_take (by omega)]
    have := sum_le hl h k (by omega)
    have := h k
    omega
theorem sum_eqs {xs ys : List Int} (hl : xs.length = ys.length) : ∀ k, k ≤ xs.length → (∀ j, j < k → xs.getD j 0 = ys.getD j 0) → sumI (xs.take k) = sumI (ys.take k)
  | 0, _, _ => by simp [sumI]
  | k + 1, hk, h => by
    rw [sumI_take (by omega), sumI_take (by omega), sum_eqs hl k (by omega) (fun j hj => h j (by omega)), h k (by omega)]
theorem sum_zero {xs : List Int} {k : Nat} (h : ∀ j, k ≤ j → xs.getD j 0 = 0) : ∀ d, k + d ≤ xs.length → sumI (xs.take (k + d)) = sumI (xs.take k)
  | 0, _ => rfl
  | d + 1, hd => by
    rw [show k + (d + 1) = (k + d) + 1 by omega, sumI_take (by omega), sum_zero h d (by omega), h _ (by omega)]
    omega
theorem stk_sum {cs xs : List Int} (hl : xs.length = cs.length) : ∀ k, k ≤ xs.length → stk cs xs k = sumI (xs.take k) - sumI (cs.take k)
  | 0, _ => by simp [stk, sumI]
  | k + 1, hk => by
    rw [stk, stk_sum hl k (by omega), sumI_take (by omega), sumI_take (by omega)]
    omega
/-- What is planned after k periods. -/
theorem lpK_sum {cs ps : List Int} {n : Nat} (hn : cs.length = n) (hc : ∀ x ∈ cs, 0 ≤ x) (ho : lpOk cs ps n = true) {k : Nat} (hk : k ≤ n) : sumI ((lpK cs ps n k).take k) = sumI (cs.take k) := by
  have h1 := sum_lpK (ps := ps) hn k hk
  have hok : lpOk cs ps k = true := by
    unfold lpOk at ho ⊢
    rw [List.all_eq_true] at ho ⊢
    intro i hi
    exact ho i (List.mem_range.2 (by have := List.mem_range.1 hi; omega))
  have h2 := (lost_ok (ps := ps) hc k (by omega)).2.2 hok
  have h3 := sum_zero (xs := lpK cs ps n k) (k := k) (fun j hj => lpK_far k j hj) (n - k) (by rw [lpK_len]; omega)
  rw [show k + (n - k) = n by omega, List.take_of_length_le (by rw [lpK_len]; exact Nat.le_refl _)] at h3
  omega
theorem lpK_later {cs ps : List Int} {n : Nat} (hn : cs.length = n) (hc : ∀ x ∈ cs, 0 ≤ x) {k : Nat} (j : Nat) : ∀ d, k + d ≤ n → (lpK cs ps n k).getD j 0 ≤ (lpK cs ps n (k + d)).getD j 0
  | 0, _ => Int.le_refl _
  | d + 1, hd => by
    have := lpK_later (ps := ps) hn hc (k := k) j d (by omega)
    have := lpK_up (ps := ps) (n := n) hc (k + d) (by omega) j
    rw [show k + (d + 1) = k + d + 1 by omega]
    omega
theorem lotK_ge {ps : List Int} {k : Nat} (h : (k : Int) ∈ ps) : ∀ d, (k : Int) ≤ lotK ps (k + d + 1)
  | 0 => by rw [Nat.add_zero, lotK, if_pos h]; exact Int.le_refl _
  | d + 1 => by
    rw [lotK]
    split
    · omega
    · have := lotK_ge h d
      rwa [show k + (d + 1) = k + d + 1 by omega]
theorem lpK_same {cs ps : List Int} {n : Nat} {k : Nat} (h : (k : Int) ∈ ps) (j : Nat) (hj : j < k) : ∀ d, (lpK cs ps n (k + d)).getD j 0 = (lpK cs ps n k).getD j 0
  | 0 => rfl
  | d + 1 => by
    have ih := lpK_same (cs := cs) (n := n) h j hj d
    have hg := lotK_ge h d
    rw [show k + (d + 1) = k + d + 1 by omega, lpK]
    split
    · rw [jSet, if_neg (by omega)]; exact ih
    · exact ih
theorem lotK_mem {ps : List Int} : ∀ k, 0 ≤ lotK ps k → lotK ps k ∈ ps
  | 0, h => by simp [lotK] at h
  | k + 1, h => by
    rw [lotK] at h ⊢
    split
    · assumption
    · rename_i hn; rw [if_neg hn] at h; exact lotK_mem k h
theorem lpK_mem {cs ps : List Int} {n : Nat} (j : Nat) : ∀ k, (lpK cs ps n k).getD j 0 ≠ 0 → (j : Int) ∈ ps
  | 0, h => absurd (rep_getD _ _) h
  | k + 1, h => by
    rw [lpK] at h
    split at h
    · rename_i hl
      rw [jSet] at h
      split at h
      · rename_i e
        have := lotK_mem (ps := ps) (k + 1) hl
        have e2 : lotK ps (k + 1) = (j : Int) := by omega
        rwa [e2] at this
      · exact lpK_mem j k h
    · exact lpK_mem j k h
/-- All that is promised of the plan. -/
theorem lot_facts {r : PRow} {ps : List Int} (h1 : vLots r = true) (h2 : ascB ps r.cs.length = true) (h3 : lpOk r.cs ps r.cs.length = true) :
    levB r (lotV r ps) = true ∧ (lotV r ps).length = r.cs.length ∧ stk r.cs (lotV r ps) r.cs.length = 0 ∧ ∀ i, i < r.cs.length → 0 < (lotV r ps).getD i 0 → stk r.cs (lotV r ps) i = 0 := by
  have e := lot_4 h1 h2 h3
  have hl : (lotV r ps).length = r.cs.length := by rw [e, lpK_len]
  have hc : ∀ x ∈ r.cs, 0 ≤ x := fun x hx => ((vLots_facts h1).2.1 x hx).1
  have hs : ∀ k, k ≤ r.cs.length → stk r.cs (lotV r ps) k = sumI ((lotV r ps).take k) - sumI (r.cs.take k) := fun k hk => stk_sum hl k (by omega)
  have hge : ∀ k, k ≤ r.cs.length → 0 ≤ stk r.cs (lotV r ps) k := by
    intro k hk
    rw [hs k hk, e, ← lpK_sum rfl hc h3 hk]
    have := sum_le (xs := lpK r.cs ps r.cs.length k) (ys := lpK r.cs ps r.cs.length r.cs.length) (by rw [lpK_len, lpK_len]) (fun j => by
      have := lpK_later (cs := r.cs) (ps := ps) (n := r.cs.length) rfl hc (k := k) j (r.cs.length - k) (by omega)
      rwa [show k + (r.cs.length - k) = r.cs.length by omega] at this) k (by rw [lpK_len]; exact hk)
    omega
  have hpl : vPlan r (lotV r ps) = true := by
    rw [vPlan_2 hl]
    unfold vInts
    rw [List.all_eq_true]
    intro x hx
    rw [e] at hx
    have := lpK_i64 h1 (Nat.le_refl _) x hx
    exact inB_iff.2 ⟨by omega, by omega⟩
  refine ⟨?_, hl, ?_, fun i hi hpos => ?_⟩
  · unfold levB
    rw [h1, hpl]
    simp only [Bool.true_and]
    unfold stkP
    rw [List.all_eq_true]
    intro i hi
    have := hge (i + 1) (by have := List.mem_range.1 hi; omega)
    simpa using this
  · rw [hs _ (Nat.le_refl _), e, ← lpK_sum rfl hc h3 (Nat.le_refl _)]
    omega
  · have hm : (i : Int) ∈ ps := by
      refine lpK_mem (cs := r.cs) (n := r.cs.length) i r.cs.length ?_
      rw [e] at hpos
      omega
    rw [hs i (by omega), e, ← lpK_sum rfl hc h3 (show i ≤ r.cs.length by omega)]
    have := sum_eqs (xs := lpK r.cs ps r.cs.length r.cs.length) (ys := lpK r.cs ps r.cs.length i) (by rw [lpK_len, lpK_len]) i (by rw [lpK_len]; omega) (fun j hj => by
      have := lpK_same (cs := r.cs) (n := r.cs.length) hm j hj (r.cs.length - i)
      rwa [show i + (r.cs.length - i) = r.cs.length by omega] at this)
    omega
end Go.Proofs.Ytjbgjljcgdligab
