
/-
  Lots (shaped as rows: the demands, the setup, the holding cost): plain notions of plans and their stocks.
-/
import Derived.Test.YtjbgjljcgdligabKn
import Derived.Test.YtjbgjljcgdligabM3
set_option linter.unusedSimpArgs false
set_option linter.unusedVariables false
namespace Go.Proofs.Ytjbgjljcgdligab
open Go.RowKit

def vLots (r : PRow) : Bool := decide (r.cs.length ≤ 8) && (vInts r.cs 0 99 && (inB r.s 0 99 && inB r.b 0 99))
theorem vLots_1 {r : PRow} (h : ¬ r.cs.length ≤ 8) : vLots r = false := by simp [vLots, h]
theorem vLots_2 {r : PRow} (h : vInts r.cs 0 99 = false) : vLots r = false := by simp [vLots, h]
theorem vLots_3 {r : PRow} (h : inB r.s 0 99 = false) : vLots r = false := by simp [vLots, h]
theorem vLots_4 {r : PRow} (h1 : r.cs.length ≤ 8) (h2 : vInts r.cs 0 99 = true) (h3 : inB r.s 0 99 = true) : vLots r = inB r.b 0 99 := by simp [vLots, h1, h2, h3]
theorem vLots_facts {r : PRow} (h : vLots r = true) : r.cs.length ≤ 8 ∧ (∀ x ∈ r.cs, 0 ≤ x ∧ x ≤ 99) ∧ (0 ≤ r.s ∧ r.s ≤ 99) ∧ 0 ≤ r.b ∧ r.b ≤ 99 := by
  unfold vLots at h
  simp only [Bool.and_eq_true, decide_eq_true_eq] at h
  obtain ⟨h1, h2, h3, h4⟩ := h
  refine ⟨h1, fun x hx => ?_, inB_iff.1 h3, inB_iff.1 h4⟩
  unfold vInts at h2
  rw [List.all_eq_true] at h2
  exact inB_iff.1 (h2 x hx)
def vPlan (r : PRow) (xs : List Int) : Bool := decide (xs.length = r.cs.length) && vInts xs 0 999
theorem vPlan_1 {r : PRow} {xs : List Int} (h : ¬ xs.length = r.cs.length) : vPlan r xs = false := by simp [vPlan, h]
theorem vPlan_2 {r : PRow} {xs : List Int} (h : xs.length = r.cs.length) : vPlan r xs = vInts xs 0 999 := by simp [vPlan, h]
theorem vPlan_facts {r : PRow} {xs : List Int} (h : vPlan r xs = true) : xs.length = r.cs.length ∧ ∀ x ∈ xs, 0 ≤ x ∧ x ≤ 999 := by
  unfold vPlan at h
  simp only [Bool.and_eq_true, decide_eq_true_eq] at h
  refine ⟨h.1, fun x hx => ?_⟩
  have h2 := h.2
  unfold vInts at h2
  rw [List.all_eq_true] at h2
  exact inB_iff.1 (h2 x hx)
/-- The stock after k periods. -/
def stk (cs xs : List Int) : Nat → Int
  | 0 => 0
  | k + 1 => stk cs xs k + xs.getD k 0 - cs.getD k 0
theorem stk_step {cs xs : List Int} {k : Nat} {x y : Int} (hx : xs[k]? = some x) (hy : cs[k]? = some y) : stk cs xs (k + 1) = stk cs xs k + x - y := by
  rw [stk]; simp [List.getD, hx, hy]
theorem stk_bd {r : PRow} {xs : List Int} (h1 : vLots r = true) (h2 : vPlan r xs = true) : ∀ k, k ≤ xs.length → -99 * (k : Int) ≤ stk r.cs xs k ∧ stk r.cs xs k ≤ 999 * k
  | 0, _ => by simp [stk]
  | k + 1, hk => by
    have ih := stk_bd h1 h2 k (by omega)
    have hl := (vPlan_facts h2).1
    have a := (vPlan_facts h2).2 _ (List.getElem_mem (show k < xs.length by omega))
    have b := (vLots_facts h1).2.1 _ (List.getElem_mem (show k < r.cs.length by omega))
    rw [stk_step (List.getElem?_eq_getElem (show k < xs.length by omega)) (List.getElem?_eq_getElem (show k < r.cs.length by omega))]
    omega
def stkL (cs xs : List Int) (k : Nat) : List Int := (List.range k).map fun i => stk cs xs (i + 1)
theorem stkL_len (cs xs : List Int) (k : Nat) : (stkL cs xs k).length = k := by simp [stkL]
theorem stkL_succ (cs xs : List Int) (k : Nat) : stkL cs xs (k + 1) = stkL cs xs k ++ [stk cs xs (k + 1)] := by simp [stkL, List.range_succ]
theorem stkL_at (cs xs : List Int) {k i : Nat} (h : i < k) : (stkL cs xs k)[i]? = some (stk cs xs (i + 1)) := by simp [stkL, h]
def stkP (cs xs : List Int) (k : Nat) : Bool := (List.range k).all fun i => decide (0 ≤ stk cs xs (i + 1))
theorem stkP_0 (cs xs : List Int) : stkP cs xs 0 = true := rfl
theorem stkP_succ (cs xs : List Int) (k : Nat) : stkP cs xs (k + 1) = (stkP cs xs k && decide (0 ≤ stk cs xs (k + 1))) := by
  simp [stkP, List.range_succ, List.all_append]
theorem stkP_yes {cs xs : List Int} {k : Nat} (h : stkP cs xs k = true) (h2 : 0 ≤ stk cs xs (k + 1)) : stkP cs xs (k + 1) = true := by rw [stkP_succ, h]; simpa using h2
theorem stkP_at {cs xs : List Int} {n k : Nat} (h : stkP cs xs n = true) (hk : k < n) : 0 ≤ stk cs xs (k + 1) := by
  unfold stkP at h; rw [List.all_eq_true] at h; simpa using h k (List.mem_range.2 hk)
theorem stkP_no {cs xs : List Int} {n k : Nat} (hk : k < n) (h : stk cs xs (k + 1) < 0) : stkP cs xs n = false := by
  cases h2 : stkP cs xs n
  · rfl
  · have := stkP_at h2 hk; omega
theorem stkL_bd {r : PRow} {xs : List Int} (h1 : vLots r = true) (h2 : vPlan r xs = true) {k : Nat} (hk : k ≤ xs.length) : (∀ x ∈ stkL r.cs xs k, -792 ≤ x ∧ x ≤ 7992) ∧ k ≤ 8 := by
  have hl := (vPlan_facts h2).1
  have h8 := (vLots_facts h1).1
  refine ⟨fun x hx => ?_, by omega⟩
  simp only [stkL, List.mem_map, List.mem_range] at hx
  obtain ⟨i, hi, rfl⟩ := hx
  have := stk_bd h1 h2 (i + 1) (by omega)
  omega
theorem stkL_ok {r : PRow} {xs : List Int} (h1 : vLots r = true) (h2 : vPlan r xs = true) : vInts (stkL r.cs xs xs.length) 0 7992 = stkP r.cs xs xs.length := by
  rw [Bool.eq_iff_iff]
  unfold vInts stkP
  rw [List.all_eq_true, List.all_eq_true]
  constructor
  · intro h i hi
    have := h (stk r.cs xs (i + 1)) (by simp only [stkL, List.mem_map]; exact ⟨i, hi, rfl⟩)
    simpa using (inB_iff.1 this).1
  · intro h x hx
    have hb := (stkL_bd h1 h2 (Nat.le_refl _)).1 x hx
    simp only [stkL, List.mem_map] at hx
    obtain ⟨i, hi, rfl⟩ := hx
    have := h i hi
    exact inB_iff.2 ⟨by simpa using this, hb.2⟩
def levB (r : PRow) (xs : List Int) : Bool := vLots r && (vPlan r xs && stkP r.cs xs xs.length)
def levV (r : PRow) (xs : List Int) : List Int := if levB r xs then stkL r.cs xs xs.length else []
theorem lev_1 {r : PRow} {xs : List Int} (h : vLots r = false) : levB r xs = false ∧ levV r xs = [] := by simp [levV, levB, h]
theorem lev_2 {r : PRow} {xs : List Int} (h : vPlan r xs = false) : levB r xs = false ∧ levV r xs = [] := by simp [levV, levB, h]
theorem lev_3 {r : PRow} {xs : List Int} (h : stkP r.cs xs xs.length = false) : levB r xs = false ∧ levV r xs = [] := by simp [levV, levB, h]
theorem lev_4 {r : PRow} {xs : List Int} (h1 : vLots r = true) (h2 : vPlan r xs = true) (h3 : stkP r.cs xs xs.length = true) : levB r xs = true ∧ levV r xs = stkL r.cs xs xs.length := by simp [levV, levB, h1, h2, h3]
theorem levV_bd (r : PRow) (xs : List Int) : (∀ x ∈ levV r xs, I64 x) ∧ (levV r xs).length ≤ 1048576 := by
  cases h : levB r xs
  · simp [levV, h]
  · have h' := h
    simp only [levB, Bool.and_eq_true] at h
    have hb := stkL_bd h.1 h.2.1 (Nat.le_refl xs.length)
    rw [show levV r xs = stkL r.cs xs xs.length by simp [levV, h']]
    exact ⟨fun x hx => by have := hb.1 x hx; exact ⟨by omega, by omega⟩, by rw [stkL_len]; omega⟩
end Go.Proofs.Ytjbgjljcgdligab
