
/-
  Plain facts on the cheapest feasible point.
-/
import Derived.Test.YtangfmmjpomlgaaNj
set_option linter.unusedSimpArgs false
set_option linter.unusedVariables false
namespace Go.Proofs.Ytangfmmjpomlgaa
open Go.RowKit

theorem all_cost {p : PProb} (h : vProb p = true) : ∀ x ∈ pts p.uppers, 0 ≤ dotW p.costs x := pre_cost h (List.prefix_refl _)
theorem cntF_zero {p : PProb} (h : vProb p = true) : cntF p = 0 ↔ ∀ x ∈ pts p.uppers, allB p.rows x = false := by
  rw [cntF_2 h]
  constructor
  · intro e x hx
    have e' : (pts p.uppers).filter (allB p.rows) = [] := List.eq_nil_of_length_eq_zero (by unfold cnt at e; omega)
    rw [List.filter_eq_nil_iff] at e'
    simpa using e' x hx
  · intro e
    have e' : (pts p.uppers).filter (allB p.rows) = [] := List.filter_eq_nil_iff.2 fun x hx => by simp [e x hx]
    simp [cnt, e']
theorem cntF_nn {p : PProb} (h : vProb p = true) : 0 ≤ cntF p := by rw [cntF_2 h]; omega
theorem sol_neg {p : PProb} (hv : vProb p = true) (h : solC p < 0) : cntF p = 0 ∧ solL p = [] := by
  rw [solC_2 hv] at h
  obtain ⟨h1, h2⟩ := slv_none (all_cost hv) h
  exact ⟨(cntF_zero hv).2 h2, by rw [solL_2 hv, h1]⟩
theorem sol_pos {p : PProb} (hv : vProb p = true) (h : ¬ solC p < 0) : solL p ∈ pts p.uppers ∧ allB p.rows (solL p) = true ∧ solC p = dotW p.costs (solL p) := by
  rw [solC_2 hv] at h
  have := slv_mem (all_cost hv) (Int.not_lt.1 h)
  rw [solL_2 hv, solC_2 hv]
  exact this
theorem sol_feas {p : PProb} (hv : vProb p = true) (h : ¬ solC p < 0) : feas p (solL p) = true ∧ costW p (solL p) = solC p ∧ 0 < cntF p := by
  obtain ⟨h1, h2, h3⟩ := sol_pos hv h
  have hp := pts_isPt (vProb_us hv) h1
  refine ⟨by rw [feas_3 hv hp]; exact h2, by rw [costW_3 hv hp, h3], ?_⟩
  have := cntF_nn hv
  have hne : cntF p ≠ 0 := fun e => by
    have := (cntF_zero hv).1 e _ h1
    rw [h2] at this; exact absurd this (by simp)
  omega
theorem sol_least {p : PProb} (hv : vProb p = true) {x : List Int} (hx : x ∈ pts p.uppers) (ho : allB p.rows x = true) : 0 ≤ solC p ∧ solC p ≤ dotW p.costs x := by
  rw [solC_2 hv]
  exact slv_least (all_cost hv) hx ho
theorem sol_len {p : PProb} (hv : vProb p = true) : (solL p).length ≤ 5 := by
  by_cases h : solC p < 0
  · rw [(sol_neg hv h).2]; simp
  · rw [pts_len (vProb_us hv) (sol_pos hv h).1]; exact (vProb_N5 hv).1
theorem solC_lo {p : PProb} : -1 ≤ solC p ∧ solC p ≤ 5000 := by
  cases hv : vProb p
  · rw [solC_1 hv]; decide
  · by_cases h : solC p < 0
    · rw [solC_2 hv] at h ⊢
      rw [(slv_none (all_cost hv) h).1]; decide
    · obtain ⟨h1, _, h3⟩ := sol_pos hv h
      have := pt_cost hv h1
      omega
theorem impl_SE (A0 A1 A2 : Option Addr) (c0 c1 c2 : Nat) (p : PProb) (L : List Int) (v : Int) (w : World) (hp : ProbV w A0 A1 A2 c0 c1 c2 p) (hL : solL p = L) (hv : solC p = v) :
    Calls Try.prog 10 #[.agg #[.slice A0 p.costs.length c0, .slice A1 p.uppers.length c1, .slice A2 p.rows.length c2]] w (PairJ L v w) := by
  subst hL hv; exact impl_SolveExact A0 A1 A2 c0 c1 c2 p w hp
theorem impl_CF (A0 A1 A2 : Option Addr) (c0 c1 c2 : Nat) (p : PProb) (v : Int) (w : World) (hp : ProbV w A0 A1 A2 c0 c1 c2 p) (hv : cntF p = v) :
    Calls Try.prog 17 #[.agg #[.slice A0 p.costs.length c0, .slice A1 p.uppers.length c1, .slice A2 p.rows.length c2]] w fun e w' => e = .returned (.int .i64 v) ∧ Below w.heap.size w w' := by
  subst hv; exact impl_CountFeasible A0 A1 A2 c0 c1 c2 p w hp
end Go.Proofs.Ytangfmmjpomlgaa
