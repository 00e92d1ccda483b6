
/-
  What the validity of a box says of its lengths.
-/
import Derived.Test.YtangfmmjpomlgaaBz
set_option linter.unusedSimpArgs false
set_option linter.unusedVariables false
namespace Go.Proofs.Ytangfmmjpomlgaa
open Go.RowKit

theorem vBox_parts {p : PProb} {b : PBox} (h : vBox p b = true) : vProb p = true ∧ isPt p.uppers b.low = true ∧ isPt p.uppers b.high = true := by
  simp only [vBox, Bool.and_eq_true] at h
  exact ⟨h.1, h.2.1, h.2.2.1⟩
theorem vBox_lens {p : PProb} {b : PBox} (h : vBox p b = true) : p.uppers.length = p.costs.length ∧ b.low.length = p.uppers.length ∧ b.high.length = p.uppers.length := by
  obtain ⟨h1, h2, h3⟩ := vBox_parts h
  exact ⟨vProb_ul h1, isPt_len h2, isPt_len h3⟩
theorem vBox_fit {p : PProb} {b : PBox} {k : Nat} {r : PRow} (h : vBox p b = true) (hr : p.rows[k]? = some r) : r.cs.length ≤ b.low.length ∧ r.cs.length ≤ b.high.length := by
  obtain ⟨h1, h2, h3⟩ := vBox_parts h
  have f1 := (vProb_fits h1 h2).2.2 r (List.mem_of_getElem? hr)
  have f2 := (vProb_fits h1 h3).2.2 r (List.mem_of_getElem? hr)
  exact ⟨f1, f2⟩
end Go.Proofs.Ytangfmmjpomlgaa
