
/-
  Opening the one argument of a law, a slice of bytes, and closing the row.
-/
import Derived.Test.YtpcfnlffamgdaabRdr
import Derived.ProofKit
import Derived.OpenShut
import Derived.ShutString
import Derived.ChangeOld
set_option linter.unusedSimpArgs false
set_option linter.unusedVariables false
namespace Go.Proofs.Ytpcfnlffamgdaab
open Go.ChangeShapes Go.WideShapes Go.ChangeAt Go.RowKit

theorem own : ownKnob Try.prog.godebug = none := by kernel_rfl
theorem laidOut : laidOutB Try.prog = true := by kernel_rfl
theorem add_flat (b off i : Nat) : (⟨b, off, none⟩ : Addr).add i = ⟨b, off + i, none⟩ := by
  rcases Nat.eq_zero_or_pos i with rfl | h
  · simp [Addr.add]
  · simp [Addr.add]; omega
theorem block_lt {w : World} {x : Addr} {v : Value} (h : w.cell? x = some v) : x.block < w.heap.size := by
  rcases Nat.lt_or_ge x.block w.heap.size with h0 | h0
  · exact h0
  · have e : w.heap[x.block]? = none := by simp; omega
    simp [World.cell?, e] at h
/-- The bytes that came in, as the readers take them. -/
theorem By.of_row {w : World} {len cap : Nat} {x : Addr} {zs : List Int} (hb : x.block < w.heap.size) (hl : len ≤ cap) (hm : cap ≤ maxLen) (hz : zs.length = cap)
    (hc : ∀ i, i < zs.length → w.cell? (x.add i) = some (.int .u8 (zs.getD i 0))) (hw : ∀ n ∈ zs, (Lit.int .u8 n).wf = true) : By w.heap.size w (some x) len cap := by
  refine ⟨hl, hm, ?_⟩
  rcases Nat.eq_zero_or_pos len with h0 | h0
  · exact .inl h0
  · have hc0 := hc 0 (by omega)
    obtain ⟨b, off, spot⟩ := x
    have hspot : spot = none := by simpa [Addr.add] using World.cell?_spot hc0
    subst hspot
    refine .inr ⟨b, off, rfl, by simpa using hb, fun i hi => ?_⟩
    have hi' : i < zs.length := by omega
    have hmem : zs.getD i 0 ∈ zs := by
      rw [List.getD_eq_getElem?_getD, List.getElem?_eq_getElem hi']; exact List.getElem_mem hi'
    have hwf := hw _ hmem
    simp only [Lit.wf, IntKind.min, IntKind.max, IntKind.signed, IntKind.bits] at hwf
    refine ⟨zs.getD i 0, ?_, ?_, by rw [← add_flat]; exact hc i hi'⟩
    · simp at hwf ⊢; omega
    · simp at hwf ⊢; omega
end Go.Proofs.Ytpcfnlffamgdaab
