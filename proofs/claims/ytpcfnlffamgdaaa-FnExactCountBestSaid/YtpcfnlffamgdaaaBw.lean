
/-
  Base costs and ranges of rows: what the program's functions and the model's return.
-/
import Derived.Test.YtpcfnlffamgdaaaBv
set_option linter.unusedSimpArgs false
set_option linter.unusedVariables false
namespace Go.Proofs.Ytpcfnlffamgdaaa
open Go.RowKit

def baseW (p : PProb) (b : PBox) : Int := if vBox p b then dotW p.costs b.low else -1
def rrB (p : PProb) (b : PBox) (row : Int) : Bool := vBox p b && inB row 0 ((p.rows.length : Int) - 1)
def rowAt (p : PProb) (row : Int) : PRow := (p.rows[row.toNat]?).getD ⟨[], 0, 0⟩
def rrL (p : PProb) (b : PBox) (row : Int) : Int := if rrB p b row then leastW (rowAt p row).cs b else 0
def rrG (p : PProb) (b : PBox) (row : Int) : Int := if rrB p b row then greatW (rowAt p row).cs b else 0
theorem rr_1 {p : PProb} {b : PBox} {row : Int} (h : vBox p b = false) : rrL p b row = 0 ∧ rrG p b row = 0 ∧ rrB p b row = false := by simp [rrL, rrG, rrB, h]
theorem rr_2 {p : PProb} {b : PBox} {row : Int} (h : inB row 0 ((p.rows.length : Int) - 1) = false) : rrL p b row = 0 ∧ rrG p b row = 0 ∧ rrB p b row = false := by simp [rrL, rrG, rrB, h]
theorem rr_3 {p : PProb} {b : PBox} {k : Nat} {r : PRow} (h1 : vBox p b = true) (h2 : inB (k : Int) 0 ((p.rows.length : Int) - 1) = true) (hr : p.rows[k]? = some r) : rrL p b k = leastW r.cs b ∧ rrG p b k = greatW r.cs b ∧ rrB p b k = true := by
  have : rowAt p k = r := by simp [rowAt, hr]
  simp [rrL, rrG, rrB, h1, h2, this]
theorem ret_rr {a b a' b' : Int} {c c' : Bool} (h : a' = a ∧ b' = b ∧ c' = c) : Ending.returned (.tuple #[.int .i64 a, .int .i64 b, .bool c]) = .returned (.tuple #[.int .i64 a', .int .i64 b', .bool c']) := by obtain ⟨rfl, rfl, rfl⟩ := h; rfl

end Go.Proofs.Ytpcfnlffamgdaaa
