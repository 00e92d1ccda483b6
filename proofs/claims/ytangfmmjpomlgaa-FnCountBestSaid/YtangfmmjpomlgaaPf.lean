
/-
  Plain facts on points without rows: how many they are; problems with other rows.
-/
import Derived.Test.YtangfmmjpomlgaaNd
set_option linter.unusedSimpArgs false
set_option linter.unusedVariables false
namespace Go.Proofs.Ytangfmmjpomlgaa
open Go.RowKit

/-- The product of the first k upper bounds, each plus 1. -/
def prodK (us : List Int) : Nat → Int
  | 0 => 1
  | k + 1 => prodK us k * (us.getD k 0 + 1)
theorem prodK_cons (u : Int) (us : List Int) : ∀ k, prodK (u :: us) (k + 1) = (u + 1) * prodK us k
  | 0 => by simp [prodK]
  | k + 1 => by
    rw [prodK, prodK_cons u us k, prodK, List.getD_cons_succ, Int.mul_assoc]
theorem pts_prod {us : List Int} (hu : ∀ u ∈ us, 0 ≤ u) : ((pts us).length : Int) = prodK us us.length := by
  induction us with
  | nil => simp [pts, prodK]
  | cons u us ih =>
    have h0 := hu u (by simp)
    rw [List.length_cons, prodK_cons, ← ih fun v hv => hu v (by simp [hv]), pts, blocks_len, Int.natCast_mul]
    congr 1
    omega
theorem prodK_bd {us : List Int} (hu : ∀ u ∈ us, 0 ≤ u ∧ u ≤ 9) : ∀ k, k ≤ us.length → 1 ≤ prodK us k ∧ prodK us k ≤ 10 ^ k
  | 0, _ => by simp [prodK]
  | k + 1, h => by
    have ih := prodK_bd hu k (by omega)
    have e : us.getD k 0 = us[k] := by rw [List.getD_eq_getElem?_getD, List.getElem?_eq_getElem (by omega)]; rfl
    have hb := hu _ (List.getElem_mem (show k < us.length by omega))
    rw [prodK, e, Int.pow_succ]
    constructor
    · have := Int.mul_le_mul ih.1 (show (1 : Int) ≤ us[k] + 1 by omega) (by omega) (by omega)
      omega
    · exact Int.mul_le_mul ih.2 (by omega) (by omega) (by have := ih.1; omega)
theorem prodK_small {us : List Int} (hu : ∀ u ∈ us, 0 ≤ u ∧ u ≤ 9) (h5 : us.length ≤ 5) {k : Nat} (hk : k ≤ us.length) : 1 ≤ prodK us k ∧ prodK us k ≤ 100000 := by
  obtain ⟨h1, h2⟩ := prodK_bd hu k hk
  rcases (by omega : k = 0 ∨ k = 1 ∨ k = 2 ∨ k = 3 ∨ k = 4 ∨ k = 5) with rfl | rfl | rfl | rfl | rfl | rfl <;> simp at h2 <;> omega
/-- The problem with other rows. -/
def rowsP (p : PProb) (rs : List PRow) : PProb := ⟨p.costs, p.uppers, rs⟩
theorem vProb_rows {p : PProb} {rs : List PRow} (h : vProb p = true) (h6 : rs.length ≤ 6) (hr : ∀ r ∈ rs, vRow r p.costs.length = true) : vProb (rowsP p rs) = true := by
  unfold vProb at h ⊢
  simp only [Bool.and_eq_true, decide_eq_true_eq] at h ⊢
  exact ⟨h.1, h.2.1, h6, h.2.2.2.1, List.all_eq_true.2 hr⟩
theorem cntF_free {p : PProb} (h : vProb p = true) : cntF (rowsP p []) = prodK p.uppers p.uppers.length := by
  rw [cntF_2 (vProb_rows h (by simp) (by simp)), ← pts_prod fun u hu => (vProb_us h u hu).1]
  have e : (pts p.uppers).filter (allB []) = pts p.uppers := List.filter_eq_self.2 fun x _ => rfl
  simp only [cnt, rowsP, e]
theorem cntF_le {p : PProb} (h : vProb p = true) : 0 ≤ cntF p ∧ cntF p ≤ prodK p.uppers p.uppers.length := by
  rw [cntF_2 h, ← pts_prod fun u hu => (vProb_us h u hu).1]
  have : cnt (allB p.rows) (pts p.uppers) ≤ (pts p.uppers).length := cnt_le
  omega
end Go.Proofs.Ytangfmmjpomlgaa
