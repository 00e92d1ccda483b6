
/-
  Lines of duties: what is promised of them.
-/
import Derived.Test.YtjbgjljcgdligabJp
import Derived.Test.YtjbgjljcgdligabWp
set_option linter.unusedSimpArgs false
set_option linter.unusedVariables false
namespace Go.Proofs.Ytjbgjljcgdligab
open Go.RowKit

theorem gap_iff {ds : List (Int × Int)} {rest : Int} {line : List Int} {k : Nat} : lGap ds rest line k = true ↔ k = 0 ∨ dE ds (ix line (k - 1)) + rest ≤ dS ds (ix line k) := by simp [lGap]
theorem gaps_of {ds : List (Int × Int)} {rest : Int} {line : List Int} {n : Nat} (h : ∀ k, k < n → lGap ds rest line k = true) : gaps ds rest line n = true := by
  unfold gaps; rw [List.all_eq_true]; intro k hk; exact h k (List.mem_range.1 hk)
theorem ix_out {xs : List Int} {i k : Nat} (hi : i < xs.length) : ix (cutAt xs i) k = if k < i then ix xs k else ix xs (k + 1) := by
  unfold ix
  have := cutAt_at (xs := xs) (i := i) hi (j := k)
  split
  · rename_i h; rw [if_pos h] at this; rw [this]
  · rename_i h; rw [if_neg h] at this; rw [this]
theorem work_out {ds : List (Int × Int)} {line : List Int} {i : Nat} (hi : i < line.length) : ∀ k, lWork ds (cutAt line i) k = if k ≤ i then lWork ds line k else lWork ds line (k + 1) - (dE ds (ix line i) - dS ds (ix line i))
  | 0 => by simp [lWork]
  | k + 1 => by
    have ih := work_out (ds := ds) hi k
    rw [lWork, ih, ix_out hi]
    by_cases h1 : k < i
    · rw [if_pos h1, if_pos (by omega), if_pos (by omega), lWork]
    · by_cases h2 : k = i
      · subst h2
        rw [if_pos (Nat.le_refl _), if_neg (by omega), if_neg (by omega)]
        simp only [lWork]
        omega
      · rw [if_neg (by omega), if_neg h1, if_neg (by omega)]
        simp only [lWork]
        omega
theorem lineB_parts {ds : List (Int × Int)} {rest most : Int} {line : List Int} (h : lineB ds rest most line = true) : vDut ds = true ∧ rulB rest most = true ∧ ascB line ds.length = true ∧ gaps ds rest line line.length = true ∧ lWork ds line line.length ≤ most := by
  unfold lineB lnB at h
  simp only [Bool.and_eq_true, decide_eq_true_eq] at h
  exact ⟨h.1, h.2.1, h.2.2.1, h.2.2.2.1, h.2.2.2.2⟩
theorem lineB_mk {ds : List (Int × Int)} {rest most : Int} {line : List Int} (h1 : vDut ds = true) (h2 : rulB rest most = true) (h3 : ascB line ds.length = true) (h4 : gaps ds rest line line.length = true) (h5 : lWork ds line line.length ≤ most) : lineB ds rest most line = true := by
  rw [lineB_4 h1 h2 h3]; unfold lnB; rw [h4]; simpa using h5
theorem ix_dut {ds : List (Int × Int)} {line : List Int} (h1 : vDut ds = true) (h3 : ascB line ds.length = true) {k : Nat} (hk : k < line.length) : 0 ≤ dS ds (ix line k) ∧ dS ds (ix line k) < dE ds (ix line k) ∧ dE ds (ix line k) ≤ 200 := by
  have hm := ascB_mem h3 _ (List.mem_of_getElem? (getD_mem hk))
  exact (vDut_facts h1).2 (ix line k) (by unfold ix; omega)
theorem line_out {ds : List (Int × Int)} {rest most : Int} {line : List Int} {i : Nat} (h : lineB ds rest most line = true) (hi : i < line.length) : lineB ds rest most (cutAt line i) = true := by
  obtain ⟨h1, h2, h3, h4, h5⟩ := lineB_parts h
  have hl := cutAt_len hi
  have hr := (rulB_facts h2).1
  refine lineB_mk h1 h2 (asc_cut h3 hi) (gaps_of fun k hk => ?_) ?_
  · rw [gap_iff]
    rcases Nat.eq_zero_or_pos k with hk0 | hk0
    · exact .inl hk0
    · refine .inr ?_
      rw [ix_out hi, ix_out hi]
      by_cases c1 : k < i
      · have := gap_iff.1 (gaps_at h4 (show k < line.length by omega))
        rw [if_pos (by omega), if_pos c1]
        omega
      · rw [if_neg c1]
        by_cases c2 : k = i
        · subst c2
          rw [if_pos (by omega)]
          have a := gap_iff.1 (gaps_at h4 hi)
          have b := gap_iff.1 (gaps_at h4 (show k + 1 < line.length by omega))
          have c := ix_dut h1 h3 hi
          simp only [Nat.add_sub_cancel] at b
          omega
        · rw [if_neg (by omega), show k - 1 + 1 = k by omega]
          have b := gap_iff.1 (gaps_at h4 (show k + 1 < line.length by omega))
          simp only [Nat.add_sub_cancel] at b
          omega
  · have e := work_out (ds := ds) hi (cutAt line i).length
    rw [e]
    have c := ix_dut h1 h3 hi
    by_cases q : (cutAt line i).length ≤ i
    · rw [if_pos q]
      have e1 : line.length = (cutAt line i).length + 1 := by omega
      have e2 : i = (cutAt line i).length := by omega
      rw [e1, lWork, ← e2] at h5
      rw [← e2]
      omega
    · rw [if_neg q, show (cutAt line i).length + 1 = line.length by omega]
      omega
theorem line_loose {ds : List (Int × Int)} {rest most rest' most' : Int} {line : List Int} (h : lineB ds rest most line = true) (hr : rest' = max (rest - 1) 0) (hm : most' = min (most + 1) 9999) : lineB ds rest' most' line = true := by
  obtain ⟨h1, h2, h3, h4, h5⟩ := lineB_parts h
  obtain ⟨⟨a, b⟩, c, d⟩ := rulB_facts h2
  refine lineB_mk h1 (by unfold rulB; rw [inB_iff.2 ⟨by omega, by omega⟩, inB_iff.2 ⟨by omega, by omega⟩]; rfl) h3 (gaps_of fun k hk => ?_) (by omega)
  have := gap_iff.1 (gaps_at h4 hk)
  rw [gap_iff]
  omega
end Go.Proofs.Ytjbgjljcgdligab
