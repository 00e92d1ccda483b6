
/-
  Plain lemmas for the promises on rows.
-/
import Derived.Test.YtibehbfnkecmkaaNi
import Derived.Test.YtibehbfnkecmkaaRh
set_option linter.unusedSimpArgs false
set_option linter.unusedVariables false
namespace Go.Proofs.Ytibehbfnkecmkaa
open Go.RowKit

theorem vRow_negR {r : PRow} {m : Int} (h : vRow r m = true) : vRow (negR r) m = true := by
  simp only [vRow, Bool.and_eq_true, decide_eq_true_eq] at h ⊢
  obtain ⟨h1, h2, h3, h4, h5⟩ := h
  have a4 := inB_iff.1 h4
  have a5 := inB_iff.1 h5
  refine ⟨h1, by simpa [negR] using h2, ?_, ?_, ?_⟩
  · simp only [vInts, List.all_eq_true, negR] at h3 ⊢
    intro x hx
    obtain ⟨y, hy, rfl⟩ := List.mem_map.1 hx
    have := inB_iff.1 (h3 y hy)
    exact inB_iff.2 (by omega)
  · refine inB_iff.2 ?_
    simp only [negR, negS]
    split <;> (try split) <;> omega
  · exact inB_iff.2 (by simp only [negR]; omega)
theorem vRow_self {r : PRow} {m : Int} (h : vRow r m = true) : vRow r r.cs.length = true := by
  have h' := h
  simp only [vRow, Bool.and_eq_true, decide_eq_true_eq] at h
  rw [h.2.1]; exact h'
theorem ngR_of {r : PRow} {m : Int} (h : vRow r m = true) : ngR r = negR r := ngR_1 (vRow_self h)
theorem negS_negS (s : Int) : negS (negS s) = s := by unfold negS; split <;> (try split) <;> (try split) <;> omega
theorem negR_negR (r : PRow) : negR (negR r) = r := by
  obtain ⟨cs, s, b⟩ := r
  simp [negR, negS_negS, Function.comp_def]
theorem ngR_ngR {r : PRow} (h : ¬ (ngR r).s = 0) : ngR (ngR r) = r := by
  cases hv : vRow r r.cs.length
  · rw [ngR_0 hv] at h; exact absurd rfl h
  · rw [ngR_1 hv, ngR_of (vRow_negR hv), negR_negR]
theorem ngR_len (r : PRow) : (ngR r).cs.length ≤ r.cs.length := by
  unfold ngR
  split
  · simp [negR]
  · simp

/-- The row with another sense. -/
theorem vRow_sense {cs : List Int} {s t b m : Int} (h : vRow ⟨cs, s, b⟩ m = true) (h1 : 1 ≤ t) (h2 : t ≤ 3) : vRow ⟨cs, t, b⟩ m = true := by
  simp only [vRow, Bool.and_eq_true, decide_eq_true_eq] at h ⊢
  exact ⟨h.1, h.2.1, h.2.2.1, inB_iff.2 ⟨h1, h2⟩, h.2.2.2.2⟩
theorem cmp_three (d b : Int) : cmpW d 3 b = (cmpW d 1 b && cmpW d 2 b) := by
  by_cases h1 : d ≤ b <;> by_cases h2 : b ≤ d <;> simp [cmpW, h1, h2] <;> omega
theorem rhB_three (cs xs : List Int) (b : Int) (n : Nat) : rhB ⟨cs, 3, b⟩ xs n = (rhB ⟨cs, 1, b⟩ xs n && rhB ⟨cs, 2, b⟩ xs n) := by
  have e2 : vRow ⟨cs, 2, b⟩ n = vRow ⟨cs, 1, b⟩ n := by simp [vRow, inB]
  have e3 : vRow ⟨cs, 3, b⟩ n = vRow ⟨cs, 1, b⟩ n := by simp [vRow, inB]
  unfold rhB
  rw [e2, e3]
  cases vRow ⟨cs, 1, b⟩ n <;> cases vInts xs 0 9 <;> simp [holdsW, cmp_three]

theorem fold_bd {cs xs : List Int} (hc : ∀ x ∈ cs, -9 ≤ x ∧ x ≤ 9) (hx : ∀ x ∈ xs, 0 ≤ x ∧ x ≤ 9) (k : Nat) (hk : k ≤ 1000) :
    (-(81 * (k : Int)) ≤ fold (mac cs xs) k ∧ fold (mac cs xs) k ≤ 81 * k) ∧ fold (mac (cs.map fun x => -x) xs) k = - fold (mac cs xs) k := by
  induction k with
  | zero => simp [fold]
  | succ k ih =>
    obtain ⟨⟨b1, b2⟩, e⟩ := ih (by omega)
    have ha : -9 ≤ cs.getD k 0 ∧ cs.getD k 0 ≤ 9 := by
      by_cases h : k < cs.length
      · rw [List.getD_eq_getElem?_getD, List.getElem?_eq_getElem h]; exact hc _ (List.getElem_mem h)
      · rw [List.getD_eq_getElem?_getD, List.getElem?_eq_none (by omega)]; simp
    have hb : 0 ≤ xs.getD k 0 ∧ xs.getD k 0 ≤ 9 := by
      by_cases h : k < xs.length
      · rw [List.getD_eq_getElem?_getD, List.getElem?_eq_getElem h]; exact hx _ (List.getElem_mem h)
      · rw [List.getD_eq_getElem?_getD, List.getElem?_eq_none (by omega)]; simp
    have hm : (cs.map fun x => -x).getD k 0 = - cs.getD k 0 := by
      simp only [List.getD_eq_getElem?_getD, List.getElem?_map]
      cases cs[k]? <;> simp
    show (_ ≤ mac cs xs k (fold (mac cs xs) k) ∧ mac cs xs k (fold (mac cs xs) k) ≤ _) ∧ mac (cs.map fun x => -x) xs k (fold (mac (cs.map fun x => -x) xs) k) = - mac cs xs k (fold (mac cs xs) k)
    have em : ∀ (a y : List Int) (i : Nat) (n : Int), mac a y i n = wrap64 (n + wrap64 (a.getD i 0 * y.getD i 0)) := fun _ _ _ _ => rfl
    rw [em cs xs k, em (cs.map fun x => -x) xs k, hm, e]
    generalize cs.getD k 0 = a at *
    generalize xs.getD k 0 = y at *
    generalize fold (mac cs xs) k = f at *
    have p1 : -81 ≤ a * y ∧ a * y ≤ 81 := by
      obtain ⟨y0, y1⟩ := hb
      rcases (by omega : y = 0 ∨ y = 1 ∨ y = 2 ∨ y = 3 ∨ y = 4 ∨ y = 5 ∨ y = 6 ∨ y = 7 ∨ y = 8 ∨ y = 9) with rfl | rfl | rfl | rfl | rfl | rfl | rfl | rfl | rfl | rfl <;> omega
    rw [Int.neg_mul]
    generalize a * y = q at *
    have hk' : (k : Int) ≤ 1000 := by omega
    rw [IntWalk.wrap64_in q ⟨by omega, by omega⟩, IntWalk.wrap64_in (-q) ⟨by omega, by omega⟩, IntWalk.wrap64_in (f + q) ⟨by omega, by omega⟩, IntWalk.wrap64_in (-f + -q) ⟨by omega, by omega⟩]
    push_cast
    refine ⟨⟨by omega, by omega⟩, by omega⟩
theorem cmpW_neg {d s b : Int} (h1 : 1 ≤ s) (h2 : s ≤ 3) : cmpW (-d) (negS s) (-b) = cmpW d s b := by
  rcases (by omega : s = 1 ∨ s = 2 ∨ s = 3) with rfl | rfl | rfl
  · simp [cmpW, negS]
  · simp [cmpW, negS]
  · by_cases h : d = b
    · subst h; simp [cmpW, negS]
    · have : ¬ (-d = -b) := by omega
      simp [cmpW, negS, h]
theorem rhB_neg {r : PRow} {xs : List Int} {n : Nat} (h : vRow r n = true) : rhB (negR r) xs n = rhB r xs n := by
  cases h2 : vInts xs 0 9
  · rw [rhB_2 h2, rhB_2 h2]
  rw [rhB_3 (vRow_negR h) h2, rhB_3 h h2]
  obtain ⟨hl, hc, ⟨s1, s2⟩, _⟩ := vRow_in h
  have hx : ∀ x ∈ xs, 0 ≤ x ∧ x ≤ 9 := by
    rw [vInts, List.all_eq_true] at h2
    exact fun x hx => inB_iff.1 (h2 x hx)
  have e := (fold_bd hc hx r.cs.length (by omega)).2
  unfold holdsW dotW
  have hlen : (negR r).cs.length = r.cs.length := by simp [negR]
  rw [hlen]
  show cmpW (fold (mac (r.cs.map fun x => -x) xs) r.cs.length) (negS r.s) (-r.b) = _
  rw [e]
  exact cmpW_neg s1 s2
end Go.Proofs.Ytibehbfnkecmkaa
