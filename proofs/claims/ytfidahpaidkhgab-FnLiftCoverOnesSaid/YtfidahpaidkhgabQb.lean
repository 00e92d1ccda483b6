
/-
  Plain lemmas on lifted covers: the items of the cover keep 1; a greater coefficient is wrong.
-/
import Derived.Test.YtfidahpaidkhgabQa
import Derived.Test.YtfidahpaidkhgabKd
set_option linter.unusedSimpArgs false
set_option linter.unusedVariables false
namespace Go.Proofs.Ytfidahpaidkhgab
open Go.RowKit

theorem cset_one {ps : List Int} {n k i : Nat} (hi : i < n) (h : ∃ m, m < k ∧ (ps.getD m 0).toNat = i) : (cset ps n k).getD i 0 = 1 := by
  induction k with
  | zero => obtain ⟨m, hm, _⟩ := h; omega
  | succ k ih =>
    by_cases e : (ps.getD k 0).toNat = i
    · show ((cset ps n k).set (ps.getD k 0).toNat 1).getD i 0 = 1
      rw [e, List.getD_eq_getElem?_getD, List.getElem?_set, if_pos rfl, if_pos (by rw [cset_len]; exact hi)]
      rfl
    · show ((cset ps n k).set (ps.getD k 0).toNat 1).getD i 0 = 1
      rw [getD_set e]
      obtain ⟨m, hm, hm2⟩ := h
      refine ih ⟨m, ?_, hm2⟩
      have : m ≠ k := fun h => e (by rw [← h]; exact hm2)
      omega
theorem lft_step {ws ps : List Int} {a : Int} {j k : Nat} (h : k ≠ j ∨ (k : Int) ∈ ps) : (lft ws a ps (j + 1)).getD k 0 = (lft ws a ps j).getD k 0 := by
  simp only [lft]
  split
  · rfl
  · rename_i hn
    exact getD_set (by rcases h with h | h; · omega
                       · intro e; subst e; exact hn h)
theorem lft_stable {ws ps : List Int} {a : Int} {j k : Nat} (d : Nat) (h : k < j ∨ (k : Int) ∈ ps) : (lft ws a ps (j + d)).getD k 0 = (lft ws a ps j).getD k 0 := by
  induction d with
  | zero => rfl
  | succ d ih => rw [← Nat.add_assoc, lft_step (by rcases h with h | h; · left; omega
                                                   · exact .inr h), ih]
/-- The items of the cover keep 1. -/
theorem lft_one {ws ps : List Int} {a : Int} (h : isCov ws a ps = true) {i : Nat} (hi : i < ws.length) (hm : decide ((i : Int) ∈ ps) = true) : (lft ws a ps ws.length).getD i 0 = 1 := by
  have hm' : (i : Int) ∈ ps := by simpa using hm
  have e := lft_stable (ws := ws) (a := a) (j := 0) (k := i) (ps := ps) ws.length (.inr hm')
  rw [Nat.zero_add] at e
  rw [e]
  refine cset_one hi ?_
  obtain ⟨m, hml, hme⟩ := List.getElem_of_mem hm'
  exact ⟨m, hml, by rw [getD_of (List.getElem?_eq_getElem hml), hme]; rfl⟩

/-- The list whose numbers behind i, up to m, outside the cover, are 0. -/
def zl (L ps : List Int) (i : Nat) : Nat → List Int
  | 0 => L
  | m + 1 => if i < m ∧ (m : Int) ∉ ps then (zl L ps i m).set m 0 else zl L ps i m
theorem zl_len (L ps : List Int) (i m : Nat) : (zl L ps i m).length = L.length := by
  induction m with
  | zero => rfl
  | succ m ih => simp only [zl]; split
                 · rw [List.length_set, ih]
                 · exact ih
theorem zl_low {L ps : List Int} {i m : Nat} (h : m ≤ i + 1) : zl L ps i m = L := by
  induction m with
  | zero => rfl
  | succ m ih => simp only [zl]; rw [if_neg (by omega)]; exact ih (by omega)
theorem zl_in {L ps : List Int} {i m : Nat} (h : decide ((m : Int) ∈ ps) = true) : zl L ps i (m + 1) = zl L ps i m := by
  simp only [decide_eq_true_eq] at h
  simp only [zl]; rw [if_neg (fun c => c.2 h)]
theorem zl_out {L ps : List Int} {i m : Nat} (hi : i < m) (h : decide ((m : Int) ∈ ps) = false) : (zl L ps i m).set m 0 = zl L ps i (m + 1) := by
  simp only [decide_eq_false_iff_not] at h
  simp only [zl]; rw [if_pos ⟨hi, h⟩]
theorem zl_at (L ps : List Int) (i m k : Nat) (hk : k < L.length) : (zl L ps i m).getD k 0 = if i < k ∧ k < m ∧ (k : Int) ∉ ps then 0 else L.getD k 0 := by
  induction m with
  | zero => rw [if_neg (by omega)]; rfl
  | succ m ih =>
    simp only [zl]
    by_cases c : i < m ∧ (m : Int) ∉ ps
    · rw [if_pos c]
      by_cases e : m = k
      · subst e
        rw [List.getD_eq_getElem?_getD, List.getElem?_set, if_pos rfl, if_pos (by rw [zl_len]; exact hk), if_pos ⟨c.1, by omega, c.2⟩]
        rfl
      · rw [getD_set e, ih]
        by_cases c2 : i < k ∧ k < m ∧ (k : Int) ∉ ps
        · rw [if_pos c2, if_pos ⟨c2.1, by omega, c2.2.2⟩]
        · rw [if_neg c2, if_neg (fun c3 => c2 ⟨c3.1, by omega, c3.2.2⟩)]
    · rw [if_neg c, ih]
      by_cases c2 : i < k ∧ k < m ∧ (k : Int) ∉ ps
      · rw [if_pos c2, if_pos ⟨c2.1, by omega, c2.2.2⟩]
      · rw [if_neg c2, if_neg (fun c3 => by
          by_cases e : k = m
          · subst e; exact c ⟨c3.1, c3.2.2⟩
          · exact c2 ⟨c3.1, by omega, c3.2.2⟩)]
theorem list_ext {xs ys : List Int} (hl : xs.length = ys.length) (h : ∀ k, k < xs.length → xs.getD k 0 = ys.getD k 0) : xs = ys := by
  refine List.ext_getElem hl fun k h1 h2 => ?_
  have := h k h1
  rwa [getD_of (List.getElem?_eq_getElem h1), getD_of (List.getElem?_eq_getElem h2)] at this
theorem zl_end {ws ps : List Int} {a : Int} (h : isCov ws a ps = true) {i : Nat} (hi : i < ws.length) : zl (lft ws a ps ws.length) ps i ws.length = lft ws a ps (i + 1) := by
  have h' := h
  simp only [isCov, Bool.and_eq_true, decide_eq_true_eq] at h'
  refine list_ext (by rw [zl_len, lft_len, lft_len]) fun k hk => ?_
  rw [zl_len, lft_len] at hk
  rw [zl_at _ _ _ _ _ (by rw [lft_len]; exact hk)]
  by_cases c : i < k ∧ k < ws.length ∧ (k : Int) ∉ ps
  · rw [if_pos c, lft_zero (i + 1) k (by omega) c.2.2 (fun x hx => (asc_in h'.2.1 x hx).1)]
  · rw [if_neg c]
    have e := lft_stable (ws := ws) (a := a) (j := i + 1) (k := k) (ps := ps) (ws.length - (i + 1)) (by
      by_cases c2 : (k : Int) ∈ ps
      · exact .inr c2
      · left
        have : ¬ i < k := fun c3 => c ⟨c3, hk, c2⟩
        omega)
    rw [show i + 1 + (ws.length - (i + 1)) = ws.length by omega] at e
    exact e
/-- A coefficient that is greater by 1 is wrong. -/
theorem lft_more {ws ps : List Int} {a : Int} (h : isCov ws a ps = true) {i : Nat} (hi : i < ws.length) (hn : decide ((i : Int) ∈ ps) = false) (hw : ws.getD i 0 ≤ a) :
    covB ws a ((lft ws a ps (i + 1)).set i ((lft ws a ps (i + 1)).getD i 0 + 1)) ((ps.length : Int) - 1) = false := by
  have h' := h
  simp only [isCov, Bool.and_eq_true, decide_eq_true_eq] at h'
  simp only [decide_eq_false_iff_not] at hn
  obtain ⟨f3, f4, f5, f6⟩ := vWts_facts h'.1
  have w0 := f4 _ (List.mem_of_getElem? (getD_mem hi))
  have hz := lft_zero (ws := ws) (a := a) i i (Nat.le_refl _) hn (fun x hx => (asc_in h'.2.1 x hx).1)
  obtain ⟨i1, i2, i3⟩ := lft_inv h i (by omega)
  have e1 : lft ws a ps (i + 1) = (lft ws a ps i).set i (lval ws a (ps.length - 1) (lft ws a ps i) i) := by simp only [lft]; rw [if_neg hn]
  generalize lft ws a ps i = L at *
  have ev : (L.set i (lval ws a (ps.length - 1) L i)).getD i 0 = lval ws a (ps.length - 1) L i := by
    rw [List.getD_eq_getElem?_getD, List.getElem?_set, if_pos rfl, if_pos (by omega)]; rfl
  rw [e1, ev, List.set_set]
  have hB : ∀ x ∈ outAt L i, 0 ≤ x ∧ x ≤ 99 := fun x hx => by have := i2 x (outAt_mem x hx); omega
  have eL : best L ws (a - ws.getD i 0).toNat = best (outAt L i) (outAt ws i) (a - ws.getD i 0).toNat := by
    rw [best_pull i1 i hi, hz]
    have m := best_mono (ws := outAt ws i) (show (a - ws.getD i 0).toNat - (ws.getD i 0).toNat ≤ (a - ws.getD i 0).toNat by omega) hB
    unfold kupd
    split <;> omega
  have eS : best (L.set i (lval ws a (ps.length - 1) L i + 1)) ws a.toNat ≥ best (outAt L i) (outAt ws i) (a.toNat - (ws.getD i 0).toNat) + (lval ws a (ps.length - 1) L i + 1) := by
    rw [best_pull (by rw [List.length_set, i1]) i hi, outAt_set]
    have e : (L.set i (lval ws a (ps.length - 1) L i + 1)).getD i 0 = lval ws a (ps.length - 1) L i + 1 := by
      rw [List.getD_eq_getElem?_getD, List.getElem?_set, if_pos rfl, if_pos (by omega)]; rfl
    rw [e]
    unfold kupd
    rw [if_pos (by omega)]
    omega
  have er : a.toNat - (ws.getD i 0).toNat = (a - ws.getD i 0).toNat := by omega
  rw [er] at eS
  have el : lval ws a (ps.length - 1) L i = (ps.length : Int) - 1 - best L ws (a - ws.getD i 0).toNat := rfl
  have : ¬ best (L.set i (lval ws a (ps.length - 1) L i + 1)) ws a.toNat ≤ (ps.length : Int) - 1 := by omega
  simp [covB, this]
end Go.Proofs.Ytfidahpaidkhgab
