
/-
  Plain lemmas for the promises on items: no choice is better than the best one; covers grow; tables never decrease.
-/
import Derived.Test.YtjbgjljcgdligabQ6
set_option linter.unusedSimpArgs false
set_option linter.unusedVariables false
namespace Go.Proofs.Ytjbgjljcgdligab
open Go.RowKit

def sumL (xs : List Int) : List Int → Int
  | [] => 0
  | p :: ps => xs.getD p.toNat 0 + sumL xs ps
theorem sumL_append (xs a b : List Int) : sumL xs (a ++ b) = sumL xs a + sumL xs b := by
  induction a with
  | nil => simp [sumL]
  | cons p a ih => show _ + sumL xs (a ++ b) = _ + _ + _; rw [ih, Int.add_assoc]
theorem getD_in {xs : List Int} (hx : ∀ x ∈ xs, 0 ≤ x ∧ x ≤ 99) (i : Nat) : 0 ≤ xs.getD i 0 ∧ xs.getD i 0 ≤ 99 := by
  rw [List.getD_eq_getElem?_getD]
  cases e : xs[i]? with
  | none => simp
  | some x => exact hx x (List.mem_of_getElem? e)
theorem sumL_bd {xs : List Int} (hx : ∀ x ∈ xs, 0 ≤ x ∧ x ≤ 99) (ps : List Int) : 0 ≤ sumL xs ps ∧ sumL xs ps ≤ 99 * (ps.length : Int) := by
  induction ps with
  | nil => simp [sumL]
  | cons p ps ih =>
    have a := getD_in hx p.toNat
    show 0 ≤ _ + _ ∧ _ + _ ≤ _
    rw [List.length_cons]
    push_cast
    omega
theorem sumW_k {xs ps : List Int} (hx : ∀ x ∈ xs, 0 ≤ x ∧ x ≤ 99) (hl : ps.length ≤ 1000) (k : Nat) (hk : k ≤ ps.length) : fold (sumF xs ps) k = sumL xs (ps.take k) := by
  induction k with
  | zero => simp [fold, sumL]
  | succ k ih =>
    have hkl : k < ps.length := by omega
    show sumF xs ps k (fold (sumF xs ps) k) = _
    rw [ih (by omega), List.take_add_one, List.getElem?_eq_getElem hkl]
    show wrap64 _ = sumL xs (ps.take k ++ [ps[k]])
    rw [sumL_append]
    have a := sumL_bd hx (ps.take k)
    have b := getD_in hx (ps.getD k 0).toNat
    rw [List.length_take] at a
    rw [IntWalk.wrap64_in _ ⟨by omega, by omega⟩]
    have e : ps.getD k 0 = ps[k] := getD_of (List.getElem?_eq_getElem hkl)
    rw [e]
    show _ = _ + (xs.getD ps[k].toNat 0 + 0)
    rw [Int.add_zero]
theorem sumW_eq {xs ps : List Int} (hx : ∀ x ∈ xs, 0 ≤ x ∧ x ≤ 99) (hl : ps.length ≤ 1000) : sumW xs ps = sumL xs ps := by
  unfold sumW
  rw [sumW_k hx hl _ (Nat.le_refl _), List.take_length]

/-- Ascending from i on, below n. -/
def Asc (n : Int) : Int → List Int → Prop
  | _, [] => True
  | i, p :: ps => i ≤ p ∧ p < n ∧ Asc n (p + 1) ps
theorem asc_drop {ps : List Int} {n : Int} (h : ascB ps n = true) (m k : Nat) (hm : m + k = ps.length) : Asc n (lastV ps k + 1) (ps.drop k) := by
  induction m generalizing k with
  | zero => rw [List.drop_of_length_le (by omega)]; trivial
  | succ m ih =>
    have hk : k < ps.length := by omega
    rw [List.drop_eq_getElem_cons hk]
    have hg : ps.getD k 0 = ps[k] := getD_of (List.getElem?_eq_getElem hk)
    have b := ascB_mem h ps[k] (List.getElem_mem hk)
    simp only [ascB, Bool.and_eq_true] at h
    have a := incP_at h.1 hk
    refine ⟨?_, by omega, ?_⟩
    · cases k with
      | zero => show -1 + 1 ≤ _; omega
      | succ j =>
        show ps.getD j 0 + 1 ≤ _
        simp only [Nat.add_sub_cancel] at a
        omega
    · have := ih (k + 1) (by omega)
      rw [← hg]
      exact this
theorem asc_of {ps : List Int} {n : Int} (h : ascB ps n = true) : Asc n 0 ps := by
  have := asc_drop h ps.length 0 (by omega)
  rwa [List.drop_zero] at this
theorem asc_len {n i : Int} {ps : List Int} (h : Asc n i ps) (h0 : i ≤ n) : (ps.length : Int) ≤ n - i := by
  induction ps generalizing i with
  | nil => simp; omega
  | cons p ps ih =>
    obtain ⟨a, b, c⟩ := h
    have := ih c (by omega)
    rw [List.length_cons]; push_cast; omega
theorem bAt_le {vs ws : List Int} (hl : vs.length = ws.length) (i r : Nat) (hi : i < ws.length) : bAt vs ws (i + 1) r ≤ bAt vs ws i r := by
  rw [bAt_step hl hi]
  split <;> omega
theorem bAt_anti {vs ws : List Int} (hl : vs.length = ws.length) (r i d : Nat) (hi : i + d ≤ ws.length) : bAt vs ws (i + d) r ≤ bAt vs ws i r := by
  induction d with
  | zero => exact Int.le_refl _
  | succ d ih =>
    have a := ih (by omega)
    have b := bAt_le hl (i + d) r (by omega)
    rw [← Nat.add_assoc]
    omega
theorem asc_best {vs ws : List Int} (hl : vs.length = ws.length) (hv : ∀ x ∈ vs, 0 ≤ x ∧ x ≤ 99) (hw : ∀ x ∈ ws, 1 ≤ x ∧ x ≤ 20) {ps : List Int} {i r : Nat} (h : Asc ws.length i ps) (hi : i ≤ ws.length) (hs : sumL ws ps ≤ r) : sumL vs ps ≤ bAt vs ws i r := by
  induction ps generalizing i r with
  | nil => exact (best_bd (fun x hx => hv x (List.mem_of_mem_drop hx)) r).1
  | cons p ps ih =>
    obtain ⟨a, b, c⟩ := h
    obtain ⟨q, rfl⟩ := Int.eq_ofNat_of_zero_le (show 0 ≤ p by omega)
    have hs' : ws.getD q 0 + sumL ws ps ≤ r := hs
    have w0 := hw _ (List.mem_of_getElem? (getD_mem (show q < ws.length by omega)))
    have n0 := (sumL_bd (xs := ws) (fun x hx => by have := hw x hx; omega) ps).1
    have c' : Asc ws.length ((q + 1 : Nat) : Int) ps := by push_cast; exact c
    have k := ih (i := q + 1) (r := r - (ws.getD q 0).toNat) c' (by omega) (by omega)
    have st := bAt_step hl (show q < ws.length by omega) r
    rw [if_pos (by omega)] at st
    have an := bAt_anti hl r i (q - i) (by omega)
    rw [show i + (q - i) = q by omega] at an
    show vs.getD q 0 + sumL vs ps ≤ _
    omega
/-- What is known of an accepted choice. -/
theorem kVal_facts {vs ws ps : List Int} {c : Int} (h1 : vItems vs ws c = true) (h2 : ascB ps ws.length = true) (h3 : ¬ c < sumW ws ps) : 0 ≤ sumW vs ps ∧ sumW vs ps ≤ best vs ws c.toNat := by
  obtain ⟨f1, f2, f0⟩ := vItems_facts h1
  obtain ⟨f3, f4, f5, f6⟩ := vWts_facts f2
  have a := asc_of h2
  have l := asc_len a (by omega)
  have ew := sumW_eq (xs := ws) (ps := ps) (fun x hx => by have := f4 x hx; omega) (by omega)
  have ev := sumW_eq (xs := vs) (ps := ps) f0 (by omega)
  rw [ev]
  rw [ew] at h3
  exact ⟨(sumL_bd f0 ps).1, asc_best (r := c.toNat) f1 f0 f4 (i := 0) a (by omega) (by omega)⟩

/-! ### Covers grow -/
def tl (ws : List Int) (p : Nat → Bool) : Nat → Nat → Int
  | _, 0 => 0
  | i, m + 1 => (if p i then ws.getD i 0 else 0) + tl ws p (i + 1) m
theorem tl_snoc (ws : List Int) (p : Nat → Bool) (m i : Nat) : tl ws p i (m + 1) = tl ws p i m + (if p (i + m) then ws.getD (i + m) 0 else 0) := by
  induction m generalizing i with
  | zero => simp [tl]
  | succ m ih =>
    show _ + tl ws p (i + 1) (m + 1) = _ + tl ws p (i + 1) m + _
    rw [ih, show i + 1 + m = i + (m + 1) by omega, Int.add_assoc]
theorem tl_idxs (ws : List Int) (p : Nat → Bool) (k : Nat) : sumL ws (idxs p k) = tl ws p 0 k := by
  induction k with
  | zero => rfl
  | succ k ih =>
    rw [tl_snoc, ← ih, Nat.zero_add]
    cases h : p k with
    | true => rw [idxs_yes h, sumL_append]; simp [sumL]
    | false => rw [idxs_no h]; simp
theorem asc_tl {ws : List Int} (hw : ∀ x ∈ ws, 1 ≤ x ∧ x ≤ 20) {p : Nat → Bool} {n : Nat} (m i : Nat) (hm : i + m = n) {ps : List Int} (h : Asc n i ps) (hp : ∀ x ∈ ps, p x.toNat = true) : sumL ws ps ≤ tl ws p i m := by
  have hw' : ∀ x ∈ ws, 0 ≤ x ∧ x ≤ 99 := fun x hx => by have := hw x hx; omega
  induction m generalizing i ps with
  | zero =>
    cases ps with
    | nil => exact Int.le_refl _
    | cons q ps => obtain ⟨a, b, _⟩ := h; omega
  | succ m ih =>
    have g := getD_in hw' i
    cases ps with
    | nil =>
      have := ih (i + 1) (by omega) (ps := []) trivial (by simp)
      show sumL ws [] ≤ _ + _
      split <;> omega
    | cons q ps =>
      obtain ⟨a, b, c⟩ := h
      by_cases e : q = i
      · subst e
        have k := ih (i + 1) (by omega) (ps := ps) (by push_cast; exact c) (fun x hx => hp x (List.mem_cons_of_mem _ hx))
        have pi := hp _ (List.mem_cons_self ..)
        rw [Int.toNat_natCast] at pi
        show ws.getD (i : Int).toNat 0 + sumL ws ps ≤ (if p i then _ else _) + _
        rw [if_pos pi, Int.toNat_natCast]
        omega
      · have k := ih (i + 1) (by omega) (ps := q :: ps) ⟨by push_cast; omega, b, c⟩ hp
        show _ ≤ (if p i then _ else _) + _
        split <;> omega
theorem idxs_inc (p : Nat → Bool) (k : Nat) : incP (idxs p k) (idxs p k).length = true := by
  induction k with
  | zero => rfl
  | succ k ih =>
    cases h : p k with
    | false => rw [idxs_no h]; exact ih
    | true =>
      rw [idxs_yes h, List.length_append]
      show incP (idxs p k ++ [(k : Int)]) ((idxs p k).length + 1) = true
      have e : ∀ j, j ≤ (idxs p k).length → incP (idxs p k ++ [(k : Int)]) j = incP (idxs p k) j := by
        intro j hj
        unfold incP
        have : ∀ i ∈ List.range j, decide (i = 0 ∨ (idxs p k ++ [(k : Int)]).getD (i - 1) 0 < (idxs p k ++ [(k : Int)]).getD i 0) = decide (i = 0 ∨ (idxs p k).getD (i - 1) 0 < (idxs p k).getD i 0) := by
          intro i hi
          have hij := List.mem_range.1 hi
          simp only [List.getD_eq_getElem?_getD]
          rw [List.getElem?_append_left (by omega), List.getElem?_append_left (by omega)]
        rw [Bool.eq_iff_iff, List.all_eq_true, List.all_eq_true]
        exact ⟨fun hh i hi => by rw [← this i hi]; exact hh i hi, fun hh i hi => by rw [this i hi]; exact hh i hi⟩
      refine incP_yes (by rw [e _ (Nat.le_refl _)]; exact ih) ?_
      by_cases h0 : (idxs p k).length = 0
      · exact .inl h0
      · refine .inr ?_
        have l : (idxs p k).length - 1 < (idxs p k).length := by omega
        have m := idxs_mem (p := p) (k := k) _ (List.mem_of_getElem? (getD_mem l))
        have e1 : (idxs p k ++ [(k : Int)]).getD ((idxs p k).length - 1) 0 = (idxs p k).getD ((idxs p k).length - 1) 0 := by
          simp only [List.getD_eq_getElem?_getD]; rw [List.getElem?_append_left l]
        have e2 : (idxs p k ++ [(k : Int)]).getD (idxs p k).length 0 = k := by
          simp [List.getD_eq_getElem?_getD]
        rw [e1, e2]
        exact m.2
theorem idxs_asc (p : Nat → Bool) (n : Nat) : ascB (idxs p n) n = true := by
  simp only [ascB, Bool.and_eq_true]
  exact ⟨idxs_inc p n, List.all_eq_true.2 fun x hx => inB_iff.2 (by have := idxs_mem x hx; omega)⟩
/-- The items of a set and one more. -/
def withV (ps : List Int) (v i : Nat) : Bool := decide (i = v) || decide ((i : Int) ∈ ps)
theorem withV_eq {ps : List Int} {v : Nat} : withV ps v v = true := by simp [withV]
theorem withV_in {ps : List Int} {v i : Nat} (h : decide ((i : Int) ∈ ps) = true) : withV ps v i = true := by simp [withV, h]
theorem withV_no {ps : List Int} {v i : Nat} (h0 : ¬ i = v) (h : decide ((i : Int) ∈ ps) = false) : withV ps v i = false := by simp [withV, h, h0]
theorem cov_more {ws ps : List Int} {c : Int} (h : isCov ws c ps = true) (v : Nat) : isCov ws c (idxs (withV ps v) ws.length) = true := by
  simp only [isCov, Bool.and_eq_true, decide_eq_true_eq] at h ⊢
  obtain ⟨h1, h2, h3⟩ := h
  obtain ⟨f3, f4, f5, f6⟩ := vWts_facts h1
  refine ⟨h1, idxs_asc _ _, ?_⟩
  have hw' : ∀ x ∈ ws, 0 ≤ x ∧ x ≤ 99 := fun x hx => by have := f4 x hx; omega
  have a := asc_of h2
  have l := asc_len a (by omega)
  have l2 := idxs_len (withV ps v) ws.length
  rw [sumW_eq hw' (by omega)] at h3 ⊢
  have := asc_tl f4 (p := withV ps v) ws.length 0 (by omega) a (fun x hx => by
    have hx0 := ascB_mem h2 x hx
    unfold withV
    rw [Int.toNat_of_nonneg hx0.1]
    simp [hx])
  rw [tl_idxs]
  omega
theorem cov_val {ws ps : List Int} {c : Int} (h : isCov ws c ps = true) : kVal ws ws c ps = -1 := by
  simp only [isCov, Bool.and_eq_true, decide_eq_true_eq] at h
  exact kVal_3 h.2.2

/-! ### Tables -/
theorem tab_facts {vs ws : List Int} {C : Nat} (h : vItems vs ws C = true) : (∀ r, r ≤ C → (ktab vs ws C).getD r 0 = best vs ws r) ∧ best vs ws 0 = 0 ∧ (∀ r, r + 1 ≤ C → best vs ws r ≤ best vs ws (r + 1)) := by
  obtain ⟨f1, f2, f0⟩ := vItems_facts h
  obtain ⟨f3, f4, f5, f6⟩ := vWts_facts f2
  exact ⟨fun r hr => ktab_at f1 f0 f4 f3 hr, best_zero _ _ f0 f4, fun r _ => best_mono (by omega) f0⟩
end Go.Proofs.Ytjbgjljcgdligab
