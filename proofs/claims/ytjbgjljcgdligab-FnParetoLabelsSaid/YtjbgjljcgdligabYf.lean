
/-
  Labels that no other one dominates, in plain arithmetic: dominance is an order; none that is left dominates another; every label is equal to one that is left or dominated by one; what is left stays.
-/
import Derived.Test.YtjbgjljcgdligabYa
set_option linter.unusedSimpArgs false
set_option linter.unusedVariables false
namespace Go.Proofs.Ytjbgjljcgdligab
open Go.RowKit

theorem partB_trans {a b c : Int} (h1 : partB a b = true) (h2 : partB b c = true) : partB a c = true := by
  simp only [partB, decide_eq_true_eq] at *
  rw [← h2, ← Nat.or_assoc, h1]
theorem dom_trans {x y z : PLab} (h1 : domB x y = true) (h2 : domB y z = true) : domB x z = true := by
  simp only [domB, Bool.and_eq_true, decide_eq_true_eq] at *
  obtain ⟨a1, a2, a3, a4, a5, a6, a7⟩ := h1
  obtain ⟨b1, b2, b3, b4, b5, b6, b7⟩ := h2
  exact ⟨by omega, a2, b3, partB_trans a4 b4, by omega, by omega, by omega⟩
theorem bet_iff {x y : PLab} : betB x y = true ↔ x ≠ y ∧ domB x y = true := by
  unfold betB
  rw [Bool.and_eq_true, Bool.not_eq_true', ← Bool.not_eq_true, eqLB_iff]
theorem bet_trans {x y z : PLab} (h1 : betB x y = true) (h2 : betB y z = true) : betB x z = true := by
  rw [bet_iff] at *
  refine ⟨?_, dom_trans h1.2 h2.2⟩
  rintro rfl
  exact h1.1 (dom_anti h1.2 h2.2)
theorem bet_self (x : PLab) : betB x x = false := by
  cases h : betB x x
  · rfl
  · exact absurd rfl (bet_iff.1 h).1
/-- What it says that a label stays. -/
theorem stays_iff {ls : List PLab} {i : Nat} {x : PLab} (h : ls[i]? = some x) : stays ls i = true ↔ (∀ y ∈ ls, betB y x = false) ∧ ∀ k, k < i → ls[k]? ≠ some x := by
  rw [stays_at h]
  simp only [Bool.and_eq_true, Bool.not_eq_true']
  rw [List.any_eq_false, List.any_eq_false]
  constructor
  · rintro ⟨h1, h2⟩
    refine ⟨fun y hy => by simpa using h1 y hy, fun k hk hx => ?_⟩
    have hm : x ∈ ls.take i := List.mem_of_getElem? (by rw [List.getElem?_take, if_pos hk]; exact hx : (ls.take i)[k]? = some x)
    exact h2 x hm (eqLB_refl x)
  · rintro ⟨h1, h2⟩
    refine ⟨fun y hy => by simp [h1 y hy], fun y hy he => ?_⟩
    obtain rfl := eqLB_iff.1 he
    obtain ⟨k, hk⟩ := List.mem_iff_getElem?.1 hy
    rw [List.getElem?_take] at hk
    by_cases hki : k < i
    · rw [if_pos hki] at hk; exact h2 k hki hk
    · rw [if_neg hki] at hk; cases hk
theorem parL_has {ls : List PLab} {i : Nat} {x : PLab} (h : ls[i]? = some x) (hs : stays ls i = true) : ∀ {k : Nat}, i < k → x ∈ parL ls k
  | 0, hk => by omega
  | k + 1, hk => by
    by_cases e : i = k
    · subst e; rw [parL_yes h hs]; simp
    · have := parL_has h hs (k := k) (by omega)
      rw [parL]
      split
      · exact List.mem_append_left _ this
      · exact this
theorem parL_nodup (ls : List PLab) : ∀ k, k ≤ ls.length → (parL ls k).Nodup
  | 0, _ => by simp [parL]
  | k + 1, hk => by
    have ih := parL_nodup ls k (by omega)
    cases hs : stays ls k
    · rw [parL_no hs]; exact ih
    · obtain ⟨x, hx⟩ : ∃ x, ls[k]? = some x := ⟨_, List.getElem?_eq_getElem (by omega)⟩
      rw [parL_yes hx hs, List.nodup_append]
      refine ⟨ih, by simp, fun a ha b hb hab => ?_⟩
      simp at hb
      subst hb; subst hab
      obtain ⟨i, hi, hxi, _⟩ := parL_mem ha
      exact ((stays_iff hx).1 hs).2 i hi hxi
/-- None that is left dominates another one. -/
theorem par_apart {ls : List PLab} {i k : Nat} {x y : PLab} (hx : (parL ls ls.length)[i]? = some x) (hy : (parL ls ls.length)[k]? = some y) (hik : i ≠ k) : domB x y = false := by
  cases hd : domB x y
  · rfl
  exfalso
  obtain ⟨a, ha, hxa, _⟩ := parL_mem (List.mem_of_getElem? hx)
  obtain ⟨b, hb, hyb, hs⟩ := parL_mem (List.mem_of_getElem? hy)
  have h1 := ((stays_iff hyb).1 hs).1 x (List.mem_of_getElem? hxa)
  by_cases e : x = y
  · subst e
    have := parL_nodup ls ls.length (Nat.le_refl _)
    exact hik ((List.getElem?_inj (List.getElem?_eq_some_iff.1 hx).1 this).1 (hx.trans hy.symm))
  · rw [bet_iff.2 ⟨e, hd⟩] at h1; cases h1
theorem first_at {ls : List PLab} {x : PLab} (h : x ∈ ls) : ∃ i : Nat, ls[i]? = some x ∧ ∀ k : Nat, k < i → ls[k]? ≠ some x := by
  obtain ⟨n, hn⟩ := List.mem_iff_getElem?.1 h
  have : ∀ n : Nat, ls[n]? = some x → ∃ i : Nat, ls[i]? = some x ∧ ∀ k : Nat, k < i → ls[k]? ≠ some x := by
    intro n
    induction n using Nat.strongRecOn with
    | ind n ih =>
      intro hn
      by_cases hk : ∃ k, k < n ∧ ls[k]? = some x
      · obtain ⟨k, h1, h2⟩ := hk; exact ih k h1 h2
      · exact ⟨n, hn, fun k h1 h2 => hk ⟨k, h1, h2⟩⟩
  exact this n hn
theorem cnt_lt {p q : PLab → Bool} {ls : List PLab} {y : PLab} (hy : y ∈ ls) (hpq : ∀ z ∈ ls, p z = true → q z = true) (hq : q y = true) (hp : p y = false) : (ls.filter p).length < (ls.filter q).length := by
  induction ls with
  | nil => cases hy
  | cons a t ih =>
    have hle : (t.filter p).length ≤ (t.filter q).length := by
      have : ∀ l : List PLab, (∀ z ∈ l, p z = true → q z = true) → (l.filter p).length ≤ (l.filter q).length := by
        intro l
        induction l with
        | nil => intro _; simp
        | cons b s ihs =>
          intro h
          have h1 := ihs (fun z hz => h z (by simp [hz]))
          have h2 := h b (by simp)
          cases hb : p b
          · cases hc : q b <;> simp [hb, hc] <;> omega
          · simp [hb, h2 hb]; omega
      exact this t (fun z hz => hpq z (by simp [hz]))
    rcases List.mem_cons.1 hy with rfl | hy
    · simp [hq, hp]; omega
    · have h1 := ih hy (fun z hz => hpq z (by simp [hz]))
      have h2 := hpq a (by simp)
      cases hb : p a
      · cases hc : q a <;> simp [hb, hc] <;> omega
      · simp [hb, h2 hb]; omega
/-- Every label is equal to one that is left, or dominated by one. -/
theorem par_some (ls : List PLab) : ∀ (m : Nat) (x : PLab), x ∈ ls → (ls.filter fun y => betB y x).length ≤ m → ∃ y ∈ parL ls ls.length, y = x ∨ domB y x = true
  | m, x, hx, hm => by
    by_cases hb : ∃ y ∈ ls, betB y x = true
    · obtain ⟨y, hy, hyx⟩ := hb
      have hlt := cnt_lt (p := fun z => betB z y) (q := fun z => betB z x) hy (fun z _ hz => bet_trans hz hyx) hyx (bet_self y)
      cases m with
      | zero => omega
      | succ m =>
        obtain ⟨z, hz, h⟩ := par_some ls m y hy (by omega)
        refine ⟨z, hz, .inr ?_⟩
        rcases h with rfl | h
        · exact (bet_iff.1 hyx).2
        · exact dom_trans h (bet_iff.1 hyx).2
    · obtain ⟨i, hi, hf⟩ := first_at hx
      refine ⟨x, parL_has hi ((stays_iff hi).2 ⟨fun y hy => ?_, hf⟩) (List.getElem?_eq_some_iff.1 hi).1, .inl rfl⟩
      cases h : betB y x
      · rfl
      · exact absurd ⟨y, hy, h⟩ hb
theorem parL_all {ls : List PLab} : ∀ k, k ≤ ls.length → (∀ i, i < k → stays ls i = true) → parL ls k = ls.take k
  | 0, _, _ => by simp [parL]
  | k + 1, hk, h => by
    obtain ⟨x, hx⟩ : ∃ x, ls[k]? = some x := ⟨_, List.getElem?_eq_getElem (by omega)⟩
    rw [parL_yes hx (h k (by omega)), parL_all k (by omega) (fun i hi => h i (by omega)), List.take_add_one, hx]
    rfl
/-- What is left stays. -/
theorem par_twice (ls : List PLab) : parL (parL ls ls.length) (parL ls ls.length).length = parL ls ls.length := by
  rw [parL_all _ (Nat.le_refl _) ?_, List.take_length]
  intro i hi
  obtain ⟨x, hx⟩ : ∃ x, (parL ls ls.length)[i]? = some x := ⟨_, List.getElem?_eq_getElem hi⟩
  refine (stays_iff hx).2 ⟨fun y hy => ?_, fun k hk hkx => ?_⟩
  · obtain ⟨b, _, hxb, hs⟩ := parL_mem (List.mem_of_getElem? hx)
    obtain ⟨a, _, hya, _⟩ := parL_mem hy
    exact ((stays_iff hxb).1 hs).1 y (List.mem_of_getElem? hya)
  · have := (List.getElem?_inj (List.getElem?_eq_some_iff.1 hx).1 (parL_nodup ls ls.length (Nat.le_refl _))).1 (hx.trans hkx.symm)
    omega
theorem parV_twice (ls : List PLab) : parV (parV ls) = parV ls := by
  by_cases h : ls.length ≤ 20
  · have := parL_len ls ls.length
    rw [parV_2 h, parV_2 (by omega), par_twice]
  · rw [parV_1 h]; simp [parV, parL]
end Go.Proofs.Ytjbgjljcgdligab
