
/-
  Plain lemmas for the promises on problems and boxes.
-/
import Derived.Test.YtangfmmjpomlgaaBw
set_option linter.unusedSimpArgs false
set_option linter.unusedVariables false
namespace Go.Proofs.Ytangfmmjpomlgaa
open Go.RowKit

/-- A sum without wrapping. -/
def sumT (t : Nat → Int) : Nat → Int
  | 0 => 0
  | k + 1 => sumT t k + t k
theorem fold_sum {f : Nat → Int → Int} {t : Nat → Int} {k : Nat} (hk : k ≤ 1000) (hf : ∀ i n, i < k → f i n = wrap64 (n + t i)) (ht : ∀ i, i < k → -1000 ≤ t i ∧ t i ≤ 1000) :
    fold f k = sumT t k ∧ -(1000 * (k : Int)) ≤ sumT t k ∧ sumT t k ≤ 1000 * k := by
  induction k with
  | zero => simp [fold, sumT]
  | succ k ih =>
    obtain ⟨e, b1, b2⟩ := ih (by omega) (fun i n hi => hf i n (by omega)) (fun i hi => ht i (by omega))
    have hb := ht k (by omega)
    have hk' : (k : Int) ≤ 1000 := by omega
    refine ⟨?_, ?_, ?_⟩
    · show f k (fold f k) = sumT t k + t k
      rw [hf k _ (by omega), e, IntWalk.wrap64_in _ ⟨by omega, by omega⟩]
    · show _ ≤ sumT t k + t k
      push_cast; omega
    · show sumT t k + t k ≤ _
      push_cast; omega
theorem sumT_mono {t t' : Nat → Int} {k : Nat} (h : ∀ i, i < k → t i ≤ t' i) : sumT t k ≤ sumT t' k := by
  induction k with
  | zero => exact Int.le_refl _
  | succ k ih =>
    have a := ih (fun i hi => h i (by omega))
    have b := h k (by omega)
    show sumT t k + t k ≤ sumT t' k + t' k
    omega
theorem sumT_congr {t t' : Nat → Int} {k : Nat} (h : ∀ i, i < k → t i = t' i) : sumT t k = sumT t' k := by
  induction k with
  | zero => rfl
  | succ k ih =>
    show sumT t k + t k = sumT t' k + t' k
    rw [ih (fun i hi => h i (by omega)), h k (by omega)]
theorem mul_small {a y : Int} (h1 : -99 ≤ a) (h2 : a ≤ 99) (y0 : 0 ≤ y) (y1 : y ≤ 9) : -891 ≤ a * y ∧ a * y ≤ 891 := by
  rcases (by omega : y = 0 ∨ y = 1 ∨ y = 2 ∨ y = 3 ∨ y = 4 ∨ y = 5 ∨ y = 6 ∨ y = 7 ∨ y = 8 ∨ y = 9) with rfl | rfl | rfl | rfl | rfl | rfl | rfl | rfl | rfl | rfl <;> omega
theorem dot_sum {cs xs : List Int} {n : Nat} (hn : n ≤ 1000) (hc : ∀ i, i < n → -99 ≤ cs.getD i 0 ∧ cs.getD i 0 ≤ 99) (hx : ∀ i, i < n → 0 ≤ xs.getD i 0 ∧ xs.getD i 0 ≤ 9) :
    fold (mac cs xs) n = sumT (fun i => cs.getD i 0 * xs.getD i 0) n ∧ -(1000 * (n : Int)) ≤ fold (mac cs xs) n ∧ fold (mac cs xs) n ≤ 1000 * n := by
  have b : ∀ i, i < n → -891 ≤ cs.getD i 0 * xs.getD i 0 ∧ cs.getD i 0 * xs.getD i 0 ≤ 891 := fun i hi => mul_small (hc i hi).1 (hc i hi).2 (hx i hi).1 (hx i hi).2
  obtain ⟨e, b1, b2⟩ := fold_sum (f := mac cs xs) (t := fun i => cs.getD i 0 * xs.getD i 0) hn (fun i m hi => by
    have := b i hi
    unfold mac
    rw [IntWalk.wrap64_in (cs.getD i 0 * xs.getD i 0) ⟨by omega, by omega⟩]) (fun i hi => by have := b i hi; exact ⟨by show _ ≤ cs.getD i 0 * xs.getD i 0; omega, by show cs.getD i 0 * xs.getD i 0 ≤ _; omega⟩)
  rw [e]
  exact ⟨rfl, b1, b2⟩
theorem at_all {p : Int → Bool} {xs : List Int} (h : xs.all p = true) {i : Nat} (hi : i < xs.length) : p (xs.getD i 0) = true := by
  rw [List.all_eq_true] at h
  rw [List.getD_eq_getElem?_getD, List.getElem?_eq_getElem hi]
  exact h _ (List.getElem_mem hi)
theorem isPt_at {us x : List Int} (h : isPt us x = true) {i : Nat} (hi : i < x.length) : 0 ≤ x.getD i 0 ∧ x.getD i 0 ≤ us.getD i 0 := by
  simp only [isPt, Bool.and_eq_true] at h
  have := List.all_eq_true.1 h.2 i (List.mem_range.2 hi)
  exact inB_iff.1 this
/-- What a valid box of a valid problem says, place by place. -/
theorem vBox_at {p : PProb} {b : PBox} (h : vBox p b = true) : p.costs.length ≤ 5 ∧ b.low.length = p.costs.length ∧ b.high.length = p.costs.length ∧
    ∀ i, i < p.costs.length → (0 ≤ p.costs.getD i 0 ∧ p.costs.getD i 0 ≤ 99) ∧ 0 ≤ b.low.getD i 0 ∧ b.low.getD i 0 ≤ b.high.getD i 0 ∧ b.high.getD i 0 ≤ 9 := by
  obtain ⟨h1, h2, h3⟩ := vBox_parts h
  obtain ⟨l1, l2, l3⟩ := vBox_lens h
  have h4 := vBox_4 h1 h2 h3
  rw [h] at h4
  simp only [vProb, Bool.and_eq_true] at h1
  have hn := inB_iff.1 h1.1
  refine ⟨by omega, by omega, by omega, fun i hi => ?_⟩
  have c := inB_iff.1 (at_all (show p.costs.all (fun x => inB x 0 99) = true from h1.2.2.2.1.1) hi)
  have u := inB_iff.1 (at_all (show p.uppers.all (fun x => inB x 0 9) = true from h1.2.2.2.1.2) (show i < p.uppers.length by omega))
  have a := isPt_at h2 (show i < b.low.length by omega)
  have d := isPt_at h3 (show i < b.high.length by omega)
  have e := List.all_eq_true.1 h4.symm i (List.mem_range.2 (by omega))
  simp only [boxOk, decide_eq_true_eq] at e
  exact ⟨c, a.1, e, by omega⟩
theorem base_low {p : PProb} {b : PBox} (h : vBox p b = true) : costW p b.low = baseW p b ∧ baseW p b ≤ costW p b.high := by
  obtain ⟨h1, h2, h3⟩ := vBox_parts h
  obtain ⟨n5, l1, l2, hat⟩ := vBox_at h
  unfold baseW
  rw [if_pos h, costW_3 h1 h2, costW_3 h1 h3]
  refine ⟨rfl, ?_⟩
  unfold dotW
  rw [(dot_sum (n := p.costs.length) (by omega) (fun i hi => ⟨by have := hat i hi; omega, by have := hat i hi; omega⟩) (fun i hi => ⟨by have := hat i hi; omega, by have := hat i hi; omega⟩)).1,
    (dot_sum (n := p.costs.length) (by omega) (fun i hi => ⟨by have := hat i hi; omega, by have := hat i hi; omega⟩) (fun i hi => ⟨by have := hat i hi; omega, by have := hat i hi; omega⟩)).1]
  refine sumT_mono fun i hi => ?_
  obtain ⟨⟨c0, _⟩, _, lu, _⟩ := hat i hi
  exact Int.mul_le_mul_of_nonneg_left lu c0
theorem vProb_row {p : PProb} {k : Nat} {r : PRow} (h : vProb p = true) (hr : p.rows[k]? = some r) : vRow r p.costs.length = true := by
  simp only [vProb, Bool.and_eq_true] at h
  exact List.all_eq_true.1 h.2.2.2.2 r (List.mem_of_getElem? hr)
theorem vRow_at {r : PRow} {m : Int} (h : vRow r m = true) {i : Nat} (hi : i < r.cs.length) : -9 ≤ r.cs.getD i 0 ∧ r.cs.getD i 0 ≤ 9 := by
  simp only [vRow, Bool.and_eq_true] at h
  exact inB_iff.1 (at_all (show r.cs.all (fun x => inB x (-9) 9) = true from h.2.2.1) hi)
/-- The ends of a range, one number a variable. -/
def smallB (cs : List Int) (b : PBox) (i : Nat) : Int := if 0 < cs.getD i 0 then b.low.getD i 0 else b.high.getD i 0
def largeB (cs : List Int) (b : PBox) (i : Nat) : Int := if 0 < cs.getD i 0 then b.high.getD i 0 else b.low.getD i 0
def firsts (f : Nat → Int) (k : Nat) : List Int := (List.range k).map f
theorem firsts_len (f : Nat → Int) (k : Nat) : (firsts f k).length = k := by simp [firsts]
theorem firsts_succ (f : Nat → Int) (k : Nat) : firsts f (k + 1) = firsts f k ++ [f k] := by simp [firsts, List.range_succ]
theorem firsts_at {f : Nat → Int} {k i : Nat} (h : i < k) : (firsts f k).getD i 0 = f i := by simp [firsts, List.getD_eq_getElem?_getD, h]
theorem mul_order {a l u : Int} (h : l ≤ u) : (0 < a → a * l ≤ a * u) ∧ (¬ 0 < a → a * u ≤ a * l) :=
  ⟨fun h0 => Int.mul_le_mul_of_nonneg_left h (by omega), fun h0 => Int.mul_le_mul_of_nonpos_left (by omega) h⟩
theorem range_facts {p : PProb} {b : PBox} {k : Nat} {r : PRow} (h : vBox p b = true) (hr : p.rows[k]? = some r) :
    dotW r.cs (firsts (smallB r.cs b) r.cs.length) = leastW r.cs b ∧ dotW r.cs (firsts (largeB r.cs b) r.cs.length) = greatW r.cs b ∧ leastW r.cs b ≤ dotW r.cs b.low ∧ dotW r.cs b.high ≤ greatW r.cs b := by
  obtain ⟨h1, h2, h3⟩ := vBox_parts h
  obtain ⟨n5, l1, l2, hat⟩ := vBox_at h
  have hv := vProb_row h1 hr
  have hl : r.cs.length = p.costs.length := by
    simp only [vRow, Bool.and_eq_true, decide_eq_true_eq] at hv
    omega
  have hc : ∀ i, i < r.cs.length → -9 ≤ r.cs.getD i 0 ∧ r.cs.getD i 0 ≤ 9 := fun i hi => vRow_at hv hi
  have hb : ∀ i, i < r.cs.length → 0 ≤ b.low.getD i 0 ∧ b.low.getD i 0 ≤ b.high.getD i 0 ∧ b.high.getD i 0 ≤ 9 := fun i hi => (hat i (by omega)).2
  have hs : ∀ i, i < r.cs.length → 0 ≤ smallB r.cs b i ∧ smallB r.cs b i ≤ 9 := fun i hi => by have := hb i hi; unfold smallB; split <;> omega
  have hg : ∀ i, i < r.cs.length → 0 ≤ largeB r.cs b i ∧ largeB r.cs b i ≤ 9 := fun i hi => by have := hb i hi; unfold largeB; split <;> omega
  have hT : ∀ i, i < r.cs.length → lstT (r.cs.getD i 0) (b.low.getD i 0) (b.high.getD i 0) = r.cs.getD i 0 * smallB r.cs b i ∧ grtT (r.cs.getD i 0) (b.low.getD i 0) (b.high.getD i 0) = r.cs.getD i 0 * largeB r.cs b i := by
    intro i hi
    have c := hc i hi
    obtain ⟨b0, b1, b2⟩ := hb i hi
    have m1 := mul_small (a := r.cs.getD i 0) (y := b.low.getD i 0) (by omega) (by omega) (by omega) (by omega)
    have m2 := mul_small (a := r.cs.getD i 0) (y := b.high.getD i 0) (by omega) (by omega) (by omega) (by omega)
    have mo := mul_order (a := r.cs.getD i 0) b1
    unfold lstT grtT smallB largeB
    rw [IntWalk.wrap64_in _ ⟨by omega, by omega⟩, IntWalk.wrap64_in _ ⟨by omega, by omega⟩]
    by_cases h0 : 0 < r.cs.getD i 0
    · rw [if_pos h0, if_pos h0]
      have := mo.1 h0
      exact ⟨by omega, by omega⟩
    · rw [if_neg h0, if_neg h0]
      have := mo.2 h0
      exact ⟨by omega, by omega⟩
  have bd : ∀ {y : Nat → Int} (i : Nat), i < r.cs.length → (0 ≤ y i ∧ y i ≤ 9) → -1000 ≤ r.cs.getD i 0 * y i ∧ r.cs.getD i 0 * y i ≤ 1000 := fun {y} i hi hy => by
    have c := hc i hi
    have := mul_small (a := r.cs.getD i 0) (y := y i) (by omega) (by omega) hy.1 hy.2
    exact ⟨by omega, by omega⟩
  have e1 : leastW r.cs b = sumT (fun i => r.cs.getD i 0 * smallB r.cs b i) r.cs.length :=
    (fold_sum (t := fun i => r.cs.getD i 0 * smallB r.cs b i) (by omega) (fun i n hi => by show wrap64 _ = _; rw [(hT i hi).1]) (fun i hi => bd i hi (hs i hi))).1
  have e2 : greatW r.cs b = sumT (fun i => r.cs.getD i 0 * largeB r.cs b i) r.cs.length :=
    (fold_sum (t := fun i => r.cs.getD i 0 * largeB r.cs b i) (by omega) (fun i n hi => by show wrap64 _ = _; rw [(hT i hi).2]) (fun i hi => bd i hi (hg i hi))).1
  have c99 : ∀ i, i < r.cs.length → -99 ≤ r.cs.getD i 0 ∧ r.cs.getD i 0 ≤ 99 := fun i hi => by have := hc i hi; omega
  unfold dotW
  rw [e1, e2, (dot_sum (n := r.cs.length) (xs := firsts (smallB r.cs b) r.cs.length) (by omega) c99 (fun i hi => by rw [firsts_at hi]; exact hs i hi)).1,
    (dot_sum (n := r.cs.length) (xs := firsts (largeB r.cs b) r.cs.length) (by omega) c99 (fun i hi => by rw [firsts_at hi]; exact hg i hi)).1,
    (dot_sum (n := r.cs.length) (xs := b.low) (by omega) c99 (fun i hi => by have := hb i hi; omega)).1,
    (dot_sum (n := r.cs.length) (xs := b.high) (by omega) c99 (fun i hi => by have := hb i hi; omega)).1]
  refine ⟨sumT_congr fun i hi => by rw [firsts_at hi], sumT_congr fun i hi => by rw [firsts_at hi], sumT_mono fun i hi => ?_, sumT_mono fun i hi => ?_⟩
  · have := mul_order (a := r.cs.getD i 0) (hb i hi).2.1
    unfold smallB
    split
    · exact Int.le_refl _
    · exact this.2 (by assumption)
  · have := mul_order (a := r.cs.getD i 0) (hb i hi).2.1
    unfold largeB
    split
    · exact Int.le_refl _
    · exact this.2 (by assumption)

/-- A problem without a row. -/
def dropP (p : PProb) (i : Nat) : PProb := ⟨p.costs, p.uppers, p.rows.eraseIdx i⟩
theorem vProb_drop {p : PProb} (h : vProb p = true) (i : Nat) : vProb (dropP p i) = true := by
  simp only [vProb, Bool.and_eq_true, decide_eq_true_eq] at h ⊢
  refine ⟨h.1, h.2.1, ?_, h.2.2.2.1, ?_⟩
  · show (p.rows.eraseIdx i).length ≤ 6
    have := List.length_eraseIdx_le p.rows i
    omega
  · refine List.all_eq_true.2 fun r hr => ?_
    exact List.all_eq_true.1 h.2.2.2.2 r (List.mem_of_mem_eraseIdx hr)
theorem erase_step {rs : List PRow} {k i : Nat} {r : PRow} (h : rs[k]? = some r) : (rs.take (k + 1)).eraseIdx i = if k = i then (rs.take k).eraseIdx i else (rs.take k).eraseIdx i ++ [r] := by
  have hk : k < rs.length := (List.getElem?_eq_some_iff.1 h).1
  have hl : (rs.take k).length = k := by simp; omega
  rw [List.take_add_one, h]
  show (rs.take k ++ [r]).eraseIdx i = _
  by_cases e : k = i
  · subst e
    rw [if_pos rfl, List.eraseIdx_append_of_length_le (by omega), hl, Nat.sub_self]
    simp [List.eraseIdx_of_length_le (show (rs.take k).length ≤ k by omega)]
  · rw [if_neg e]
    by_cases hlt : i < k
    · rw [List.eraseIdx_append_of_lt_length (by omega)]
    · rw [List.eraseIdx_append_of_length_le (by omega), hl, List.eraseIdx_of_length_le (show (rs.take k).length ≤ i by omega)]
      obtain ⟨j, hj⟩ : ∃ j, i - k = j + 1 := ⟨i - k - 1, by omega⟩
      rw [hj]
      rfl
end Go.Proofs.Ytangfmmjpomlgaa
