
/-
  The cheapest of the points, plainly.
-/
import Derived.Test.YtangfmmjpomlgaaNb
set_option linter.unusedSimpArgs false
set_option linter.unusedVariables false
namespace Go.Proofs.Ytangfmmjpomlgaa
open Go.RowKit

/-- One point more is looked at. -/
def slvS (f : List Int → Int) (ok : List Int → Bool) (s : List Int × Int) (x : List Int) : List Int × Int := if (s.2 < 0 ∨ f x < s.2) ∧ ok x = true then (x, f x) else s
def slv (f : List Int → Int) (ok : List Int → Bool) (L : List (List Int)) : List Int × Int := L.foldl (slvS f ok) ([], -1)
theorem slv_nil (f : List Int → Int) (ok : List Int → Bool) : slv f ok [] = ([], -1) := rfl
theorem slv_yes {f : List Int → Int} {ok : List Int → Bool} {L : List (List Int)} {x : List Int} (h : (slv f ok L).2 < 0 ∨ f x < (slv f ok L).2) (h2 : ok x = true) : slv f ok (L ++ [x]) = (x, f x) := by
  unfold slv at *
  rw [List.foldl_append]
  simp only [List.foldl_cons, List.foldl_nil]
  rw [slvS, if_pos ⟨h, h2⟩]
theorem slv_no {f : List Int → Int} {ok : List Int → Bool} {L : List (List Int)} {x : List Int} (h : ¬ ((slv f ok L).2 < 0 ∨ f x < (slv f ok L).2)) : slv f ok (L ++ [x]) = slv f ok L := by
  unfold slv at *
  rw [List.foldl_append]
  simp only [List.foldl_cons, List.foldl_nil]
  rw [slvS, if_neg (fun h' => h h'.1)]
theorem slv_bad {f : List Int → Int} {ok : List Int → Bool} {L : List (List Int)} {x : List Int} (h2 : ok x = false) : slv f ok (L ++ [x]) = slv f ok L := by
  unfold slv at *
  rw [List.foldl_append]
  simp only [List.foldl_cons, List.foldl_nil]
  rw [slvS, if_neg (fun h' => by rw [h2] at h'; exact absurd h'.2 (by simp))]
/-- What the search for the cheapest has found: nothing holds, or the first of the cheapest. -/
theorem slv_says (f : List Int → Int) (ok : List Int → Bool) : ∀ L : List (List Int), (∀ x ∈ L, 0 ≤ f x) → (slv f ok L = ([], -1) ∧ ∀ x ∈ L, ok x = false) ∨
    (∃ a b, L = a ++ (slv f ok L).1 :: b ∧ ok (slv f ok L).1 = true ∧ (slv f ok L).2 = f (slv f ok L).1 ∧ 0 ≤ (slv f ok L).2 ∧ (∀ x ∈ a, ok x = true → (slv f ok L).2 < f x) ∧ ∀ x ∈ b, ok x = true → (slv f ok L).2 ≤ f x) := by
  have key : ∀ n (L : List (List Int)), L.length = n → (∀ x ∈ L, 0 ≤ f x) → (slv f ok L = ([], -1) ∧ ∀ x ∈ L, ok x = false) ∨
    (∃ a b, L = a ++ (slv f ok L).1 :: b ∧ ok (slv f ok L).1 = true ∧ (slv f ok L).2 = f (slv f ok L).1 ∧ 0 ≤ (slv f ok L).2 ∧ (∀ x ∈ a, ok x = true → (slv f ok L).2 < f x) ∧ ∀ x ∈ b, ok x = true → (slv f ok L).2 ≤ f x) := by
    intro n
    induction n with
    | zero =>
      intro L h hf
      have : L = [] := List.eq_nil_of_length_eq_zero h
      subst this
      exact .inl ⟨rfl, by simp⟩
    | succ n ih =>
      intro L h hf
      have hne : L ≠ [] := by intro e; subst e; simp at h
      obtain ⟨M, x, rfl⟩ : ∃ M x, L = M ++ [x] := ⟨L.dropLast, L.getLast hne, (List.dropLast_concat_getLast hne).symm⟩
      have hM := ih M (by simpa using h) (fun y hy => hf y (by simp [hy]))
      cases ho : ok x
      · rw [slv_bad ho]
        rcases hM with ⟨h1, h2⟩ | ⟨a, b, h1, h2, h3, h4, h5, h6⟩
        · refine .inl ⟨h1, fun y hy => ?_⟩
          rcases List.mem_append.1 hy with hy | hy
          · exact h2 y hy
          · simp at hy; subst hy; exact ho
        · refine .inr ⟨a, b ++ [x], ?_, h2, h3, h4, h5, fun y hy hk => ?_⟩
          · rw [← List.cons_append, ← List.append_assoc, ← h1]
          · rcases List.mem_append.1 hy with hy | hy
            · exact h6 y hy hk
            · simp at hy; subst hy; rw [ho] at hk; exact absurd hk (by simp)
      · by_cases hc : (slv f ok M).2 < 0 ∨ f x < (slv f ok M).2
        · rw [slv_yes hc ho]
          refine .inr ⟨M, [], by simp, ho, rfl, hf x (by simp), fun y hy hk => ?_, by simp⟩
          rcases hM with ⟨h1, h2⟩ | ⟨a, b, h1, h2, h3, h4, h5, h6⟩
          · rw [h2 y hy] at hk; exact absurd hk (by simp)
          · have hlt : f x < (slv f ok M).2 := by rcases hc with hc | hc <;> omega
            rw [h1] at hy
            rcases List.mem_append.1 hy with hy | hy
            · have := h5 y hy hk; show f x < f y; omega
            · rcases List.mem_cons.1 hy with rfl | hy
              · show f x < f _; omega
              · have := h6 y hy hk; show f x < f y; omega
        · rw [slv_no hc]
          rcases hM with ⟨h1, h2⟩ | ⟨a, b, h1, h2, h3, h4, h5, h6⟩
          · exact absurd (Or.inl (by rw [h1]; decide)) hc
          · refine .inr ⟨a, b ++ [x], ?_, h2, h3, h4, h5, fun y hy hk => ?_⟩
            · rw [← List.cons_append, ← List.append_assoc, ← h1]
            · rcases List.mem_append.1 hy with hy | hy
              · exact h6 y hy hk
              · simp at hy; subst hy; omega
  intro L hf
  exact key _ L rfl hf
theorem slv_lo {f : List Int → Int} {ok : List Int → Bool} (L : List (List Int)) (hf : ∀ x ∈ L, 0 ≤ f x) : -1 ≤ (slv f ok L).2 := by
  rcases slv_says f ok L hf with ⟨h, _⟩ | ⟨a, b, _, _, _, h, _⟩
  · rw [h]; decide
  · omega
theorem slv_mem {f : List Int → Int} {ok : List Int → Bool} {L : List (List Int)} (hf : ∀ x ∈ L, 0 ≤ f x) (h : 0 ≤ (slv f ok L).2) : (slv f ok L).1 ∈ L ∧ ok (slv f ok L).1 = true ∧ (slv f ok L).2 = f (slv f ok L).1 := by
  rcases slv_says f ok L hf with ⟨h1, _⟩ | ⟨a, b, h1, h2, h3, _⟩
  · rw [h1] at h; simp at h
  · have hm : (slv f ok L).1 ∈ a ++ (slv f ok L).1 :: b := by simp
    rw [← h1] at hm
    exact ⟨hm, h2, h3⟩
theorem slv_least {f : List Int → Int} {ok : List Int → Bool} {L : List (List Int)} (hf : ∀ x ∈ L, 0 ≤ f x) {x : List Int} (hx : x ∈ L) (ho : ok x = true) : 0 ≤ (slv f ok L).2 ∧ (slv f ok L).2 ≤ f x := by
  rcases slv_says f ok L hf with ⟨h1, h2⟩ | ⟨a, b, h1, h2, h3, h4, h5, h6⟩
  · rw [h2 x hx] at ho; exact absurd ho (by simp)
  · refine ⟨h4, ?_⟩
    rw [h1] at hx
    rcases List.mem_append.1 hx with hx | hx
    · have := h5 x hx ho; omega
    · rcases List.mem_cons.1 hx with rfl | hx
      · omega
      · exact h6 x hx ho
theorem slv_none {f : List Int → Int} {ok : List Int → Bool} {L : List (List Int)} (hf : ∀ x ∈ L, 0 ≤ f x) (h : (slv f ok L).2 < 0) : slv f ok L = ([], -1) ∧ ∀ x ∈ L, ok x = false := by
  rcases slv_says f ok L hf with h1 | ⟨a, b, h1, h2, h3, h4, _⟩
  · exact h1
  · omega

/-- What the program's and the model's SolveExact answer. -/
def allB (rs : List PRow) (x : List Int) : Bool := rs.all fun r => holdsW r x
def solL (p : PProb) : List Int := if vProb p then (slv (dotW p.costs) (allB p.rows) (pts p.uppers)).1 else []
def solC (p : PProb) : Int := if vProb p then (slv (dotW p.costs) (allB p.rows) (pts p.uppers)).2 else -1
def cntF (p : PProb) : Int := if vProb p then (cnt (allB p.rows) (pts p.uppers) : Int) else -1
def bestB (p : PProb) (x : List Int) : Bool := decide (dotW p.costs x = solC p) && allB p.rows x
def cntB (p : PProb) : Int := if vProb p then (cnt (bestB p) (pts p.uppers) : Int) else -1
theorem solL_1 {p : PProb} (h : vProb p = false) : solL p = [] := by simp [solL, h]
theorem solC_1 {p : PProb} (h : vProb p = false) : solC p = -1 := by simp [solC, h]
theorem solL_2 {p : PProb} (h : vProb p = true) : solL p = (slv (dotW p.costs) (allB p.rows) (pts p.uppers)).1 := by simp [solL, h]
theorem solC_2 {p : PProb} (h : vProb p = true) : solC p = (slv (dotW p.costs) (allB p.rows) (pts p.uppers)).2 := by simp [solC, h]
theorem cntF_1 {p : PProb} (h : vProb p = false) : cntF p = -1 := by simp [cntF, h]
theorem cntF_2 {p : PProb} (h : vProb p = true) : cntF p = (cnt (allB p.rows) (pts p.uppers) : Int) := by simp [cntF, h]
theorem cntB_1 {p : PProb} (h : vProb p = false) : cntB p = -1 := by simp [cntB, h]
theorem cntB_2 {p : PProb} (h : vProb p = true) : cntB p = (cnt (bestB p) (pts p.uppers) : Int) := by simp [cntB, h]
end Go.Proofs.Ytangfmmjpomlgaa
