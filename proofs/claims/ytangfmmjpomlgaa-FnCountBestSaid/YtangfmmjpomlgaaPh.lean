
/-
  Plain facts: the cheapest point of a problem with another first upper bound, without a row, with free rows; how many are the cheapest.
-/
import Derived.Test.YtangfmmjpomlgaaPg
import Derived.Test.YtangfmmjpomlgaaPf
set_option linter.unusedSimpArgs false
set_option linter.unusedVariables false
namespace Go.Proofs.Ytangfmmjpomlgaa
open Go.RowKit

/-! ### With another upper bound of the first variable -/
def topP (p : PProb) (u : Int) : PProb := ⟨p.costs, p.uppers.set 0 u, p.rows⟩
theorem blocks_pre {L : List (List Int)} : ∀ {k K : Nat} {v : Int}, k ≤ K → ∃ R, blocks L K v = blocks L k v ++ R := by
  intro k
  induction k with
  | zero =>
    intro K v _
    cases K with
    | zero => exact ⟨[], by simp⟩
    | succ K => exact ⟨blocks L K (v + 1), by simp [blocks]⟩
  | succ k ih =>
    intro K v h
    cases K with
    | zero => omega
    | succ K =>
      obtain ⟨R, e⟩ := ih (K := K) (v := v + 1) (by omega)
      exact ⟨R, by simp [blocks, e]⟩
/-- The points with a first value at most u come first. -/
theorem pts_top {us : List Int} {u0 u : Int} (h0 : 0 ≤ u) (h1 : u ≤ u0) : ∃ R, pts (u0 :: us) = pts (u :: us) ++ R := blocks_pre (by omega)
theorem vProb_top {p : PProb} {u u0 : Int} {us : List Int} (hv : vProb p = true) (hu : p.uppers = u0 :: us) (h0 : 0 ≤ u) (h1 : u ≤ u0) : vProb (topP p u) = true := by
  have hb := vProb_us hv
  unfold vProb at hv ⊢
  simp only [Bool.and_eq_true, decide_eq_true_eq] at hv ⊢
  refine ⟨hv.1, by simp [topP, hv.2.1], hv.2.2.1, ⟨hv.2.2.2.1.1, ?_⟩, hv.2.2.2.2⟩
  show vInts (p.uppers.set 0 u) 0 9 = true
  rw [hu, List.set_cons_zero, vInts, List.all_eq_true]
  intro x hx
  rw [inB_iff]
  rcases List.mem_cons.1 hx with rfl | hx
  · have := hb u0 (by rw [hu]; simp); omega
  · exact hb x (by rw [hu]; simp [hx])
theorem vProb_topneg {p : PProb} {u : Int} (h0 : u < 0) (hn : p.uppers ≠ []) : vProb (topP p u) = false := by
  cases h : vProb (topP p u)
  · rfl
  · have := vProb_us h u (by
      obtain ⟨a, l, e⟩ := List.exists_cons_of_ne_nil hn
      simp [topP, e])
    omega
/-- A prefix that holds the solution has the same solution. -/
theorem slv_pre {f : List Int → Int} {ok : List Int → Bool} {L R : List (List Int)} (hf : ∀ x ∈ L ++ R, 0 ≤ f x) (h : 0 ≤ (slv f ok (L ++ R)).2) (hm : (slv f ok (L ++ R)).1 ∈ L) : slv f ok L = slv f ok (L ++ R) := by
  rcases slv_says f ok (L ++ R) hf with ⟨h1, _⟩ | ⟨a, b, h1, h2, h3, h4, h5, h6⟩
  · rw [h1] at h; simp at h
  · have hfL : ∀ x ∈ L, 0 ≤ f x := fun x hx => hf x (by simp [hx])
    rcases slv_says f ok L hfL with ⟨g1, g2⟩ | ⟨c, d, g1, g2, g3, g4, g5, g6⟩
    · rw [g2 _ hm] at h2; exact absurd h2 (by simp)
    · obtain ⟨x, hx⟩ : ∃ x, (slv f ok (L ++ R)).1 = x := ⟨_, rfl⟩
      obtain ⟨y, hy⟩ : ∃ y, (slv f ok L).1 = y := ⟨_, rfl⟩
      rw [hx] at h1 h2 h3 hm
      rw [hy] at g1 g2 g3
      -- both are the first of the cheapest
      have hxy : f x ≤ f y := by
        have hyM : y ∈ a ++ x :: b := by rw [← h1, g1]; simp
        rcases List.mem_append.1 hyM with q | q
        · have := h5 y q g2; omega
        · rcases List.mem_cons.1 q with rfl | q
          · omega
          · have := h6 y q g2; omega
      have hyx : f y ≤ f x := by
        rw [g1] at hm
        rcases List.mem_append.1 hm with q | q
        · have := g5 x q h2; omega
        · rcases List.mem_cons.1 q with rfl | q
          · omega
          · have := g6 x q h2; omega
      have e : x = y := by
        have h7 : L ++ R = c ++ y :: (d ++ R) := by rw [g1]; simp
        rw [h7] at h1
        rcases List.append_eq_append_iff.1 h1 with ⟨t, e1, e2⟩ | ⟨t, e1, e2⟩
        · -- a = c ++ t
          cases t with
          | nil => simp at e2; exact e2.1.symm
          | cons z t =>
            simp only [List.cons_append, List.cons.injEq] at e2
            have hya : y ∈ a := by rw [e1, e2.1]; simp
            have := h5 y hya g2
            omega
        · -- c = a ++ t
          cases t with
          | nil => simp at e2; exact e2.1
          | cons z t =>
            simp only [List.cons_append, List.cons.injEq] at e2
            have hxc : x ∈ c := by rw [e1, e2.1]; simp
            have := g5 x hxc h2
            omega
      refine Prod.ext ?_ ?_
      · rw [hy, hx, e]
      · rw [g3, h3, e]
theorem first_same {p : PProb} (hv : vProb p = true) (h : ¬ solC p < 0) : solL (topP p ((solL p).getD 0 0)) = solL p ∧ solC (topP p ((solL p).getD 0 0)) = solC p ∧
    (solC (topP p ((solL p).getD 0 0 - 1)) < 0 ∨ solC p < solC (topP p ((solL p).getD 0 0 - 1))) := by
  obtain ⟨hm, ho, hc⟩ := sol_pos hv h
  have hu := vProb_us hv
  have h1 := (vProb_N5 hv).2
  have hund := (mem_pts fun u hh => (hu u hh).1).1 hm
  obtain ⟨u0, us, eu⟩ := List.exists_cons_of_ne_nil (l := p.uppers) (by intro e; rw [e] at h1; simp at h1)
  obtain ⟨s, ss, es⟩ := List.exists_cons_of_ne_nil (l := solL p) (by intro e; have := under_len hund; rw [e, eu] at this; simp at this)
  have hs0 : (solL p).getD 0 0 = s := by rw [es]; rfl
  rw [eu, es] at hund
  have hsb := hund.1
  rw [hs0]
  have hvt := vProb_top hv eu hsb.1 hsb.2
  obtain ⟨R, eR⟩ := pts_top (us := us) hsb.1 hsb.2
  have hcost := all_cost hv
  have hsl : slv (dotW p.costs) (allB p.rows) (pts (s :: us)) = slv (dotW p.costs) (allB p.rows) (pts p.uppers) := by
    rw [eu, eR]
    refine slv_pre (fun x hx => hcost x (by rw [eu, eR]; exact hx)) ?_ ?_
    · have h' := h; rw [solC_2 hv, eu, eR] at h'; omega
    · rw [← eR, ← eu, ← solL_2 hv, es]
      exact (mem_pts fun u hh => by
        rcases List.mem_cons.1 hh with rfl | hh
        · exact hsb.1
        · exact (hu u (by rw [eu]; simp [hh])).1).2 ⟨⟨hsb.1, Int.le_refl _⟩, hund.2⟩
  have et : (topP p s).uppers = s :: us := by simp [topP, eu]
  refine ⟨?_, ?_, ?_⟩
  · rw [solL_2 hvt, solL_2 hv, et, ← hsl]; rfl
  · rw [solC_2 hvt, solC_2 hv, et, ← hsl]; rfl
  · by_cases hs1 : s - 1 < 0
    · left
      rw [solC_1 (vProb_topneg hs1 (by rw [eu]; simp))]; decide
    · have hvl := vProb_top hv eu (u := s - 1) (by omega) (by omega)
      by_cases hn : solC (topP p (s - 1)) < 0
      · exact .inl hn
      · right
        obtain ⟨gm, go, gc⟩ := sol_pos hvl hn
        have el : (topP p (s - 1)).uppers = (s - 1) :: us := by simp [topP, eu]
        rw [el] at gm
        have go' : allB p.rows (solL (topP p (s - 1))) = true := go
        have gc' : solC (topP p (s - 1)) = dotW p.costs (solL (topP p (s - 1))) := gc
        rw [gc', hc]
        -- the points with a smaller first value stand before the solution
        rcases slv_says (dotW p.costs) (allB p.rows) (pts p.uppers) hcost with ⟨k1, _⟩ | ⟨a, b, k1, k2, k3, k4, k5, k6⟩
        · rw [solC_2 hv, k1] at h; simp at h
        · rw [← solL_2 hv] at k1 k2 k3
          rw [← solC_2 hv] at k3 k4 k5 k6
          rw [← hc]
          refine k5 _ ?_ go'
          obtain ⟨R2, eR2⟩ := pts_top (us := us) (u0 := u0) (u := s - 1) (by omega) (by omega)
          have hsn : solL p ∉ pts ((s - 1) :: us) := fun hh => by
            have := (mem_pts fun u hh => by
              rcases List.mem_cons.1 hh with rfl | hh
              · omega
              · exact (hu u (by rw [eu]; simp [hh])).1).1 hh
            rw [es] at this
            have := this.1
            omega
          rw [eu, eR2] at k1
          rcases List.append_eq_append_iff.1 k1 with ⟨t, e1, e2⟩ | ⟨t, e1, e2⟩
          · rw [e1]; simp [gm]
          · cases t with
            | nil => rw [List.append_nil] at e1; rw [← e1]; exact gm
            | cons z t =>
              simp only [List.cons_append, List.cons.injEq] at e2
              exact absurd (by rw [e1, e2.1]; simp) hsn

/-! ### Without a row -/
theorem drop_cheap {p : PProb} (hv : vProb p = true) (h : ¬ solC p < 0) (hd : ∀ i, vProb (dropP p i) = true) (i : Nat) : ¬ solC (dropP p i) < 0 ∧ solC (dropP p i) ≤ solC p := by
  obtain ⟨hm, ho, hc⟩ := sol_pos hv h
  have := sol_least (hd i) (x := solL p) hm (by
    unfold allB at ho ⊢
    rw [List.all_eq_true] at ho ⊢
    exact fun r hr => ho r (List.mem_of_mem_eraseIdx hr))
  rw [hc]
  exact ⟨by omega, this.2⟩

/-! ### How many are the cheapest -/
def zeroP (p : PProb) : PProb := ⟨List.replicate p.costs.length 0, p.uppers, p.rows⟩
theorem vProb_zero {p : PProb} (hv : vProb p = true) : vProb (zeroP p) = true := by
  have hl : (zeroP p).costs.length = p.costs.length := by simp [zeroP]
  unfold vProb at hv ⊢
  simp only [Bool.and_eq_true, decide_eq_true_eq, hl] at hv ⊢
  refine ⟨hv.1, hv.2.1, hv.2.2.1, ⟨?_, hv.2.2.2.1.2⟩, hv.2.2.2.2⟩
  show vInts (List.replicate p.costs.length 0) 0 99 = true
  rw [vInts, List.all_eq_true]
  intro x hx
  rw [List.mem_replicate] at hx
  rw [inB_iff]; omega
theorem cnt_mono {f g : List Int → Bool} {L : List (List Int)} (h : ∀ x ∈ L, f x = true → g x = true) : cnt f L ≤ cnt g L := by
  induction L with
  | nil => simp [cnt]
  | cons a L ih =>
    have := ih fun x hx => h x (by simp [hx])
    unfold cnt at this ⊢
    rw [List.filter_cons, List.filter_cons]
    by_cases h1 : f a = true
    · rw [if_pos h1, if_pos (h a (by simp) h1)]; simpa using this
    · rw [if_neg h1]
      by_cases h2 : g a = true
      · rw [if_pos h2]; simp; omega
      · rw [if_neg h2]; exact this
theorem cnt_pos {f : List Int → Bool} {L : List (List Int)} {x : List Int} (hx : x ∈ L) (h : f x = true) : 0 < cnt f L := by
  unfold cnt
  exact List.length_pos_of_mem (List.mem_filter.2 ⟨hx, h⟩)
theorem cnt_zero {f : List Int → Bool} {L : List (List Int)} (h : ∀ x ∈ L, f x = false) : cnt f L = 0 := by
  unfold cnt
  rw [List.filter_eq_nil_iff.2 fun x hx => by simp [h x hx]]; rfl
theorem best_facts {p : PProb} (hv : vProb p = true) : cntB p ≤ cntF p ∧ (cntB p = 0 ↔ cntF p = 0) ∧ 0 ≤ cntB p ∧ cntB p ≤ 100000 := by
  have hle : cnt (bestB p) (pts p.uppers) ≤ cnt (allB p.rows) (pts p.uppers) := cnt_mono fun x _ h => by
    unfold bestB at h; rw [Bool.and_eq_true] at h; exact h.2
  have hsm : cnt (bestB p) (pts p.uppers) ≤ 100000 := Nat.le_trans cnt_le (pts_small (vProb_us hv) (vProb_N5 hv).1)
  rw [cntB_2 hv, cntF_2 hv]
  refine ⟨by omega, ⟨fun e => ?_, fun e => by omega⟩, by omega, by omega⟩
  by_cases h : solC p < 0
  · have := (sol_neg hv h).1; rw [cntF_2 hv] at this; exact this
  · obtain ⟨hm, ho, hc⟩ := sol_pos hv h
    have := cnt_pos (f := bestB p) hm (by unfold bestB; rw [Bool.and_eq_true]; exact ⟨by simp [hc], ho⟩)
    omega
theorem best_free {p : PProb} (hv : vProb p = true) : cntB (zeroP p) = cntF p := by
  have hz := vProb_zero hv
  rw [cntB_2 hz, cntF_2 hv]
  have hd : ∀ x ∈ pts p.uppers, dotW (zeroP p).costs x = 0 := fun x hx => by
    have hund := (mem_pts fun u hh => (vProb_us hv u hh).1).1 hx
    have h5 := vProb_N5 hv
    have hul := vProb_ul hv
    have hz0 : ∀ i, (zeroP p).costs.getD i 0 = 0 := fun i => by simp [zeroP, List.getD_eq_getElem?_getD, List.getElem?_replicate]; split <;> rfl
    have key : ∀ k, k ≤ 1000 → fold (mac (zeroP p).costs x) k = 0 := fun k hk => by
      induction k with
      | zero => rfl
      | succ k ih => rw [fold, ih (by omega), mac, hz0, Int.zero_mul, IntWalk.wrap64_in 0 ⟨by omega, by omega⟩, Int.zero_add, IntWalk.wrap64_in 0 ⟨by omega, by omega⟩]
    unfold dotW
    exact key _ (by simp [zeroP]; omega)
  have e : cnt (bestB (zeroP p)) (pts (zeroP p).uppers) = cnt (allB p.rows) (pts p.uppers) := by
    show cnt (bestB (zeroP p)) (pts p.uppers) = _
    by_cases h : solC (zeroP p) < 0
    · have hn := (cntF_zero hz).1 (sol_neg hz h).1
      refine Eq.trans (cnt_zero fun x hx => ?_) (cnt_zero (f := allB p.rows) fun x hx => hn x hx).symm
      exact by
        have := hn x hx
        unfold bestB
        rw [this, Bool.and_false]
    · obtain ⟨hm, ho, hc⟩ := sol_pos hz h
      have hc0 : solC (zeroP p) = 0 := by rw [hc]; exact hd _ hm
      have : ∀ x ∈ pts p.uppers, bestB (zeroP p) x = allB p.rows x := fun x hx => by
        unfold bestB
        rw [hd x hx, hc0]
        simp [zeroP]
      unfold cnt
      rw [List.filter_congr this]
  rw [e]
end Go.Proofs.Ytangfmmjpomlgaa
