
/-
  Duties: plain notions of lines and rosters.
-/
import Derived.Test.YtjbgjljcgdligabJa
import Derived.Test.YtjbgjljcgdligabQ7
set_option linter.unusedSimpArgs false
set_option linter.unusedVariables false
namespace Go.Proofs.Ytjbgjljcgdligab
open Go.RowKit

/-- Number k of a list, as an index. -/
def ix (xs : List Int) (k : Nat) : Nat := (xs.getD k 0).toNat
theorem ix_at {xs : List Int} {k j : Nat} (h : xs[k]? = some (j : Int)) : ix xs k = j := by unfold ix; simp [List.getD, h]
def lGap (ds : List (Int × Int)) (rest : Int) (line : List Int) (k : Nat) : Bool := decide (k = 0 ∨ dE ds (ix line (k - 1)) + rest ≤ dS ds (ix line k))
def gaps (ds : List (Int × Int)) (rest : Int) (line : List Int) (k : Nat) : Bool := (List.range k).all (lGap ds rest line)
theorem gaps_0 (ds : List (Int × Int)) (rest : Int) (line : List Int) : gaps ds rest line 0 = true := rfl
theorem gaps_succ (ds : List (Int × Int)) (rest : Int) (line : List Int) (k : Nat) : gaps ds rest line (k + 1) = (gaps ds rest line k && lGap ds rest line k) := by
  simp [gaps, List.range_succ, List.all_append]
theorem gaps_yes {ds : List (Int × Int)} {rest : Int} {line : List Int} {k : Nat} (h : gaps ds rest line k = true) (h2 : lGap ds rest line k = true) : gaps ds rest line (k + 1) = true := by rw [gaps_succ, h, h2]; rfl
theorem gaps_at {ds : List (Int × Int)} {rest : Int} {line : List Int} {n k : Nat} (h : gaps ds rest line n = true) (hk : k < n) : lGap ds rest line k = true := by
  unfold gaps at h; rw [List.all_eq_true] at h; exact h k (List.mem_range.2 hk)
theorem gaps_no {ds : List (Int × Int)} {rest : Int} {line : List Int} {n k : Nat} (hk : k < n) (h : lGap ds rest line k = false) : gaps ds rest line n = false := by
  cases h2 : gaps ds rest line n
  · rfl
  · rw [gaps_at h2 hk] at h; cases h
def lWork (ds : List (Int × Int)) (line : List Int) : Nat → Int
  | 0 => 0
  | k + 1 => lWork ds line k + (dE ds (ix line k) - dS ds (ix line k))
theorem lWork_step {ds : List (Int × Int)} {line : List Int} {k j : Nat} {x y : Int} (hl : line[k]? = some (j : Int)) (hx : ds[j]? = some (x, y)) : lWork ds line (k + 1) = lWork ds line k + (y - x) := by
  obtain ⟨e1, e2⟩ := dut_get hx
  rw [lWork, ix_at hl, e1, e2]
theorem lGap_at {ds : List (Int × Int)} {rest : Int} {line : List Int} {k i j : Nat} {x y x' y' : Int} (hl : line[k]? = some (j : Int)) (hl' : line[k - 1]? = some (i : Int)) (hx : ds[j]? = some (x, y)) (hx' : ds[i]? = some (x', y')) (h0 : 0 < k) :
    lGap ds rest line k = decide (y' + rest ≤ x) := by
  obtain ⟨e1, e2⟩ := dut_get hx
  obtain ⟨e3, e4⟩ := dut_get hx'
  unfold lGap
  rw [ix_at hl, ix_at hl', e1, e4]
  by_cases h : y' + rest ≤ x
  · simp [h]
  · have : ¬ k = 0 := by omega
    simp [h, this]
theorem lGap_0 {ds : List (Int × Int)} {rest : Int} {line : List Int} : lGap ds rest line 0 = true := by simp [lGap]
/-- A line of valid duties is possible. -/
def lnB (ds : List (Int × Int)) (rest most : Int) (line : List Int) : Bool := gaps ds rest line line.length && decide (lWork ds line line.length ≤ most)
theorem lnB_1 {ds : List (Int × Int)} {rest most : Int} {line : List Int} {k : Nat} (hk : k < line.length) (h : lGap ds rest line k = false) : lnB ds rest most line = false := by simp [lnB, gaps_no hk h]
theorem lnB_2 {ds : List (Int × Int)} {rest most : Int} {line : List Int} {k : Nat} (hk : k = line.length) (h : gaps ds rest line k = true) : lnB ds rest most line = decide (lWork ds line k ≤ most) := by subst hk; simp [lnB, h]
def rulB (rest most : Int) : Bool := inB rest 0 200 && inB most 0 9999
def lineB (ds : List (Int × Int)) (rest most : Int) (line : List Int) : Bool := vDut ds && (rulB rest most && (ascB line ds.length && lnB ds rest most line))
theorem lineB_1 {ds : List (Int × Int)} {rest most : Int} {line : List Int} (h : vDut ds = false) : lineB ds rest most line = false := by simp [lineB, h]
theorem lineB_2 {ds : List (Int × Int)} {rest most : Int} {line : List Int} (h : rulB rest most = false) : lineB ds rest most line = false := by simp [lineB, h]
theorem lineB_3 {ds : List (Int × Int)} {rest most : Int} {line : List Int} (h : ascB line ds.length = false) : lineB ds rest most line = false := by simp [lineB, h]
theorem lineB_4 {ds : List (Int × Int)} {rest most : Int} {line : List Int} (h1 : vDut ds = true) (h2 : rulB rest most = true) (h3 : ascB line ds.length = true) : lineB ds rest most line = lnB ds rest most line := by simp [lineB, h1, h2, h3]
theorem rulB_1 {rest most : Int} (h : inB rest 0 200 = false) : rulB rest most = false := by simp [rulB, h]
theorem rulB_2 {rest most : Int} (h : inB rest 0 200 = true) : rulB rest most = inB most 0 9999 := by simp [rulB, h]
theorem rulB_facts {rest most : Int} (h : rulB rest most = true) : (0 ≤ rest ∧ rest ≤ 200) ∧ 0 ≤ most ∧ most ≤ 9999 := by
  obtain ⟨h1, h2⟩ := Bool.and_eq_true_iff.1 h
  exact ⟨inB_iff.1 h1, inB_iff.1 h2⟩
/-- What lines are given to: valid duties, and numbers of them. -/
def lnIn (ds : List (Int × Int)) (line : List Int) : Prop := vDut ds = true ∧ line.length ≤ 1000 ∧ ∀ x ∈ line, 0 ≤ x ∧ x < ds.length
theorem lnIn_at {ds : List (Int × Int)} {line : List Int} {k : Nat} {v : Int} (h : lnIn ds line) (hv : line[k]? = some v) : ∃ j : Nat, v = (j : Int) ∧ j < ds.length := by
  obtain ⟨h0, h1⟩ := h.2.2 v (List.mem_of_getElem? hv)
  exact ⟨v.toNat, by omega, by omega⟩
theorem lWork_bd {ds : List (Int × Int)} {line : List Int} (h : lnIn ds line) : ∀ k, k ≤ line.length → 0 ≤ lWork ds line k ∧ lWork ds line k ≤ 200 * k
  | 0, _ => by simp [lWork]
  | k + 1, hk => by
    have := lWork_bd h k (by omega)
    obtain ⟨j, e, hj⟩ := lnIn_at h (List.getElem?_eq_getElem (show k < line.length by omega))
    have e' : ix line k = j := ix_at (by rw [List.getElem?_eq_getElem (show k < line.length by omega), e])
    have := (vDut_facts h.1).2 j hj
    rw [lWork, e']
    omega
theorem incP_len {ps : List Int} {m : Nat} (h1 : incP ps ps.length = true) (h2 : ∀ x ∈ ps, 0 ≤ x ∧ x ≤ (m : Int) - 1) : ps.length ≤ m := by
  have key : ∀ k, k < ps.length → (k : Int) ≤ ps.getD k 0 := by
    intro k
    induction k with
    | zero => intro hk; exact (h2 _ (List.mem_of_getElem? (getD_mem hk))).1
    | succ k ih =>
      intro hk
      have := ih (by omega)
      have := incP_at h1 hk
      simp only [Nat.add_sub_cancel] at this
      omega
  rcases Nat.eq_zero_or_pos ps.length with h | h
  · omega
  · have := key (ps.length - 1) (by omega)
    have := (h2 _ (List.mem_of_getElem? (getD_mem (show ps.length - 1 < ps.length by omega)))).2
    omega
theorem lnIn_asc {ds : List (Int × Int)} {line : List Int} (h1 : vDut ds = true) (h2 : ascB line ds.length = true) : lnIn ds line := by
  have hm := ascB_mem h2
  have hi : incP line line.length = true := (Bool.and_eq_true_iff.1 h2).1
  have := incP_len hi hm
  have := (vDut_facts h1).1
  exact ⟨h1, by omega, fun x hx => by have := hm x hx; omega⟩
/-- The duties of a person. -/
def lnOf (crew : List Int) (p : Int) (k : Nat) : List Int := idxs (fun i => decide (crew.getD i 0 = p)) k
theorem lnOf_yes {crew : List Int} {p : Int} {k : Nat} (h : crew[k]? = some p) : lnOf crew p (k + 1) = lnOf crew p k ++ [(k : Int)] := idxs_yes (by simp [List.getD, h])
theorem lnOf_no {crew : List Int} {p x : Int} {k : Nat} (h : crew[k]? = some x) (hx : ¬ x = p) : lnOf crew p (k + 1) = lnOf crew p k := idxs_no (by simp [List.getD, h, hx])
theorem lnOf_len (crew : List Int) (p : Int) (k : Nat) : (lnOf crew p k).length ≤ k := idxs_len _ _
theorem lnOf_bd (crew : List Int) (p : Int) {k : Nat} (hk : k ≤ maxLen) : ∀ x ∈ lnOf crew p k, I64 x := by
  intro x hx
  have := idxs_mem x hx
  unfold maxLen at hk
  exact ⟨by omega, by omega⟩
theorem lnOf_asc (crew : List Int) (p : Int) (n : Nat) : ascB (lnOf crew p n) n = true := idxs_asc _ _
theorem lnOf_in {ds : List (Int × Int)} {crew : List Int} (p : Int) (h : vDut ds = true) (hl : crew.length = ds.length) : lnIn ds (lnOf crew p crew.length) := lnIn_asc h (by rw [hl]; exact lnOf_asc _ _ _)
theorem lnOf_none {crew : List Int} {p : Int} (h : p ∉ crew) : lnOf crew p crew.length = [] := by
  refine idxs_empty.2 fun i hi => ?_
  have : crew[i]? = some (crew.getD i 0) := getD_mem hi
  have h2 := List.mem_of_getElem? this
  simp only [decide_eq_false_iff_not]
  intro e; rw [e] at h2; exact h h2
/-- The duties of every person are a possible line. -/
def rosAll (ds : List (Int × Int)) (rest most : Int) (crew : List Int) (k : Nat) : Bool := (List.range k).all fun p : Nat => lnB ds rest most (lnOf crew (p : Int) crew.length)
def rosI (ds : List (Int × Int)) (rest most : Int) (crew : List Int) (k : Nat) : Bool := (List.range k).all fun i : Nat => lnB ds rest most (lnOf crew (crew.getD i 0) crew.length)
theorem rosAll_succ (ds : List (Int × Int)) (rest most : Int) (crew : List Int) (k : Nat) : rosAll ds rest most crew (k + 1) = (rosAll ds rest most crew k && lnB ds rest most (lnOf crew (k : Int) crew.length)) := by
  simp [rosAll, List.range_succ, List.all_append]
theorem rosI_succ (ds : List (Int × Int)) (rest most : Int) (crew : List Int) (k : Nat) : rosI ds rest most crew (k + 1) = (rosI ds rest most crew k && lnB ds rest most (lnOf crew (crew.getD k 0) crew.length)) := by
  simp [rosI, List.range_succ, List.all_append]
theorem rosAll_at {ds : List (Int × Int)} {rest most : Int} {crew : List Int} {n k : Nat} (h : rosAll ds rest most crew n = true) (hk : k < n) : lnB ds rest most (lnOf crew (k : Int) crew.length) = true := by
  unfold rosAll at h; rw [List.all_eq_true] at h; exact h k (List.mem_range.2 hk)
theorem rosI_at {ds : List (Int × Int)} {rest most : Int} {crew : List Int} {n k : Nat} (h : rosI ds rest most crew n = true) (hk : k < n) : lnB ds rest most (lnOf crew (crew.getD k 0) crew.length) = true := by
  unfold rosI at h; rw [List.all_eq_true] at h; exact h k (List.mem_range.2 hk)
theorem lnB_nil {ds : List (Int × Int)} {rest most : Int} (h : 0 ≤ most) : lnB ds rest most [] = true := by simp [lnB, gaps, lWork, h]
theorem ros_same {ds : List (Int × Int)} {rest most : Int} {crew : List Int} (hm : 0 ≤ most) (hc : ∀ x ∈ crew, 0 ≤ x ∧ x < (crew.length : Int)) : rosI ds rest most crew crew.length = rosAll ds rest most crew crew.length := by
  rw [Bool.eq_iff_iff]
  unfold rosI rosAll
  rw [List.all_eq_true, List.all_eq_true]
  constructor
  · intro h k hk
    by_cases hin : (k : Int) ∈ crew
    · obtain ⟨i, hi⟩ := List.mem_iff_getElem?.1 hin
      have := h i (List.mem_range.2 (List.getElem?_eq_some_iff.1 hi).1)
      have e : crew.getD i 0 = (k : Int) := by simp [List.getD, hi]
      rwa [e] at this
    · rw [lnOf_none hin]; exact lnB_nil hm
  · intro h i hi
    have hi' := List.mem_range.1 hi
    have hx := hc _ (List.mem_of_getElem? (getD_mem hi'))
    have := h (crew.getD i 0).toNat (List.mem_range.2 (by omega))
    rwa [Int.toNat_of_nonneg hx.1] at this
def crewIn (ds : List (Int × Int)) (crew : List Int) : Bool := vDut ds && (decide (crew.length = ds.length) && vInts crew 0 ((ds.length : Int) - 1))
def rosB (ds : List (Int × Int)) (rest most : Int) (crew : List Int) : Bool := rulB rest most && (crewIn ds crew && rosAll ds rest most crew crew.length)
theorem rosB_1 {ds : List (Int × Int)} {rest most : Int} {crew : List Int} (h : rulB rest most = false) : rosB ds rest most crew = false := by simp [rosB, h]
theorem rosB_2 {ds : List (Int × Int)} {rest most : Int} {crew : List Int} (h : crewIn ds crew = false) : rosB ds rest most crew = false := by simp [rosB, h]
theorem rosB_3 {ds : List (Int × Int)} {rest most : Int} {crew : List Int} (h : rulB rest most = true) (h2 : crewIn ds crew = true) : rosB ds rest most crew = rosAll ds rest most crew crew.length := by simp [rosB, h, h2]
theorem crewIn_1 {ds : List (Int × Int)} {crew : List Int} (h : vDut ds = false) : crewIn ds crew = false := by simp [crewIn, h]
theorem crewIn_2 {ds : List (Int × Int)} {crew : List Int} (h : ¬ crew.length = ds.length) : crewIn ds crew = false := by simp [crewIn, h]
theorem crewIn_3 {ds : List (Int × Int)} {crew : List Int} (h : vDut ds = true) (h2 : crew.length = ds.length) : crewIn ds crew = vInts crew 0 ((ds.length : Int) - 1) := by simp [crewIn, h, h2]
theorem crewIn_facts {ds : List (Int × Int)} {crew : List Int} (h : crewIn ds crew = true) : vDut ds = true ∧ crew.length = ds.length ∧ ∀ x ∈ crew, 0 ≤ x ∧ x ≤ (ds.length : Int) - 1 := by
  unfold crewIn at h
  obtain ⟨h1, h2⟩ := Bool.and_eq_true_iff.1 h
  obtain ⟨h2, h3⟩ := Bool.and_eq_true_iff.1 h2
  refine ⟨h1, by simpa using h2, fun x hx => ?_⟩
  unfold vInts at h3
  rw [List.all_eq_true] at h3
  exact inB_iff.1 (h3 x hx)
theorem crewIn_lt {ds : List (Int × Int)} {crew : List Int} (h : crewIn ds crew = true) : ∀ x ∈ crew, 0 ≤ x ∧ x < (crew.length : Int) := by
  obtain ⟨h1, h2, h3⟩ := crewIn_facts h
  intro x hx
  have := h3 x hx
  omega
/-- One more than the greatest number of a person. -/
def pers (crew : List Int) : Nat → Int
  | 0 => 0
  | k + 1 => max (pers crew k) (crew.getD k 0 + 1)
theorem pers_step {crew : List Int} {k : Nat} {x : Int} (h : crew[k]? = some x) : pers crew (k + 1) = max (pers crew k) (x + 1) := by rw [pers]; simp [List.getD, h]
theorem pers_bd {crew : List Int} {m : Int} (hm : 0 ≤ m) (h : ∀ x ∈ crew, 0 ≤ x ∧ x < m) : ∀ k, k ≤ crew.length → 0 ≤ pers crew k ∧ pers crew k ≤ m
  | 0, _ => by simp [pers, hm]
  | k + 1, hk => by
    have := pers_bd hm h k (by omega)
    have := h _ (List.mem_of_getElem? (getD_mem (show k < crew.length by omega)))
    rw [pers]; omega
theorem pers_gt {crew : List Int} {n : Nat} : ∀ {k i : Nat}, i < k → crew.getD i 0 < pers crew k
  | k + 1, i, hi => by
    rw [pers]
    by_cases e : i = k
    · subst e; omega
    · have := pers_gt (n := n) (crew := crew) (k := k) (i := i) (by omega)
      omega
/-- The work of every person: the table after k duties. -/
def wTab (ds : List (Int × Int)) (crew : List Int) (m : Nat) : Nat → List Int
  | 0 => List.replicate m 0
  | k + 1 => (wTab ds crew m k).set (ix crew k) ((wTab ds crew m k).getD (ix crew k) 0 + (dE ds k - dS ds k))
theorem wTab_len (ds : List (Int × Int)) (crew : List Int) (m : Nat) : ∀ k, (wTab ds crew m k).length = m
  | 0 => by simp [wTab]
  | k + 1 => by rw [wTab, List.length_set, wTab_len ds crew m k]
theorem wTab_step {ds : List (Int × Int)} {crew : List Int} {m k j : Nat} {x y : Int} (hc : crew[k]? = some (j : Int)) (hx : ds[k]? = some (x, y)) :
    wTab ds crew m (k + 1) = (wTab ds crew m k).set j ((wTab ds crew m k).getD j 0 + (y - x)) := by
  obtain ⟨e1, e2⟩ := dut_get hx
  rw [wTab, ix_at hc, e1, e2]
theorem jSet (xs : List Int) (i j : Nat) (v : Int) : (xs.set i v).getD j 0 = if i = j ∧ j < xs.length then v else xs.getD j 0 := by
  simp only [List.getD, List.getElem?_set]
  by_cases h : i = j
  · subst h
    by_cases h2 : i < xs.length
    · simp [h2]
    · simp [h2, List.getElem?_eq_none (Nat.le_of_not_lt h2)]
  · simp [h]
theorem wTab_bd {ds : List (Int × Int)} (h : vDut ds = true) (crew : List Int) (m : Nat) : ∀ k, k ≤ ds.length → ∀ j, 0 ≤ (wTab ds crew m k).getD j 0 ∧ (wTab ds crew m k).getD j 0 ≤ 200 * k
  | 0, _, j => by
    have : (List.replicate m (0 : Int)).getD j 0 = 0 := by
      simp only [List.getD, List.getElem?_replicate]
      split <;> rfl
    simp only [wTab]; omega
  | k + 1, hk, j => by
    have h1 := wTab_bd h crew m k (by omega) j
    have h2 := wTab_bd h crew m k (by omega) (ix crew k)
    have := (vDut_facts h).2 k (by omega)
    rw [wTab, jSet]
    split <;> omega
def workV (ds : List (Int × Int)) (crew : List Int) : List Int := if crewIn ds crew then wTab ds crew (pers crew crew.length).toNat crew.length else []
theorem workV_1 {ds : List (Int × Int)} {crew : List Int} (h : crewIn ds crew = false) : workV ds crew = [] := by simp [workV, h]
theorem workV_2 {ds : List (Int × Int)} {crew : List Int} (h : crewIn ds crew = true) : workV ds crew = wTab ds crew (pers crew crew.length).toNat crew.length := by simp [workV, h]
theorem wTab_i64 {ds : List (Int × Int)} (h : vDut ds = true) (crew : List Int) (m k : Nat) (hk : k ≤ ds.length) : ∀ x ∈ wTab ds crew m k, I64 x := by
  intro x hx
  obtain ⟨j, hj⟩ := List.mem_iff_getElem?.1 hx
  have := wTab_bd h crew m k hk j
  have e : (wTab ds crew m k).getD j 0 = x := by simp [List.getD, hj]
  have := (vDut_facts h).1
  exact ⟨by omega, by omega⟩
end Go.Proofs.Ytjbgjljcgdligab
