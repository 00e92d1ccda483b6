
/-
  Lots: plain notions of the plan that makes goods in given periods; both ways of finding it are the same.
-/
import Derived.Test.YtjbgjljcgdligabGa
import Derived.Test.YtjbgjljcgdligabJp
set_option linter.unusedSimpArgs false
set_option linter.unusedVariables false
namespace Go.Proofs.Ytjbgjljcgdligab
open Go.RowKit

/-- The last given period below k, or -1. -/
def lotK (ps : List Int) : Nat → Int
  | 0 => -1
  | k + 1 => if (k : Int) ∈ ps then (k : Int) else lotK ps k
theorem lotK_bd (ps : List Int) : ∀ k, -1 ≤ lotK ps k ∧ lotK ps k < k
  | 0 => by simp [lotK]
  | k + 1 => by
    have := lotK_bd ps k
    rw [lotK]; split <;> omega
def lpK (cs ps : List Int) (n : Nat) : Nat → List Int
  | 0 => List.replicate n 0
  | k + 1 => if 0 ≤ lotK ps (k + 1) then (lpK cs ps n k).set (lotK ps (k + 1)).toNat ((lpK cs ps n k).getD (lotK ps (k + 1)).toNat 0 + cs.getD k 0) else lpK cs ps n k
theorem lpK_len (cs ps : List Int) (n : Nat) : ∀ k, (lpK cs ps n k).length = n
  | 0 => by simp [lpK]
  | k + 1 => by
    rw [lpK]
    split
    · rw [List.length_set, lpK_len cs ps n k]
    · exact lpK_len cs ps n k
theorem rep_getD (n j : Nat) : (List.replicate n (0 : Int)).getD j 0 = 0 := by
  simp only [List.getD, List.getElem?_replicate]
  split <;> rfl
theorem lpK_bd {r : PRow} {ps : List Int} {n : Nat} (h : vLots r = true) : ∀ k, k ≤ r.cs.length → ∀ j, 0 ≤ (lpK r.cs ps n k).getD j 0 ∧ (lpK r.cs ps n k).getD j 0 ≤ 99 * k
  | 0, _, j => by simp only [lpK, rep_getD]; omega
  | k + 1, hk, j => by
    have h1 := lpK_bd (ps := ps) (n := n) h k (by omega) j
    have h2 := lpK_bd (ps := ps) (n := n) h k (by omega) (lotK ps (k + 1)).toNat
    have h3 := (vLots_facts h).2.1 _ (List.mem_of_getElem? (getD_mem (show k < r.cs.length by omega)))
    rw [lpK]
    split
    · rw [jSet]; split <;> omega
    · omega
def lpOk (cs ps : List Int) (k : Nat) : Bool := (List.range k).all fun i => decide (0 ≤ lotK ps (i + 1) ∨ cs.getD i 0 ≤ 0)
theorem lpOk_0 (cs ps : List Int) : lpOk cs ps 0 = true := rfl
theorem lpOk_succ (cs ps : List Int) (k : Nat) : lpOk cs ps (k + 1) = (lpOk cs ps k && decide (0 ≤ lotK ps (k + 1) ∨ cs.getD k 0 ≤ 0)) := by
  simp [lpOk, List.range_succ, List.all_append]
theorem lpOk_yes {cs ps : List Int} {k : Nat} (h : lpOk cs ps k = true) (h2 : 0 ≤ lotK ps (k + 1) ∨ cs.getD k 0 ≤ 0) : lpOk cs ps (k + 1) = true := by rw [lpOk_succ, h]; simpa using h2
theorem lpOk_at {cs ps : List Int} {n k : Nat} (h : lpOk cs ps n = true) (hk : k < n) : 0 ≤ lotK ps (k + 1) ∨ cs.getD k 0 ≤ 0 := by
  unfold lpOk at h; rw [List.all_eq_true] at h; simpa using h k (List.mem_range.2 hk)
theorem lpOk_no {cs ps : List Int} {n k : Nat} (hk : k < n) (h1 : lotK ps (k + 1) < 0) (h2 : 0 < cs.getD k 0) : lpOk cs ps n = false := by
  cases h : lpOk cs ps n
  · rfl
  · have := lpOk_at h hk; omega
def lotB (r : PRow) (ps : List Int) : Bool := vLots r && (ascB ps r.cs.length && lpOk r.cs ps r.cs.length)
def lotV (r : PRow) (ps : List Int) : List Int := if lotB r ps then lpK r.cs ps r.cs.length r.cs.length else []
theorem lot_1 {r : PRow} {ps : List Int} (h : vLots r = false) : lotV r ps = [] := by simp [lotV, lotB, h]
theorem lot_2 {r : PRow} {ps : List Int} (h : ascB ps r.cs.length = false) : lotV r ps = [] := by simp [lotV, lotB, h]
theorem lot_3 {r : PRow} {ps : List Int} (h : lpOk r.cs ps r.cs.length = false) : lotV r ps = [] := by simp [lotV, lotB, h]
theorem lot_4 {r : PRow} {ps : List Int} (h1 : vLots r = true) (h2 : ascB ps r.cs.length = true) (h3 : lpOk r.cs ps r.cs.length = true) : lotV r ps = lpK r.cs ps r.cs.length r.cs.length := by simp [lotV, lotB, h1, h2, h3]
theorem lpK_i64 {r : PRow} {ps : List Int} {n k : Nat} (h : vLots r = true) (hk : k ≤ r.cs.length) : ∀ x ∈ lpK r.cs ps n k, 0 ≤ x ∧ x ≤ 792 := by
  intro x hx
  obtain ⟨j, hj⟩ := List.mem_iff_getElem?.1 hx
  have := lpK_bd (ps := ps) (n := n) h k hk j
  have e : (lpK r.cs ps n k).getD j 0 = x := by simp [List.getD, hj]
  have := (vLots_facts h).1
  omega
theorem lotV_bd (r : PRow) (ps : List Int) : (∀ x ∈ lotV r ps, I64 x) ∧ (lotV r ps).length ≤ 1048576 := by
  cases h : lotB r ps
  · simp [lotV, h]
  · have h' := h
    simp only [lotB, Bool.and_eq_true] at h
    rw [show lotV r ps = lpK r.cs ps r.cs.length r.cs.length by simp [lotV, h']]
    have := (vLots_facts h.1).1
    exact ⟨fun x hx => by have := lpK_i64 h.1 (Nat.le_refl _) x hx; exact ⟨by omega, by omega⟩, by rw [lpK_len]; omega⟩

/-! The model's way. -/
def seg (cs : List Int) (a : Nat) : Nat → Int
  | 0 => 0
  | d + 1 => seg cs a d + cs.getD (a + d) 0
def nxt (ps : List Int) (n i : Nat) : Nat := if i + 1 < ps.length then ix ps (i + 1) else n
def lpS (cs ps : List Int) (n : Nat) : Nat → List Int
  | 0 => List.replicate n 0
  | i + 1 => (lpS cs ps n i).set (ix ps i) (seg cs (ix ps i) (nxt ps n i - ix ps i))
theorem lpS_len (cs ps : List Int) (n : Nat) : ∀ k, (lpS cs ps n k).length = n
  | 0 => by simp [lpS]
  | k + 1 => by rw [lpS, List.length_set, lpS_len cs ps n k]
theorem ix_val {ps : List Int} {n k : Nat} (h : ascB ps n = true) (hk : k < ps.length) : ps[k]? = some (ix ps k : Int) ∧ ix ps k < n := by
  have e := getD_mem hk
  have hm := ascB_mem h _ (List.mem_of_getElem? e)
  unfold ix
  exact ⟨by rw [e]; congr 1; omega, by omega⟩
theorem ix_lt {ps : List Int} {n i : Nat} (h : ascB ps n = true) : ∀ j, i < j → j < ps.length → ix ps i < ix ps j
  | 0, h1, _ => by omega
  | j + 1, h1, h2 => by
    have hi := incP_at (Bool.and_eq_true_iff.1 h).1 h2
    simp only [Nat.add_sub_cancel] at hi
    have a := (ix_val h (show j < ps.length by omega)).1
    have b := (ix_val h h2).1
    have ea : ps.getD j 0 = (ix ps j : Int) := by simp [List.getD, a]
    have eb : ps.getD (j + 1) 0 = (ix ps (j + 1) : Int) := by simp [List.getD, b]
    have : ix ps j < ix ps (j + 1) := by omega
    by_cases e : i = j
    · subst e; exact this
    · have := ix_lt (i := i) h j (by omega) (by omega); omega
/-- Where the part of period number i begins. -/
def bnd (ps : List Int) (n i : Nat) : Nat := if i < ps.length then ix ps i else n
theorem bnd_in {ps : List Int} {n i : Nat} (h : i < ps.length) : bnd ps n i = ix ps i := by simp [bnd, h]
theorem nxt_bnd (ps : List Int) (n i : Nat) : nxt ps n i = bnd ps n (i + 1) := rfl
theorem bnd_le {ps : List Int} {n i : Nat} (h : ascB ps n = true) : bnd ps n i ≤ n := by
  unfold bnd; split
  · have := (ix_val h (by assumption)).2; omega
  · omega
theorem bnd_lt {ps : List Int} {n i : Nat} (h : ascB ps n = true) (hi : i < ps.length) : ix ps i < bnd ps n (i + 1) := by
  unfold bnd; split
  · exact ix_lt h (i + 1) (by omega) (by assumption)
  · exact (ix_val h hi).2
theorem mem_ix {ps : List Int} {n k : Nat} (h : ascB ps n = true) : (k : Int) ∈ ps ↔ ∃ i, i < ps.length ∧ ix ps i = k := by
  constructor
  · intro hm
    obtain ⟨i, hi⟩ := List.mem_iff_getElem?.1 hm
    exact ⟨i, (List.getElem?_eq_some_iff.1 hi).1, ix_at hi⟩
  · rintro ⟨i, hi, rfl⟩
    exact List.mem_of_getElem? (ix_val h hi).1
theorem lotK_before {ps : List Int} {n : Nat} (h : ascB ps n = true) : ∀ k, k ≤ bnd ps n 0 → lotK ps k = -1
  | 0, _ => rfl
  | k + 1, hk => by
    have hn : ¬ (k : Int) ∈ ps := by
      rw [mem_ix h]
      rintro ⟨i, hi, e⟩
      have h0 : bnd ps n 0 = ix ps 0 := bnd_in (by omega)
      by_cases i0 : i = 0
      · subst i0; omega
      · have := ix_lt h i (show 0 < i by omega) hi; omega
    rw [lotK, if_neg hn]
    exact lotK_before h k (by omega)
theorem lotK_in {ps : List Int} {n i : Nat} (h : ascB ps n = true) (hi : i < ps.length) : ∀ d, ix ps i + d + 1 ≤ bnd ps n (i + 1) → lotK ps (ix ps i + d + 1) = (ix ps i : Int)
  | 0, _ => by rw [Nat.add_zero, lotK, if_pos ((mem_ix h).2 ⟨i, hi, rfl⟩)]
  | d + 1, hd => by
    have hn : ¬ ((ix ps i + (d + 1) : Nat) : Int) ∈ ps := by
      rw [mem_ix h]
      rintro ⟨j, hj, e⟩
      rcases Nat.lt_trichotomy j i with c | c | c
      · have := ix_lt h i c hi; omega
      · subst c; omega
      · have h1 : bnd ps n (i + 1) = ix ps (i + 1) := bnd_in (by omega)
        by_cases e1 : j = i + 1
        · subst e1; omega
        · have := ix_lt h j (show i + 1 < j by omega) hj; omega
    rw [show ix ps i + (d + 1) + 1 = (ix ps i + (d + 1)) + 1 by omega, lotK, if_neg hn]
    have := lotK_in h hi d (by omega)
    rwa [show ix ps i + (d + 1) = ix ps i + d + 1 by omega]
theorem lpK_before {cs ps : List Int} {n m : Nat} (h : ascB ps n = true) : ∀ k, k ≤ bnd ps n 0 → lpK cs ps m k = List.replicate m 0
  | 0, _ => rfl
  | k + 1, hk => by
    have := lotK_before h (k + 1) hk
    rw [lpK, this, if_neg (by omega)]
    exact lpK_before h k (by omega)
theorem lpS_far {cs ps : List Int} {n m : Nat} (h : ascB ps n = true) : ∀ {i : Nat}, i ≤ ps.length → ∀ j, (∀ t, t < i → ix ps t ≠ j) → (lpS cs ps m i).getD j 0 = 0
  | 0, _, j, _ => rep_getD _ _
  | i + 1, hi, j, hj => by
    rw [lpS, jSet, if_neg (fun e => hj i (by omega) e.1)]
    exact lpS_far h (by omega) j fun t ht => hj t (by omega)
theorem set_same {xs : List Int} {i : Nat} {a b : Int} : (xs.set i a).set i b = xs.set i b := by simp
theorem lpK_run {cs ps : List Int} {n i : Nat} (h : ascB ps n = true) (hi : i < ps.length) (hb : lpK cs ps n (ix ps i) = lpS cs ps n i) : ∀ d, ix ps i + (d + 1) ≤ bnd ps n (i + 1) → lpK cs ps n (ix ps i + (d + 1)) = (lpS cs ps n i).set (ix ps i) (seg cs (ix ps i) (d + 1))
  | 0, hd => by
    have hl := lotK_in h hi 0 (by omega)
    rw [show ix ps i + (0 + 1) = ix ps i + 0 + 1 by omega, lpK, hl, if_pos (by omega), hb, Nat.add_zero, Int.toNat_natCast,
      lpS_far h (by omega) _ (fun t ht => by have := ix_lt h i ht hi; omega)]
    simp [seg]
  | d + 1, hd => by
    have hl := lotK_in h hi (d + 1) (by omega)
    have ih := lpK_run h hi hb d (by omega)
    have hlen := lpS_len cs ps n i
    have hn := (ix_val h hi).2
    rw [show ix ps i + (d + 1 + 1) = ix ps i + (d + 1) + 1 by omega, lpK, hl, if_pos (by omega), ih, Int.toNat_natCast, set_same, jSet, if_pos ⟨rfl, by omega⟩]
    rfl
theorem lpK_bnd {cs ps : List Int} {n : Nat} (h : ascB ps n = true) : ∀ {i : Nat}, i ≤ ps.length → lpK cs ps n (bnd ps n i) = lpS cs ps n i
  | 0, _ => lpK_before h _ (Nat.le_refl _)
  | i + 1, hi => by
    have ih := lpK_bnd (cs := cs) h (i := i) (by omega)
    rw [bnd_in (by omega)] at ih
    have hlt := bnd_lt h (show i < ps.length by omega)
    have := lpK_run h (show i < ps.length by omega) ih (bnd ps n (i + 1) - ix ps i - 1) (by omega)
    rw [show ix ps i + (bnd ps n (i + 1) - ix ps i - 1 + 1) = bnd ps n (i + 1) by omega, show bnd ps n (i + 1) - ix ps i - 1 + 1 = nxt ps n i - ix ps i by rw [nxt_bnd]; omega] at this
    rw [this]
    rfl
theorem lpS_same {cs ps : List Int} {n : Nat} (h : ascB ps n = true) : lpS cs ps n ps.length = lpK cs ps n n := by
  rw [← lpK_bnd h (Nat.le_refl _)]
  simp [bnd]
/-- The sum of a list. -/
def sumI : List Int → Int
  | [] => 0
  | x :: t => x + sumI t
theorem sumI_set : ∀ (xs : List Int) (i : Nat) (v : Int), i < xs.length → sumI (xs.set i v) = sumI xs - xs.getD i 0 + v
  | [], i, v, h => by simp at h
  | x :: t, 0, v, h => by simp [sumI]; omega
  | x :: t, i + 1, v, h => by
    have := sumI_set t i v (by simpa using h)
    simp only [List.set_cons_succ, sumI, this, List.getD_cons_succ]
    omega
theorem sumI_rep : ∀ n, sumI (List.replicate n 0) = 0
  | 0 => rfl
  | n + 1 => by simp [List.replicate_succ, sumI, sumI_rep n]
theorem sumI_snoc (x : Int) : ∀ xs : List Int, sumI (xs ++ [x]) = sumI xs + x
  | [] => by simp [sumI]
  | y :: t => by simp only [List.cons_append, sumI, sumI_snoc x t]; omega
theorem sumI_take {xs : List Int} {k : Nat} (h : k < xs.length) : sumI (xs.take (k + 1)) = sumI (xs.take k) + xs.getD k 0 := by
  rw [List.take_add_one, getD_mem h, Option.toList_some, sumI_snoc]
/-- The demands without a lot. -/
def lost (cs ps : List Int) : Nat → Int
  | 0 => 0
  | k + 1 => if 0 ≤ lotK ps (k + 1) then lost cs ps k else lost cs ps k + cs.getD k 0
theorem sum_lpK {cs ps : List Int} {n : Nat} (hn : cs.length = n) : ∀ k, k ≤ n → sumI (lpK cs ps n k) + lost cs ps k = sumI (cs.take k)
  | 0, _ => by simp [lpK, lost, sumI_rep, sumI]
  | k + 1, hk => by
    have ih := sum_lpK (ps := ps) hn k (by omega)
    have hb := lotK_bd ps (k + 1)
    rw [sumI_take (by omega), lpK, lost]
    split
    · rw [sumI_set _ _ _ (by rw [lpK_len]; omega)]; omega
    · omega
theorem lost_ok {cs ps : List Int} (hc : ∀ x ∈ cs, 0 ≤ x) : ∀ k, k ≤ cs.length → 0 ≤ lost cs ps k ∧ (lost cs ps k = 0 ↔ lpOk cs ps k = true)
  | 0, _ => by simp [lost, lpOk]
  | k + 1, hk => by
    have ih := lost_ok (ps := ps) hc k (by omega)
    have hx := hc _ (List.mem_of_getElem? (getD_mem (show k < cs.length by omega)))
    rw [lost, lpOk_succ, Bool.and_eq_true, decide_eq_true_eq, ← ih.2]
    split <;> omega
theorem lot_sum {r : PRow} {ps : List Int} (h : vLots r = true) : (sumI (lpK r.cs ps r.cs.length r.cs.length) == sumI r.cs) = lpOk r.cs ps r.cs.length := by
  have h1 := sum_lpK (cs := r.cs) (ps := ps) rfl r.cs.length (Nat.le_refl _)
  have h2 := lost_ok (cs := r.cs) (ps := ps) (fun x hx => ((vLots_facts h).2.1 x hx).1) r.cs.length (Nat.le_refl _)
  rw [List.take_length] at h1
  rw [Bool.eq_iff_iff, ← h2.2, beq_iff_eq]
  omega
end Go.Proofs.Ytjbgjljcgdligab
