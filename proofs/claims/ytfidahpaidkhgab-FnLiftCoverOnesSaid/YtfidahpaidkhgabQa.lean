
/-
  Plain lemmas on lifted covers: the coefficients, one after the other; the inequality holds.
-/
import Derived.Test.YtfidahpaidkhgabQ9
set_option linter.unusedSimpArgs false
set_option linter.unusedVariables false
namespace Go.Proofs.Ytfidahpaidkhgab
open Go.RowKit

def cset (ps : List Int) (n : Nat) : Nat → List Int
  | 0 => List.replicate n 0
  | k + 1 => (cset ps n k).set (ps.getD k 0).toNat 1
def lval (ws : List Int) (a bd : Int) (L : List Int) (j : Nat) : Int := bd - best L ws (a - ws.getD j 0).toNat
def lft (ws : List Int) (a : Int) (ps : List Int) : Nat → List Int
  | 0 => cset ps ws.length ps.length
  | j + 1 => if (j : Int) ∈ ps then lft ws a ps j else (lft ws a ps j).set j (lval ws a (ps.length - 1) (lft ws a ps j) j)
def kLift (ws : List Int) (a : Int) (ps : List Int) : List Int := if isCov ws a ps && decide (mCov ws a ps = ps) then lft ws a ps ws.length else []
theorem kLift_1 {ws ps : List Int} {a : Int} (h : isCov ws a ps = false) : kLift ws a ps = [] := by simp [kLift, h]
theorem kLift_2 {ws ps : List Int} {a : Int} (h : ¬ mCov ws a ps = ps) : kLift ws a ps = [] := by simp [kLift, h]
theorem kLift_3 {ws ps : List Int} {a : Int} (h1 : isCov ws a ps = true) (h : mCov ws a ps = ps) : kLift ws a ps = lft ws a ps ws.length := by simp [kLift, h, h1]
theorem cset_len (ps : List Int) (n k : Nat) : (cset ps n k).length = n := by
  induction k with
  | zero => simp [cset]
  | succ k ih => show (List.set _ _ _).length = _; rw [List.length_set, ih]
theorem lft_len (ws : List Int) (a : Int) (ps : List Int) (j : Nat) : (lft ws a ps j).length = ws.length := by
  induction j with
  | zero => exact cset_len _ _ _
  | succ j ih =>
    simp only [lft]
    split
    · exact ih
    · rw [List.length_set, ih]
theorem getD_set {L : List Int} {i j : Nat} {v : Int} (h : ¬ i = j) : (L.set i v).getD j 0 = L.getD j 0 := by
  simp only [List.getD_eq_getElem?_getD]; rw [List.getElem?_set, if_neg h]
theorem cset_zero {ps : List Int} {n k i : Nat} (h : ∀ m, m < k → (ps.getD m 0).toNat ≠ i) : (cset ps n k).getD i 0 = 0 := by
  induction k with
  | zero => simp only [cset, List.getD_eq_getElem?_getD, List.getElem?_replicate]; split <;> rfl
  | succ k ih =>
    simp only [cset]
    rw [getD_set (h k (by omega))]
    exact ih fun m hm => h m (by omega)
theorem cset_01 (ps : List Int) (n k : Nat) : ∀ x ∈ cset ps n k, x = 0 ∨ x = 1 := by
  induction k with
  | zero => intro x hx; exact .inl (List.mem_replicate.1 hx).2
  | succ k ih =>
    intro x hx
    rcases List.mem_or_eq_of_mem_set hx with h | h
    · exact ih x h
    · exact .inr h
theorem inc_lt {ps : List Int} {n : Nat} (h : incP ps n = true) (j d : Nat) (hk : j + d + 1 < n) : ps.getD j 0 < ps.getD (j + d + 1) 0 := by
  induction d with
  | zero =>
    have := incP_at h hk
    simp only [Nat.add_zero, Nat.add_sub_cancel] at this ⊢
    omega
  | succ d ih =>
    have a := ih (by omega)
    have b := incP_at h hk
    rw [show j + (d + 1) + 1 - 1 = j + d + 1 by omega] at b
    omega
theorem inc_lt' {ps : List Int} {n j k : Nat} (h : incP ps n = true) (hjk : j < k) (hk : k < n) : ps.getD j 0 < ps.getD k 0 := by
  have := inc_lt h j (k - j - 1) (by omega)
  rwa [show j + (k - j - 1) + 1 = k by omega] at this

/-! ### Sums of a list of zeros and ones -/
def nOnes : List Int → Int
  | [] => 0
  | v :: vs => v + nOnes vs
def sOnes : List Int → List Int → Int
  | v :: vs, w :: ws => (if v = 1 then w else 0) + sOnes vs ws
  | _, _ => 0
theorem best_ones {vs ws : List Int} (h : ∀ x ∈ vs, x = 0 ∨ x = 1) (hw : ∀ x ∈ ws, 1 ≤ x ∧ x ≤ 20) (r : Nat) : best vs ws r ≤ nOnes vs ∧ ((r : Int) < sOnes vs ws → best vs ws r ≤ nOnes vs - 1) := by
  induction vs generalizing ws r with
  | nil => simp only [best, nOnes, sOnes]; omega
  | cons v vs ih =>
    have h' : ∀ x ∈ vs, x = 0 ∨ x = 1 := fun x hx => h x (List.mem_cons_of_mem _ hx)
    have nn : 0 ≤ nOnes vs := by
      clear ih h
      induction vs with
      | nil => exact Int.le_refl _
      | cons u us ih =>
        have a := ih (fun x hx => h' x (List.mem_cons_of_mem _ hx))
        have b := h' u (List.mem_cons_self ..)
        show 0 ≤ u + nOnes us
        omega
    have hv := h v (List.mem_cons_self ..)
    cases ws with
    | nil => simp only [best, nOnes, sOnes]; omega
    | cons w ws =>
      have hw' : ∀ x ∈ ws, 1 ≤ x ∧ x ≤ 20 := fun x hx => hw x (List.mem_cons_of_mem _ hx)
      have w0 := hw w (List.mem_cons_self ..)
      have a := ih (ws := ws) h' hw' r
      have b := ih (ws := ws) h' hw' (r - w.toNat)
      have e : best (v :: vs) (w :: ws) r = if w.toNat ≤ r then max (best vs ws r) (best vs ws (r - w.toNat) + v) else best vs ws r := rfl
      have e1 : nOnes (v :: vs) = v + nOnes vs := rfl
      have e2 : sOnes (v :: vs) (w :: ws) = (if v = 1 then w else 0) + sOnes vs ws := rfl
      rw [e, e1, e2]
      rcases hv with rfl | rfl
      · rw [if_neg (show ¬ (0 : Int) = 1 by decide)]
        split <;> (constructor <;> (try intro hlt) <;> omega)
      · rw [if_pos rfl]
        split <;> (constructor <;> (try intro hlt) <;> omega)
theorem nOnes_set {vs : List Int} {i : Nat} (hi : i < vs.length) (h : vs.getD i 0 = 0) : nOnes (vs.set i 1) = nOnes vs + 1 := by
  induction vs generalizing i with
  | nil => simp at hi
  | cons v vs ih =>
    cases i with
    | zero =>
      have : v = 0 := by simpa using h
      subst this
      show 1 + nOnes vs = 0 + nOnes vs + 1
      omega
    | succ i =>
      have := ih (i := i) (by simpa using hi) (by simpa using h)
      show v + nOnes (vs.set i 1) = v + nOnes vs + 1
      omega
theorem sOnes_set {vs ws : List Int} {i : Nat} (hl : vs.length = ws.length) (hi : i < vs.length) (h : vs.getD i 0 = 0) : sOnes (vs.set i 1) ws = sOnes vs ws + ws.getD i 0 := by
  induction vs generalizing ws i with
  | nil => simp at hi
  | cons v vs ih =>
    cases ws with
    | nil => simp at hl
    | cons w ws =>
      cases i with
      | zero =>
        have : v = 0 := by simpa using h
        subst this
        show (if (1 : Int) = 1 then w else 0) + sOnes vs ws = (if (0 : Int) = 1 then w else 0) + sOnes vs ws + w
        simp; omega
      | succ i =>
        have := ih (ws := ws) (i := i) (by simpa using hl) (by simpa using hi) (by simpa using h)
        show (if v = 1 then w else 0) + sOnes (vs.set i 1) ws = (if v = 1 then w else 0) + sOnes vs ws + ws.getD i 0
        omega
theorem nOnes_rep (n : Nat) : nOnes (List.replicate n 0) = 0 := by
  induction n with
  | zero => rfl
  | succ n ih => show 0 + nOnes (List.replicate n 0) = 0; rw [ih]; rfl
theorem sOnes_rep (n : Nat) (ws : List Int) : sOnes (List.replicate n 0) ws = 0 := by
  induction n generalizing ws with
  | zero => rfl
  | succ n ih =>
    cases ws with
    | nil => rfl
    | cons w ws => show (if (0 : Int) = 1 then w else 0) + sOnes (List.replicate n 0) ws = 0; rw [ih]; simp
theorem cset_sums {ws ps : List Int} (h : ascB ps ws.length = true) (k : Nat) (hk : k ≤ ps.length) : nOnes (cset ps ws.length k) = k ∧ sOnes (cset ps ws.length k) ws = sumL ws (ps.take k) := by
  have hin : incP ps ps.length = true := by simp only [ascB, Bool.and_eq_true] at h; exact h.1
  induction k with
  | zero => exact ⟨nOnes_rep _, by rw [show ps.take 0 = [] by simp]; exact sOnes_rep _ _⟩
  | succ k ih =>
    obtain ⟨a, b⟩ := ih (by omega)
    have hkl : k < ps.length := by omega
    have hp := asc_in h _ (List.mem_of_getElem? (getD_mem hkl))
    have z : (cset ps ws.length k).getD (ps.getD k 0).toNat 0 = 0 := cset_zero fun m hm => by
      have l := inc_lt' hin hm hkl
      have q := asc_in h _ (List.mem_of_getElem? (getD_mem (show m < ps.length by omega)))
      omega
    have lt : (ps.getD k 0).toNat < (cset ps ws.length k).length := by rw [cset_len]; omega
    simp only [cset]
    rw [nOnes_set lt z, sOnes_set (cset_len _ _ _) lt z, a, b]
    refine ⟨by push_cast; rfl, ?_⟩
    rw [List.take_add_one, List.getElem?_eq_getElem hkl]
    show _ = sumL ws (ps.take k ++ [ps[k]])
    rw [sumL_append, getD_of (List.getElem?_eq_getElem hkl)]
    show _ + _ = _ + (_ + 0)
    rw [Int.add_zero]

/-! ### One item pulled out -/
theorem best_pull {vs ws : List Int} (hl : vs.length = ws.length) (j : Nat) (hj : j < ws.length) : best vs ws = kupd (ws.getD j 0).toNat (vs.getD j 0) (best (outAt vs j) (outAt ws j)) := by
  induction vs generalizing ws j with
  | nil => simp at hl; omega
  | cons v vs ih =>
    cases ws with
    | nil => simp at hl
    | cons w ws =>
      cases j with
      | zero => simp [outAt]; rfl
      | succ j =>
        have k := ih (ws := ws) (by simpa using hl) j (by simpa using hj)
        have e1 : outAt (v :: vs) (j + 1) = v :: outAt vs j := by simp [outAt]
        have e2 : outAt (w :: ws) (j + 1) = w :: outAt ws j := by simp [outAt]
        rw [e1, e2]
        show kupd w.toNat v (best vs ws) = kupd (ws.getD j 0).toNat (vs.getD j 0) (kupd w.toNat v (best (outAt vs j) (outAt ws j)))
        rw [k, kupd_comm]
theorem outAt_set (L : List Int) (j : Nat) (v : Int) : outAt (L.set j v) j = outAt L j := by
  unfold outAt
  congr 1
  · apply List.ext_getElem?
    intro i
    rw [List.getElem?_take, List.getElem?_take]
    by_cases h : i < j
    · rw [if_pos h, if_pos h, List.getElem?_set, if_neg (by omega)]
    · rw [if_neg h, if_neg h]
  · apply List.ext_getElem?
    intro i
    rw [List.getElem?_drop, List.getElem?_drop, List.getElem?_set, if_neg (by omega)]
/-- What holds of the coefficients so far. -/
def LInv (ws : List Int) (a bd : Int) (L : List Int) : Prop := L.length = ws.length ∧ (∀ x ∈ L, 0 ≤ x ∧ x ≤ 10) ∧ best L ws a.toNat ≤ bd
theorem linv_step {ws L : List Int} {a bd : Int} (ha : 0 ≤ a) (hb0 : 0 ≤ bd) (hb1 : bd ≤ 9) (hw : ∀ x ∈ ws, 1 ≤ x ∧ x ≤ 20) (h : LInv ws a bd L) {j : Nat} (hj : j < ws.length) (hz : L.getD j 0 = 0) :
    0 ≤ lval ws a bd L j ∧ LInv ws a bd (L.set j (lval ws a bd L j)) := by
  obtain ⟨h1, h2, h3⟩ := h
  have w0 := hw _ (List.mem_of_getElem? (getD_mem hj))
  have hB : ∀ x ∈ outAt L j, 0 ≤ x ∧ x ≤ 99 := fun x hx => by have := h2 x (outAt_mem x hx); omega
  have eL : ∀ r, best L ws r = best (outAt L j) (outAt ws j) r := fun r => by
    rw [best_pull h1 j hj, hz]
    have m := best_mono (ws := outAt ws j) (show r - (ws.getD j 0).toNat ≤ r by omega) hB
    have e : kupd (ws.getD j 0).toNat 0 (best (outAt L j) (outAt ws j)) r = if (ws.getD j 0).toNat ≤ r then max (best (outAt L j) (outAt ws j) r) (best (outAt L j) (outAt ws j) (r - (ws.getD j 0).toNat) + 0) else best (outAt L j) (outAt ws j) r := rfl
    rw [e]
    split <;> omega
  have eS : ∀ v r, best (L.set j v) ws r = if (ws.getD j 0).toNat ≤ r then max (best (outAt L j) (outAt ws j) r) (best (outAt L j) (outAt ws j) (r - (ws.getD j 0).toNat) + v) else best (outAt L j) (outAt ws j) r := fun v r => by
    rw [best_pull (by rw [List.length_set, h1]) j hj, outAt_set]
    have e : (L.set j v).getD j 0 = v := by simp only [List.getD_eq_getElem?_getD]; rw [List.getElem?_set, if_pos rfl, if_pos (by omega)]; rfl
    rw [e]; rfl
  rw [eL] at h3
  have b0 := best_bd (ws := outAt ws j) hB (a - ws.getD j 0).toNat
  have mo := best_mono (ws := outAt ws j) (show (a - ws.getD j 0).toNat ≤ a.toNat by omega) hB
  have ev : lval ws a bd L j = bd - best (outAt L j) (outAt ws j) (a - ws.getD j 0).toNat := by unfold lval; rw [eL]
  refine ⟨by omega, by rw [List.length_set, h1], fun x hx => ?_, ?_⟩
  · rcases List.mem_or_eq_of_mem_set hx with h | h
    · exact h2 x h
    · omega
  · rw [eS, ev]
    have er : a.toNat - (ws.getD j 0).toNat = (a - ws.getD j 0).toNat := by omega
    rw [er]
    split <;> omega
theorem lft_zero {ws ps : List Int} {a : Int} (j k : Nat) (hjk : j ≤ k) (hk : (k : Int) ∉ ps) (hps : ∀ x ∈ ps, 0 ≤ x) : (lft ws a ps j).getD k 0 = 0 := by
  induction j with
  | zero =>
    refine cset_zero fun m hm => ?_
    have q := getD_mem hm
    have q0 := hps _ (List.mem_of_getElem? q)
    intro e
    exact hk (by rw [show (k : Int) = ps.getD m 0 by omega]; exact List.mem_of_getElem? q)
  | succ j ih =>
    simp only [lft]
    split
    · exact ih (by omega)
    · rw [getD_set (by omega)]; exact ih (by omega)
theorem lft_inv {ws ps : List Int} {a : Int} (h : isCov ws a ps = true) (j : Nat) (hj : j ≤ ws.length) : LInv ws a (ps.length - 1) (lft ws a ps j) := by
  have l10 := cov_len h
  have h' := h
  simp only [isCov, Bool.and_eq_true, decide_eq_true_eq] at h'
  obtain ⟨h1, h2, h3⟩ := h'
  obtain ⟨f3, f4, f5, f6⟩ := vWts_facts h1
  have hw : ∀ x ∈ ws, 0 ≤ x ∧ x ≤ 99 := fun x hx => by have := f4 x hx; omega
  rw [sumW_eq hw (by omega)] at h3
  have hp0 : 0 < ps.length := by
    cases ps with
    | nil => simp only [sumL] at h3; omega
    | cons p ps => simp
  induction j with
  | zero =>
    obtain ⟨s1, s2⟩ := cset_sums h2 ps.length (Nat.le_refl _)
    rw [List.take_length] at s2
    have b := best_ones (cset_01 ps ws.length ps.length) f4 a.toNat
    refine ⟨cset_len _ _ _, fun x hx => ?_, ?_⟩
    · rcases cset_01 _ _ _ x hx with e | e <;> omega
    · have := b.2 (by rw [s2]; omega)
      show best (cset ps ws.length ps.length) ws a.toNat ≤ _
      omega
  | succ j ih =>
    have i := ih (by omega)
    simp only [lft]
    split
    · exact i
    · rename_i hn
      exact (linv_step f5 (by omega) (by omega) f4 i (by omega) (lft_zero j j (Nat.le_refl _) hn (fun x hx => (asc_in h2 x hx).1))).2
end Go.Proofs.Ytfidahpaidkhgab
