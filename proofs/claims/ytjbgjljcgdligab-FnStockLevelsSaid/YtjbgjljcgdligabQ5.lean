
/-
  Plain arithmetic on items: valid items, ascending places, sums at places, tables of values and best choices.
-/
import Derived.Test.YtjbgjljcgdligabQ2
import Derived.Test.YtjbgjljcgdligabM2
set_option linter.unusedSimpArgs false
set_option linter.unusedVariables false
namespace Go.Proofs.Ytjbgjljcgdligab
open Go.RowKit

def vWts (ws : List Int) (c : Int) : Bool := decide (ws.length ≤ 10) && (vInts ws 1 20 && inB c 0 99)
def vItems (vs ws : List Int) (c : Int) : Bool := decide (vs.length = ws.length) && (vWts ws c && vInts vs 0 99)
def incP (ps : List Int) (k : Nat) : Bool := (List.range k).all fun i => decide (i = 0 ∨ ps.getD (i - 1) 0 < ps.getD i 0)
def ascB (ps : List Int) (n : Int) : Bool := incP ps ps.length && vInts ps 0 (n - 1)
def lastV (ps : List Int) : Nat → Int
  | 0 => -1
  | k + 1 => ps.getD k 0
theorem incP_0 {ps : List Int} : incP ps 0 = true := by simp [incP]
theorem incP_1 {ps : List Int} : incP ps 1 = true := by simp [incP]
theorem incP_succ {ps : List Int} {k : Nat} : incP ps (k + 1) = (incP ps k && decide (k = 0 ∨ ps.getD (k - 1) 0 < ps.getD k 0)) := by
  unfold incP; rw [List.range_succ, List.all_append]; simp
theorem incP_yes {ps : List Int} {k : Nat} (h : incP ps k = true) (h2 : k = 0 ∨ ps.getD (k - 1) 0 < ps.getD k 0) : incP ps (k + 1) = true := by
  rw [incP_succ, h]; simpa using h2
theorem incP_at {ps : List Int} {n i : Nat} (h : incP ps n = true) (hi : i < n) : i = 0 ∨ ps.getD (i - 1) 0 < ps.getD i 0 := by
  have := List.all_eq_true.1 h i (List.mem_range.2 hi)
  simpa using this
theorem incP_mono {ps : List Int} {n k : Nat} (h : incP ps n = true) (hk : k ≤ n) : incP ps k = true := by
  unfold incP at *
  rw [List.all_eq_true] at *
  intro i hi
  exact h i (List.mem_range.2 (by have := List.mem_range.1 hi; omega))
theorem getD_mem {ps : List Int} {k : Nat} (h : k < ps.length) : ps[k]? = some (ps.getD k 0) := by
  rw [List.getD_eq_getElem?_getD, List.getElem?_eq_getElem h]; rfl
theorem all_at {p : Int → Bool} {xs : List Int} {k i : Nat} (h : (xs.take k).all p = true) (hi : i < k) (hl : i < xs.length) : p (xs.getD i 0) = true := by
  rw [List.all_eq_true] at h
  refine h _ ?_
  rw [List.mem_iff_getElem?]
  exact ⟨i, by rw [List.getElem?_take, if_pos hi]; exact getD_mem hl⟩
/-- A number behind the last one, in range. -/
theorem asc_step {ps : List Int} {k : Nat} {x m : Int} (hx : ps[k]? = some x) (h1 : incP ps k = true) (h2 : (ps.take k).all (fun x => inB x 0 (m - 1)) = true) (hin : inB x (lastV ps k + 1) (m - 1) = true) :
    incP ps (k + 1) = true ∧ (ps.take (k + 1)).all (fun x => inB x 0 (m - 1)) = true := by
  have hk : k < ps.length := (List.getElem?_eq_some_iff.1 hx).1
  have hg := getD_of hx
  obtain ⟨a, b⟩ := inB_iff.1 hin
  cases k with
  | zero => exact ⟨incP_1, all_step hx h2 (inB_iff.2 ⟨by simp [lastV] at a; omega, b⟩)⟩
  | succ j =>
    have : inB (ps.getD j 0) 0 (m - 1) = true := all_at (p := fun x => inB x 0 (m - 1)) h2 (Nat.lt_succ_self j) (by omega)
    have := inB_iff.1 this
    have e : lastV ps (j + 1) = ps.getD j 0 := rfl
    rw [e] at a
    exact ⟨incP_yes h1 (.inr (by rw [hg]; simp only [Nat.add_sub_cancel]; omega)), all_step hx h2 (inB_iff.2 ⟨by omega, b⟩)⟩
theorem asc_no {ps : List Int} {k : Nat} {x m : Int} (hx : ps[k]? = some x) (hin : inB x (lastV ps k + 1) (m - 1) = false) : ascB ps m = false := by
  have hk : k < ps.length := (List.getElem?_eq_some_iff.1 hx).1
  have hg := getD_of hx
  cases h : ascB ps m with
  | false => rfl
  | true =>
    exfalso
    simp only [ascB, Bool.and_eq_true] at h
    have a := inB_iff.1 (List.all_eq_true.1 h.2 x (List.mem_of_getElem? hx))
    have b := incP_at h.1 hk
    refine inB_not.1 hin ⟨?_, a.2⟩
    cases k with
    | zero => simp [lastV]; omega
    | succ j =>
      rw [hg] at b
      show ps.getD j 0 + 1 ≤ x
      simp only [Nat.add_sub_cancel] at b
      omega
theorem asc_end {ps : List Int} {k : Nat} {m : Int} (hk : k = ps.length) (h1 : incP ps k = true) (h2 : (ps.take k).all (fun x => inB x 0 (m - 1)) = true) : ascB ps m = true := by
  subst hk
  simp only [ascB, Bool.and_eq_true]
  exact ⟨h1, all_end (Nat.le_refl _) h2⟩
theorem inc_no {ps : List Int} {k : Nat} {m : Int} (hk : k < ps.length) (h0 : 0 < k) (h : ps.getD k 0 ≤ ps.getD (k - 1) 0) : ascB ps m = false := by
  cases h' : ascB ps m with
  | false => rfl
  | true =>
    exfalso
    simp only [ascB, Bool.and_eq_true] at h'
    have b := incP_at h'.1 hk
    omega
theorem ascB_of {ps : List Int} {m : Int} (h : incP ps ps.length = true) : ascB ps m = vInts ps 0 (m - 1) := by simp [ascB, h]
theorem ascB_mem {ps : List Int} {m : Int} (h : ascB ps m = true) : ∀ x ∈ ps, 0 ≤ x ∧ x ≤ m - 1 := by
  simp only [ascB, Bool.and_eq_true] at h
  exact fun x hx => inB_iff.1 (List.all_eq_true.1 h.2 x hx)

/-! ### Sums at places -/
def sumF (xs ps : List Int) (k : Nat) (n : Int) : Int := wrap64 (n + xs.getD (ps.getD k 0).toNat 0)
def sumW (xs ps : List Int) : Int := fold (sumF xs ps) ps.length
theorem sumF_step {xs ps : List Int} {k j : Nat} {x : Int} (hp : ps[k]? = some (j : Int)) (hx : xs[j]? = some x) : wrap64 (fold (sumF xs ps) k + x) = fold (sumF xs ps) (k + 1) := by
  show _ = sumF xs ps k (fold (sumF xs ps) k)
  unfold sumF; rw [getD_of hp, Int.toNat_natCast, getD_of hx]
theorem fold_bd {xs ps : List Int} (k : Nat) : -9223372036854775808 ≤ fold (sumF xs ps) k ∧ fold (sumF xs ps) k ≤ 9223372036854775807 := by
  cases k with
  | zero => exact ⟨by simp [fold], by simp [fold]⟩
  | succ k =>
    show -9223372036854775808 ≤ wrap64 _ ∧ wrap64 _ ≤ 9223372036854775807
    unfold wrap64; omega

/-! ### What the functions on choices answer -/
def kVal (vs ws : List Int) (c : Int) (ps : List Int) : Int := if vItems vs ws c && (ascB ps ws.length && decide (sumW ws ps ≤ c)) then sumW vs ps else -1
def isCov (ws : List Int) (c : Int) (ps : List Int) : Bool := vWts ws c && (ascB ps ws.length && decide (c < sumW ws ps))
theorem vWts_1 {ws : List Int} {c : Int} (h : ¬ ws.length ≤ 10) : vWts ws c = false := by simp [vWts, h]
theorem vWts_2 {ws : List Int} {c : Int} (h : vInts ws 1 20 = false) : vWts ws c = false := by simp [vWts, h]
theorem vWts_3 {ws : List Int} {c : Int} (h1 : ws.length ≤ 10) (h2 : vInts ws 1 20 = true) : vWts ws c = inB c 0 99 := by simp [vWts, h1, h2]
theorem vItems_1 {vs ws : List Int} {c : Int} (h : ¬ vs.length = ws.length) : vItems vs ws c = false := by simp [vItems, h]
theorem vItems_2 {vs ws : List Int} {c : Int} (h : vWts ws c = false) : vItems vs ws c = false := by simp [vItems, h]
theorem vItems_3 {vs ws : List Int} {c : Int} (h : vInts vs 0 99 = false) : vItems vs ws c = false := by simp [vItems, h]
theorem vItems_4 {vs ws : List Int} {c : Int} (h1 : vs.length = ws.length) (h2 : vWts ws c = true) : vItems vs ws c = vInts vs 0 99 := by simp [vItems, h1, h2]
theorem vItems_5 {vs ws : List Int} {c : Int} (h1 : vs.length = ws.length) (h3 : vInts vs 0 99 = true) : vItems vs ws c = vWts ws c := by simp [vItems, h1, h3]
theorem vWts_facts {ws : List Int} {c : Int} (h : vWts ws c = true) : ws.length ≤ 10 ∧ (∀ x ∈ ws, 1 ≤ x ∧ x ≤ 20) ∧ 0 ≤ c ∧ c ≤ 99 := by
  simp only [vWts, Bool.and_eq_true, decide_eq_true_eq] at h
  exact ⟨h.1, fun x hx => inB_iff.1 (List.all_eq_true.1 h.2.1 x hx), inB_iff.1 h.2.2⟩
theorem vItems_facts {vs ws : List Int} {c : Int} (h : vItems vs ws c = true) : vs.length = ws.length ∧ vWts ws c = true ∧ ∀ x ∈ vs, 0 ≤ x ∧ x ≤ 99 := by
  simp only [vItems, Bool.and_eq_true, decide_eq_true_eq] at h
  exact ⟨h.1, h.2.1, fun x hx => inB_iff.1 (List.all_eq_true.1 h.2.2 x hx)⟩
theorem kVal_1 {vs ws ps : List Int} {c : Int} (h : vItems vs ws c = false) : kVal vs ws c ps = -1 := by simp [kVal, h]
theorem kVal_2 {vs ws ps : List Int} {c : Int} (h : ascB ps ws.length = false) : kVal vs ws c ps = -1 := by simp [kVal, h]
theorem kVal_3 {vs ws ps : List Int} {c : Int} (h : c < sumW ws ps) : kVal vs ws c ps = -1 := by
  have : ¬ sumW ws ps ≤ c := by omega
  simp [kVal, this]
theorem kVal_4 {vs ws ps : List Int} {c : Int} (h1 : vItems vs ws c = true) (h2 : ascB ps ws.length = true) (h : ¬ c < sumW ws ps) : kVal vs ws c ps = sumW vs ps := by
  have : sumW ws ps ≤ c := by omega
  simp [kVal, h1, h2, this]
theorem isCov_1 {ws ps : List Int} {c : Int} (h : vWts ws c = false) : isCov ws c ps = false := by simp [isCov, h]
theorem isCov_2 {ws ps : List Int} {c : Int} (h : ascB ps ws.length = false) : isCov ws c ps = false := by simp [isCov, h]
theorem isCov_3 {ws ps : List Int} {c : Int} (h1 : vWts ws c = true) (h2 : ascB ps ws.length = true) : isCov ws c ps = decide (c < sumW ws ps) := by simp [isCov, h1, h2]

/-! ### The table of values -/
def kstep (t : List Int) (r w : Nat) (v : Int) : List Int := t.set r (max (t.getD r 0) (wrap64 (t.getD (r - w) 0 + v)))
def kin (t : List Int) (c w : Nat) (v : Int) : Nat → List Int
  | 0 => t
  | j + 1 => kstep (kin t c w v j) (c - j) w v
def kout (vs ws : List Int) (c : Nat) : Nat → List Int
  | 0 => List.replicate (c + 1) 0
  | k + 1 => kin (kout vs ws c k) c (ws.getD k 0).toNat (vs.getD k 0) (c + 1 - (ws.getD k 0).toNat)
def ktab (vs ws : List Int) (c : Nat) : List Int := kout vs ws c ws.length
theorem kstep_len (t : List Int) (r w : Nat) (v : Int) : (kstep t r w v).length = t.length := by simp [kstep]
theorem kin_len (t : List Int) (c w : Nat) (v : Int) (j : Nat) : (kin t c w v j).length = t.length := by
  induction j with
  | zero => rfl
  | succ j ih => show (kstep _ _ _ _).length = _; rw [kstep_len, ih]
theorem kout_len (vs ws : List Int) (c k : Nat) : (kout vs ws c k).length = c + 1 := by
  induction k with
  | zero => simp [kout]
  | succ k ih => show (kin _ _ _ _ _).length = _; rw [kin_len, ih]
theorem ktab_len (vs ws : List Int) (c : Nat) : (ktab vs ws c).length = c + 1 := kout_len _ _ _ _
theorem i64_wrap (x : Int) : I64 (wrap64 x) := by unfold I64 wrap64; omega
theorem i64_max {a b : Int} (ha : I64 a) (hb : I64 b) : I64 (max a b) := by unfold I64 at *; omega
theorem i64_getD {t : List Int} (h : ∀ x ∈ t, I64 x) (r : Nat) : I64 (t.getD r 0) := by
  rw [List.getD_eq_getElem?_getD]
  cases e : t[r]? with
  | none => exact ⟨by simp, by simp⟩
  | some x => exact h x (List.mem_of_getElem? e)
theorem kstep_bd {t : List Int} (h : ∀ x ∈ t, I64 x) (r w : Nat) (v : Int) : ∀ x ∈ kstep t r w v, I64 x := by
  intro x hx
  rcases List.mem_or_eq_of_mem_set hx with hx | rfl
  · exact h x hx
  · exact i64_max (i64_getD h r) (i64_wrap _)
theorem kin_bd {t : List Int} (h : ∀ x ∈ t, I64 x) (c w : Nat) (v : Int) (j : Nat) : ∀ x ∈ kin t c w v j, I64 x := by
  induction j with
  | zero => exact h
  | succ j ih => exact kstep_bd ih _ _ _
theorem kout_bd (vs ws : List Int) (c k : Nat) : ∀ x ∈ kout vs ws c k, I64 x := by
  induction k with
  | zero => intro x hx; have := (List.mem_replicate.1 hx).2; subst this; exact ⟨by simp, by simp⟩
  | succ k ih => exact kin_bd ih _ _ _ _
theorem ktab_bd (vs ws : List Int) (c : Nat) : (∀ x ∈ ktab vs ws c, I64 x) ∧ ((c : Int) ≤ 99 → (ktab vs ws c).length ≤ 1048576) :=
  ⟨kout_bd _ _ _ _, fun h => by rw [ktab_len]; omega⟩
def kTabV (vs ws : List Int) (c : Int) : List Int := if vItems vs ws c then ktab vs ws c.toNat else []
theorem kTabV_1 {vs ws : List Int} {c : Int} (h : vItems vs ws c = false) : kTabV vs ws c = [] := by simp [kTabV, h]
theorem kTabV_2 {vs ws : List Int} {c : Int} (h : vItems vs ws c = true) : kTabV vs ws c = ktab vs ws c.toNat := by simp [kTabV, h]

/-! ### What the table says -/
def kupd (w : Nat) (v : Int) (t : Nat → Int) (r : Nat) : Int := if w ≤ r then max (t r) (t (r - w) + v) else t r
theorem kupd_comm (w u : Nat) (v x : Int) (t : Nat → Int) : kupd w v (kupd u x t) = kupd u x (kupd w v t) := by
  funext r
  unfold kupd
  by_cases h1 : w ≤ r <;> by_cases h2 : u ≤ r <;> simp only [h1, h2, if_true, if_false]
  · by_cases h3 : u ≤ r - w
    · have h4 : w ≤ r - u := by omega
      have e : r - u - w = r - w - u := by omega
      simp only [h3, h4, if_true, e]
      omega
    · have h4 : ¬ w ≤ r - u := by omega
      simp only [h3, h4, if_false]
      omega
  · have h3 : ¬ u ≤ r - w := by omega
    simp only [h3, if_false]
  · have h3 : ¬ w ≤ r - u := by omega
    simp only [h3, if_false]
def foldK (vs ws : List Int) : Nat → Nat → Int
  | 0 => fun _ => 0
  | k + 1 => kupd (ws.getD k 0).toNat (vs.getD k 0) (foldK vs ws k)
def best : List Int → List Int → Nat → Int
  | v :: vs, w :: ws => kupd w.toNat v (best vs ws)
  | _, _ => fun _ => 0
theorem foldK_cons (v w : Int) (vs ws : List Int) (k : Nat) : foldK (v :: vs) (w :: ws) (k + 1) = kupd w.toNat v (foldK vs ws k) := by
  induction k with
  | zero => rfl
  | succ k ih =>
    show kupd ((w :: ws).getD (k + 1) 0).toNat ((v :: vs).getD (k + 1) 0) (foldK (v :: vs) (w :: ws) (k + 1)) = _
    rw [ih, kupd_comm]
    rfl
theorem foldK_best (vs ws : List Int) (h : vs.length = ws.length) : foldK vs ws ws.length = best vs ws := by
  induction vs generalizing ws with
  | nil =>
    cases ws with
    | nil => rfl
    | cons w ws => simp at h
  | cons v vs ih =>
    cases ws with
    | nil => simp at h
    | cons w ws =>
      show foldK (v :: vs) (w :: ws) (ws.length + 1) = kupd w.toNat v (best vs ws)
      rw [foldK_cons, ih ws (by simpa using h)]
theorem foldK_bd {vs ws : List Int} (hv : ∀ x ∈ vs, 0 ≤ x ∧ x ≤ 99) (k r : Nat) : 0 ≤ foldK vs ws k r ∧ foldK vs ws k r ≤ 99 * k := by
  induction k generalizing r with
  | zero => exact ⟨Int.le_refl _, by simp [foldK]⟩
  | succ k ih =>
    have a := ih r
    have b := ih (r - (ws.getD k 0).toNat)
    have c : 0 ≤ vs.getD k 0 ∧ vs.getD k 0 ≤ 99 := by
      rw [List.getD_eq_getElem?_getD]
      cases e : vs[k]? with
      | none => simp
      | some x => exact hv x (List.mem_of_getElem? e)
    have e : foldK vs ws (k + 1) r = if (ws.getD k 0).toNat ≤ r then max (foldK vs ws k r) (foldK vs ws k (r - (ws.getD k 0).toNat) + vs.getD k 0) else foldK vs ws k r := rfl
    rw [e]
    split <;> omega
/-- One item: the table from above down to the item's weight. -/
theorem kin_at {t : List Int} {f : Nat → Int} {c w : Nat} {v : Int} (hw : 1 ≤ w) (hl : t.length = c + 1) (hf : ∀ r, r ≤ c → t.getD r 0 = f r) (hb : ∀ r, 0 ≤ f r ∧ f r ≤ 100000) (hv : 0 ≤ v ∧ v ≤ 99) (j : Nat) (hj : j ≤ c + 1 - w) :
    ∀ r, r ≤ c → (kin t c w v j).getD r 0 = if c < r + j then kupd w v f r else f r := by
  induction j with
  | zero => intro r hr; rw [if_neg (by omega)]; exact hf r hr
  | succ j ih =>
    intro r hr
    have ih' := ih (by omega)
    have hl' : (kin t c w v j).length = c + 1 := by rw [kin_len, hl]
    show (kstep (kin t c w v j) (c - j) w v).getD r 0 = _
    unfold kstep
    rw [List.getD_eq_getElem?_getD, List.getElem?_set]
    by_cases e : c - j = r
    · rw [if_pos e, if_pos (by omega)]
      have a := ih' r hr
      have b := ih' (r - w) (by omega)
      rw [if_neg (by omega)] at a b
      rw [e, a, b, if_pos (by omega)]
      have h1 := hb (r - w)
      rw [IntWalk.wrap64_in _ ⟨by omega, by omega⟩]
      show max _ _ = _
      unfold kupd
      rw [if_pos (by omega)]
    · rw [if_neg e, ← List.getD_eq_getElem?_getD, ih' r hr]
      by_cases h : c < r + j
      · rw [if_pos h, if_pos (by omega)]
      · rw [if_neg h, if_neg (by omega)]
theorem kout_at {vs ws : List Int} {c : Nat} (hv : ∀ x ∈ vs, 0 ≤ x ∧ x ≤ 99) (hw : ∀ x ∈ ws, 1 ≤ x ∧ x ≤ 20) (h10 : ws.length ≤ 10) (k : Nat) (hk : k ≤ ws.length) (hkv : k ≤ vs.length) :
    ∀ r, r ≤ c → (kout vs ws c k).getD r 0 = foldK vs ws k r := by
  induction k with
  | zero => intro r hr; simp only [kout, foldK, List.getD_eq_getElem?_getD, List.getElem?_replicate]; rw [if_pos (by omega)]; rfl
  | succ k ih =>
    intro r hr
    have gw := hw _ (List.mem_of_getElem? (getD_mem (show k < ws.length by omega)))
    have gv := hv _ (List.mem_of_getElem? (getD_mem (show k < vs.length by omega)))
    have := kin_at (t := kout vs ws c k) (f := foldK vs ws k) (c := c) (w := (ws.getD k 0).toNat) (v := vs.getD k 0) (by omega) (kout_len _ _ _ _) (ih (by omega) (by omega))
      (fun r => by have := foldK_bd (ws := ws) hv k r; omega) gv (c + 1 - (ws.getD k 0).toNat) (Nat.le_refl _) r hr
    show (kin _ _ _ _ _).getD r 0 = kupd _ _ _ r
    rw [this]
    by_cases h : c < r + (c + 1 - (ws.getD k 0).toNat)
    · rw [if_pos h]
    · rw [if_neg h]; unfold kupd; rw [if_neg (by omega)]
theorem ktab_at {vs ws : List Int} {c : Nat} (hl : vs.length = ws.length) (hv : ∀ x ∈ vs, 0 ≤ x ∧ x ≤ 99) (hw : ∀ x ∈ ws, 1 ≤ x ∧ x ≤ 20) (h10 : ws.length ≤ 10) {r : Nat} (hr : r ≤ c) : (ktab vs ws c).getD r 0 = best vs ws r := by
  unfold ktab
  rw [kout_at hv hw h10 _ (Nat.le_refl _) (by omega) r hr, foldK_best vs ws hl]
theorem best_bd {vs ws : List Int} (hv : ∀ x ∈ vs, 0 ≤ x ∧ x ≤ 99) (r : Nat) : 0 ≤ best vs ws r ∧ best vs ws r ≤ 99 * (ws.length : Int) := by
  induction vs generalizing ws r with
  | nil => simp only [best]; omega
  | cons v vs ih =>
    cases ws with
    | nil => simp only [best]; simp
    | cons w ws =>
      have a := ih (ws := ws) (fun x hx => hv x (List.mem_cons_of_mem _ hx)) r
      have b := ih (ws := ws) (fun x hx => hv x (List.mem_cons_of_mem _ hx)) (r - w.toNat)
      have c := hv v (List.mem_cons_self ..)
      have e : best (v :: vs) (w :: ws) r = if w.toNat ≤ r then max (best vs ws r) (best vs ws (r - w.toNat) + v) else best vs ws r := rfl
      rw [e, List.length_cons]
      split <;> (push_cast; omega)
theorem best_nil (vs : List Int) (r : Nat) : best vs [] r = 0 := by cases vs <;> rfl
theorem best_zero (vs ws : List Int) (hv : ∀ x ∈ vs, 0 ≤ x ∧ x ≤ 99) (hw : ∀ x ∈ ws, 1 ≤ x ∧ x ≤ 20) : best vs ws 0 = 0 := by
  induction vs generalizing ws with
  | nil => rfl
  | cons v vs ih =>
    cases ws with
    | nil => rfl
    | cons w ws =>
      have := hw w (List.mem_cons_self ..)
      have e : best (v :: vs) (w :: ws) 0 = if w.toNat ≤ 0 then max (best vs ws 0) (best vs ws (0 - w.toNat) + v) else best vs ws 0 := rfl
      rw [e, if_neg (by omega)]
      exact ih ws (fun x hx => hv x (List.mem_cons_of_mem _ hx)) (fun x hx => hw x (List.mem_cons_of_mem _ hx))
theorem best_mono {vs ws : List Int} {r r' : Nat} (h : r ≤ r') (hv : ∀ x ∈ vs, 0 ≤ x ∧ x ≤ 99) : best vs ws r ≤ best vs ws r' := by
  induction vs generalizing ws r r' with
  | nil => exact Int.le_refl _
  | cons v vs ih =>
    cases ws with
    | nil => exact Int.le_refl _
    | cons w ws =>
      have hv' : ∀ x ∈ vs, 0 ≤ x ∧ x ≤ 99 := fun x hx => hv x (List.mem_cons_of_mem _ hx)
      have a := ih (ws := ws) h hv'
      have b := ih (ws := ws) (show r - w.toNat ≤ r' - w.toNat by omega) hv'
      have c := hv v (List.mem_cons_self ..)
      have e : ∀ r, best (v :: vs) (w :: ws) r = if w.toNat ≤ r then max (best vs ws r) (best vs ws (r - w.toNat) + v) else best vs ws r := fun _ => rfl
      rw [e, e]
      split <;> split <;> omega

/-! ### The best choice -/
def bAt (vs ws : List Int) (i r : Nat) : Int := best (vs.drop i) (ws.drop i) r
theorem bAt_step {vs ws : List Int} {i : Nat} (hl : vs.length = ws.length) (hi : i < ws.length) (r : Nat) :
    bAt vs ws i r = if (ws.getD i 0).toNat ≤ r then max (bAt vs ws (i + 1) r) (bAt vs ws (i + 1) (r - (ws.getD i 0).toNat) + vs.getD i 0) else bAt vs ws (i + 1) r := by
  unfold bAt
  have hi' : i < vs.length := by omega
  rw [List.drop_eq_getElem_cons hi, List.drop_eq_getElem_cons hi', getD_of (List.getElem?_eq_getElem hi), getD_of (List.getElem?_eq_getElem hi')]
  rfl
/-- The room that is left ahead of item k. -/
def room (vs ws : List Int) (c : Nat) : Nat → Nat
  | 0 => c
  | k + 1 => if (ws.getD k 0).toNat ≤ room vs ws c k ∧ bAt vs ws (k + 1) (room vs ws c k - (ws.getD k 0).toNat) + vs.getD k 0 = bAt vs ws k (room vs ws c k) then room vs ws c k - (ws.getD k 0).toNat else room vs ws c k
def takes (vs ws : List Int) (c k : Nat) : Bool := decide ((ws.getD k 0).toNat ≤ room vs ws c k ∧ bAt vs ws (k + 1) (room vs ws c k - (ws.getD k 0).toNat) + vs.getD k 0 = bAt vs ws k (room vs ws c k))
def chosen (vs ws : List Int) (c : Nat) : List Int := idxs (takes vs ws c) ws.length
theorem room_yes {vs ws : List Int} {c k : Nat} (h : takes vs ws c k = true) : room vs ws c (k + 1) = room vs ws c k - (ws.getD k 0).toNat := by
  simp only [takes, decide_eq_true_eq] at h
  show (if _ then _ else _) = _
  rw [if_pos h]
theorem room_no {vs ws : List Int} {c k : Nat} (h : takes vs ws c k = false) : room vs ws c (k + 1) = room vs ws c k := by
  simp only [takes, decide_eq_false_iff_not] at h
  show (if _ then _ else _) = _
  rw [if_neg h]
theorem room_le (vs ws : List Int) (c k : Nat) : room vs ws c k ≤ c := by
  induction k with
  | zero => exact Nat.le_refl _
  | succ k ih =>
    cases h : takes vs ws c k with
    | true => rw [room_yes h]; omega
    | false => rw [room_no h]; exact ih
/-- Where an item is left out, the rest is as good. -/
theorem bAt_no {vs ws : List Int} {c k : Nat} (hl : vs.length = ws.length) (hk : k < ws.length) (h : takes vs ws c k = false) : bAt vs ws (k + 1) (room vs ws c k) = bAt vs ws k (room vs ws c k) := by
  simp only [takes, decide_eq_false_iff_not] at h
  have e := bAt_step hl hk (room vs ws c k)
  by_cases hw : (ws.getD k 0).toNat ≤ room vs ws c k
  · rw [if_pos hw] at e
    have h' : ¬ bAt vs ws (k + 1) (room vs ws c k - (ws.getD k 0).toNat) + vs.getD k 0 = bAt vs ws k (room vs ws c k) := fun h2 => h ⟨hw, h2⟩
    omega
  · rw [if_neg hw] at e
    exact e.symm
end Go.Proofs.Ytjbgjljcgdligab
