
/-
  Duties: pairs of a beginning and an end; plain notions of lines, rosters and bounds.
-/
import Derived.Test.YtjbgjljcgdligabEb
import Derived.Test.YtjbgjljcgdligabVi
set_option linter.unusedSimpArgs false
set_option linter.unusedVariables false
namespace Go.Proofs.Ytjbgjljcgdligab
open Go.RowKit

/-- A slice of pairs. -/
def DutS (w : World) (A : Option Addr) (n : Nat) (ds : List (Int × Int)) : Prop := ds.length = n ∧ Ints w A (n * 2) (fl ds)
theorem DutS.below {w w' : World} {A : Option Addr} {n : Nat} {ds : List (Int × Int)} (h : DutS w A n ds) (hb : Below w.heap.size w w') : DutS w' A n ds := ⟨h.1, h.2.below hb⟩
theorem DutS.len {w : World} {A : Option Addr} {n : Nat} {ds : List (Int × Int)} (h : DutS w A n ds) : ds.length = n := h.1
def dS (ds : List (Int × Int)) (k : Nat) : Int := (ds.getD k (0, 0)).1
def dE (ds : List (Int × Int)) (k : Nat) : Int := (ds.getD k (0, 0)).2
theorem DutS.at_ {w : World} {A : Option Addr} {n k : Nat} {ds : List (Int × Int)} (h : DutS w A n ds) (hk : k < n) : ∃ (b off : Nat) (x y : Int), A = some ⟨b, off, none⟩ ∧ b < w.heap.size ∧ ds[k]? = some (x, y) ∧ I64 x ∧ I64 y ∧
    w.cell? ⟨b, off + k * 2, none⟩ = some (.int .i64 x) ∧ w.cell? ⟨b, off + k * 2 + 1, none⟩ = some (.int .i64 y) := by
  obtain ⟨b, off, x0, x1, rfl, hb, h0, h1, i0, i1, c0, c1⟩ := h.2.at2 hk
  obtain ⟨p, hp⟩ : ∃ p, ds[k]? = some p := ⟨_, List.getElem?_eq_getElem (by have := h.1; omega)⟩
  obtain ⟨e0, e1⟩ := fl_at hp
  rw [h0] at e0; injection e0 with e0
  rw [h1] at e1; injection e1 with e1
  exact ⟨b, off, x0, x1, rfl, hb, by rw [hp, e0, e1], i0, i1, c0, c1⟩
theorem dut_get {ds : List (Int × Int)} {k : Nat} {x y : Int} (h : ds[k]? = some (x, y)) : dS ds k = x ∧ dE ds k = y := by
  unfold dS dE; simp [List.getD, h]
theorem fl_of : ∀ (n : Nat) (xs : List Int), xs.length = n * 2 → ∃ ds : List (Int × Int), fl ds = xs ∧ ds.length = n
  | 0, xs, h => ⟨[], by rw [List.length_eq_zero_iff.1 (by omega : xs.length = 0)]; rfl, rfl⟩
  | n + 1, a :: b :: xs, h => by
      obtain ⟨ds, h1, h2⟩ := fl_of n xs (by simp at h; omega)
      exact ⟨(a, b) :: ds, by simp [fl, h1], by simp [h2]⟩
  | n + 1, [], h => by simp at h
  | n + 1, [_], h => by simp at h; omega

theorem inB_of {x lo hi : Int} (h1 : lo ≤ x) (h2 : x ≤ hi) : inB x lo hi = true := inB_iff.2 ⟨h1, h2⟩
/-- One duty by itself. -/
def dvB (s e : Int) : Bool := inB s 0 200 && inB e (s + 1) 200
theorem dvB_iff {s e : Int} : dvB s e = true ↔ 0 ≤ s ∧ s < e ∧ e ≤ 200 := by
  unfold dvB inB; simp; omega
def dOk (ds : List (Int × Int)) (k : Nat) : Bool := dvB (dS ds k) (dE ds k) && decide (k = 0 ∨ dS ds (k - 1) ≤ dS ds k)
def dAll (ds : List (Int × Int)) (k : Nat) : Bool := (List.range k).all (dOk ds)
theorem dAll_0 (ds : List (Int × Int)) : dAll ds 0 = true := rfl
theorem dAll_succ (ds : List (Int × Int)) (k : Nat) : dAll ds (k + 1) = (dAll ds k && dOk ds k) := by
  simp [dAll, List.range_succ, List.all_append]
theorem dAll_yes {ds : List (Int × Int)} {k : Nat} (h : dAll ds k = true) (h2 : dOk ds k = true) : dAll ds (k + 1) = true := by rw [dAll_succ, h, h2]; rfl
theorem dAll_at {ds : List (Int × Int)} {n k : Nat} (h : dAll ds n = true) (hk : k < n) : dOk ds k = true := by
  unfold dAll at h; rw [List.all_eq_true] at h; exact h k (List.mem_range.2 hk)
theorem dAll_no {ds : List (Int × Int)} {n k : Nat} (hk : k < n) (h : dOk ds k = false) : dAll ds n = false := by
  cases h2 : dAll ds n
  · rfl
  · rw [dAll_at h2 hk] at h; cases h
/-- Valid duties. -/
def vDut (ds : List (Int × Int)) : Bool := decide (ds.length ≤ 6) && dAll ds ds.length
theorem vDut_1 {ds : List (Int × Int)} (h : ¬ ds.length ≤ 6) : vDut ds = false := by simp [vDut, h]
theorem vDut_2 {ds : List (Int × Int)} {k : Nat} (hk : k < ds.length) (h : dOk ds k = false) : vDut ds = false := by simp [vDut, dAll_no hk h]
theorem vDut_3 {ds : List (Int × Int)} {k : Nat} (hl : ds.length ≤ 6) (hk : k = ds.length) (h : dAll ds k = true) : vDut ds = true := by subst hk; simp [vDut, h, hl]
theorem vDut_4 {ds : List (Int × Int)} {k : Nat} (hk : k = ds.length) (h : dAll ds k = true) : vDut ds = decide (ds.length ≤ 6) := by subst hk; simp [vDut, h]
theorem dOk_of {ds : List (Int × Int)} {k : Nat} {x y : Int} (h : ds[k]? = some (x, y)) (hv : dvB x y = true) (hp : k = 0 ∨ dS ds (k - 1) ≤ x) : dOk ds k = true := by
  obtain ⟨e1, e2⟩ := dut_get h
  unfold dOk; rw [e1, e2, hv]; simpa using hp
theorem dOk_no1 {ds : List (Int × Int)} {k : Nat} {x y : Int} (h : ds[k]? = some (x, y)) (hv : dvB x y = false) : dOk ds k = false := by
  obtain ⟨e1, e2⟩ := dut_get h
  unfold dOk; rw [e1, e2, hv]; rfl
theorem dOk_no2 {ds : List (Int × Int)} {k : Nat} {x y p q : Int} (h : ds[k]? = some (x, y)) (h2 : ds[k - 1]? = some (p, q)) (h0 : 0 < k) (hl : x < p) : dOk ds k = false := by
  obtain ⟨e1, e2⟩ := dut_get h
  obtain ⟨e3, e4⟩ := dut_get h2
  unfold dOk
  rw [e1, e2, e3]
  have : decide (k = 0 ∨ p ≤ x) = false := by simp; omega
  rw [this, Bool.and_false]
theorem vDut_facts {ds : List (Int × Int)} (h : vDut ds = true) : ds.length ≤ 6 ∧ ∀ k, k < ds.length → 0 ≤ dS ds k ∧ dS ds k < dE ds k ∧ dE ds k ≤ 200 := by
  unfold vDut at h
  obtain ⟨h1, h2⟩ := Bool.and_eq_true_iff.1 h
  refine ⟨by simpa using h1, fun k hk => ?_⟩
  have := dAll_at h2 hk
  unfold dOk at this
  exact dvB_iff.1 (Bool.and_eq_true_iff.1 this).1
theorem vDut_sorted {ds : List (Int × Int)} (h : vDut ds = true) {k : Nat} (hk : k + 1 < ds.length) : dS ds k ≤ dS ds (k + 1) := by
  unfold vDut at h
  obtain ⟨h1, h2⟩ := Bool.and_eq_true_iff.1 h
  have := dAll_at h2 hk
  unfold dOk at this
  have := (Bool.and_eq_true_iff.1 this).2
  simpa using this
theorem vDut_get {ds : List (Int × Int)} (h : vDut ds = true) {k : Nat} {x y : Int} (hx : ds[k]? = some (x, y)) : 0 ≤ x ∧ x < y ∧ y ≤ 200 := by
  obtain ⟨e1, e2⟩ := dut_get hx
  have := (vDut_facts h).2 k (List.getElem?_eq_some_iff.1 hx).1
  rw [e1, e2] at this
  exact this

/-- How many numbers below k p holds of. -/
def dCnt (p : Nat → Bool) : Nat → Int
  | 0 => 0
  | k + 1 => if p k then dCnt p k + 1 else dCnt p k
theorem dCnt_yes {p : Nat → Bool} {k : Nat} (h : p k = true) : dCnt p (k + 1) = dCnt p k + 1 := by rw [dCnt, if_pos h]
theorem dCnt_no {p : Nat → Bool} {k : Nat} (h : p k = false) : dCnt p (k + 1) = dCnt p k := by rw [dCnt, if_neg (by simp [h])]
theorem dCnt_bd (p : Nat → Bool) : ∀ k, 0 ≤ dCnt p k ∧ dCnt p k ≤ k
  | 0 => by simp [dCnt]
  | k + 1 => by
    have := dCnt_bd p k
    rw [dCnt]; split <;> omega
def dHit (ds : List (Int × Int)) (rest s : Int) (k : Nat) : Bool := decide (dS ds k ≤ s ∧ s < dE ds k + rest)
theorem dHit_at {ds : List (Int × Int)} {rest s x y : Int} {k : Nat} (h : ds[k]? = some (x, y)) : dHit ds rest s k = decide (x ≤ s ∧ s < y + rest) := by
  obtain ⟨e1, e2⟩ := dut_get h
  unfold dHit; rw [e1, e2]
def dMost (ds : List (Int × Int)) (rest : Int) : Nat → Int
  | 0 => 0
  | k + 1 => max (dMost ds rest k) (dCnt (dHit ds rest (dS ds k)) ds.length)
theorem dMost_step {ds : List (Int × Int)} {rest x y : Int} {k : Nat} (h : ds[k]? = some (x, y)) : dMost ds rest (k + 1) = max (dMost ds rest k) (dCnt (dHit ds rest x) ds.length) := by
  rw [dMost, (dut_get h).1]
theorem dMost_bd (ds : List (Int × Int)) (rest : Int) : ∀ k, 0 ≤ dMost ds rest k ∧ dMost ds rest k ≤ ds.length
  | 0 => by simp [dMost]
  | k + 1 => by
    have := dMost_bd ds rest k
    have := dCnt_bd (dHit ds rest (dS ds k)) ds.length
    rw [dMost]; omega
def crewB (ds : List (Int × Int)) (rest : Int) : Int := if vDut ds && inB rest 0 200 then dMost ds rest ds.length else -1
theorem crewB_1 {ds : List (Int × Int)} {rest : Int} (h : vDut ds = false) : crewB ds rest = -1 := by simp [crewB, h]
theorem crewB_2 {ds : List (Int × Int)} {rest : Int} (h : inB rest 0 200 = false) : crewB ds rest = -1 := by simp [crewB, h]
theorem crewB_3 {ds : List (Int × Int)} {rest : Int} (h : vDut ds = true) (h2 : inB rest 0 200 = true) : crewB ds rest = dMost ds rest ds.length := by simp [crewB, h, h2]
end Go.Proofs.Ytjbgjljcgdligab
