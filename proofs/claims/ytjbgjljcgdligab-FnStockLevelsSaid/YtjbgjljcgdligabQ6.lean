
/-
  Plain arithmetic on best choices: what is chosen adds up to the best value.
-/
import Derived.Test.YtjbgjljcgdligabQ5
set_option linter.unusedSimpArgs false
set_option linter.unusedVariables false
namespace Go.Proofs.Ytjbgjljcgdligab
open Go.RowKit

theorem fold_congr {f g : Nat → Int → Int} {k : Nat} (h : ∀ i, i < k → f i = g i) : fold f k = fold g k := by
  induction k with
  | zero => rfl
  | succ k ih =>
    show f k (fold f k) = g k (fold g k)
    rw [ih (fun i hi => h i (by omega)), h k (by omega)]
theorem sumW_nil (xs : List Int) : sumW xs [] = 0 := rfl
theorem sumW_snoc (xs ps : List Int) (p : Int) : sumW xs (ps ++ [p]) = wrap64 (sumW xs ps + xs.getD p.toNat 0) := by
  unfold sumW
  rw [List.length_append]
  show sumF xs (ps ++ [p]) ps.length (fold (sumF xs (ps ++ [p])) ps.length) = _
  have e : fold (sumF xs (ps ++ [p])) ps.length = fold (sumF xs ps) ps.length := fold_congr fun i hi => by
    funext n
    unfold sumF
    rw [List.getD_eq_getElem?_getD, List.getD_eq_getElem?_getD, List.getElem?_append_left hi, ← List.getD_eq_getElem?_getD, ← List.getD_eq_getElem?_getD]
  rw [e]
  unfold sumF
  rw [show (ps ++ [p]).getD ps.length 0 = p by simp [List.getD_eq_getElem?_getD]]
theorem bAt_bd {vs ws : List Int} (hv : ∀ x ∈ vs, 0 ≤ x ∧ x ≤ 99) (hl : ws.length ≤ 10) (i r : Nat) : 0 ≤ bAt vs ws i r ∧ bAt vs ws i r ≤ 990 := by
  have := best_bd (vs := vs.drop i) (ws := ws.drop i) (fun x hx => hv x (List.mem_of_mem_drop hx)) r
  rw [List.length_drop] at this
  unfold bAt
  omega
theorem bAt_end {vs ws : List Int} (h : vs.length = ws.length) (r : Nat) : bAt vs ws ws.length r = 0 := by
  unfold bAt
  rw [List.drop_length]
  exact best_nil _ _
theorem bAt_zero (vs ws : List Int) (r : Nat) : bAt vs ws 0 r = best vs ws r := rfl
theorem takes_iff {vs ws : List Int} {c k r W : Nat} {v : Int} (hr : r = room vs ws c k) (hx : ws[k]? = some (W : Int)) (hv : vs[k]? = some v) : takes vs ws c k = decide (W ≤ r ∧ bAt vs ws (k + 1) (r - W) + v = bAt vs ws k r) := by
  unfold takes
  rw [getD_of hx, getD_of hv, Int.toNat_natCast, ← hr]
theorem takes_big {vs ws : List Int} {c k r W : Nat} {v : Int} (hr : r = room vs ws c k) (hx : ws[k]? = some (W : Int)) (hv : vs[k]? = some v) (h : ¬ W ≤ r) : takes vs ws c k = false := by
  rw [takes_iff hr hx hv]; simp [h]
theorem takes_eq {vs ws : List Int} {c k r W : Nat} {v : Int} (hr : r = room vs ws c k) (hx : ws[k]? = some (W : Int)) (hv : vs[k]? = some v) (h : W ≤ r) (h2 : bAt vs ws (k + 1) (r - W) + v = bAt vs ws k r) : takes vs ws c k = true := by
  rw [takes_iff hr hx hv]; simp [h, h2]
theorem takes_ne {vs ws : List Int} {c k r W : Nat} {v : Int} (hr : r = room vs ws c k) (hx : ws[k]? = some (W : Int)) (hv : vs[k]? = some v) (h2 : ¬ bAt vs ws (k + 1) (r - W) + v = bAt vs ws k r) : takes vs ws c k = false := by
  rw [takes_iff hr hx hv]; simp [h2]
theorem sum_chosen_k {vs ws : List Int} {c : Nat} (hl : vs.length = ws.length) (h10 : ws.length ≤ 10) (hv : ∀ x ∈ vs, 0 ≤ x ∧ x ≤ 99) (k : Nat) (hk : k ≤ ws.length) :
    sumW vs (idxs (takes vs ws c) k) + bAt vs ws k (room vs ws c k) = best vs ws c ∧ 0 ≤ sumW vs (idxs (takes vs ws c) k) ∧ sumW vs (idxs (takes vs ws c) k) ≤ 99 * k := by
  induction k with
  | zero =>
    have e : idxs (takes vs ws c) 0 = [] := rfl
    rw [e, sumW_nil]
    exact ⟨by rw [bAt_zero, Int.zero_add]; rfl, Int.le_refl _, Int.le_refl _⟩
  | succ k ih =>
    obtain ⟨a, b0, b1⟩ := ih (by omega)
    cases h : takes vs ws c k with
    | true =>
      rw [idxs_yes h, sumW_snoc, room_yes h, Int.toNat_natCast]
      have g := hv _ (List.mem_of_getElem? (getD_mem (show k < vs.length by omega)))
      rw [IntWalk.wrap64_in _ ⟨by omega, by omega⟩]
      simp only [takes, decide_eq_true_eq] at h
      exact ⟨by omega, by omega, by omega⟩
    | false =>
      rw [idxs_no h, room_no h, bAt_no hl (by omega) h]
      exact ⟨a, b0, by omega⟩
theorem sum_chosen {vs ws : List Int} {c : Nat} (hl : vs.length = ws.length) (h10 : ws.length ≤ 10) (hv : ∀ x ∈ vs, 0 ≤ x ∧ x ≤ 99) : sumW vs (chosen vs ws c) = best vs ws c := by
  have := (sum_chosen_k (c := c) hl h10 hv ws.length (Nat.le_refl _)).1
  rw [bAt_end hl] at this
  unfold chosen
  omega
theorem chosen_bd {vs ws : List Int} {c : Nat} (h : ws.length ≤ 10) : (∀ x ∈ chosen vs ws c, I64 x) ∧ (chosen vs ws c).length ≤ 1048576 :=
  ⟨fun x hx => by have := idxs_mem x hx; exact ⟨by omega, by omega⟩, by have := idxs_len (takes vs ws c) ws.length; unfold chosen; omega⟩
theorem chosen_mem {vs ws : List Int} {c : Nat} : ∀ x ∈ chosen vs ws c, 0 ≤ x ∧ x < ws.length := fun x hx => idxs_mem x hx
def kBestL (vs ws : List Int) (c : Int) : List Int := if vItems vs ws c then chosen vs ws c.toNat else []
def kBestV (vs ws : List Int) (c : Int) : Int := if vItems vs ws c then best vs ws c.toNat else -1
theorem kBest_1 {vs ws : List Int} {c : Int} (h : vItems vs ws c = false) : kBestL vs ws c = [] ∧ kBestV vs ws c = -1 := by simp [kBestL, kBestV, h]
theorem kBest_2 {vs ws : List Int} {c : Int} (h : vItems vs ws c = true) : kBestL vs ws c = chosen vs ws c.toNat ∧ kBestV vs ws c = best vs ws c.toNat := by simp [kBestL, kBestV, h]
theorem Ints.dropN {w : World} {b off n k : Nat} {xs : List Int} (h : Ints w (some ⟨b, off, none⟩) n xs) (hk : k ≤ n) : Ints w (some ⟨b, off + k, none⟩) (n - k) (xs.drop k) := by
  refine ⟨by rw [List.length_drop, h.1], fun x hx => h.2.1 x (List.mem_of_mem_drop hx), fun hn => ?_⟩
  obtain ⟨b', off', e, hc⟩ := h.2.2 (by omega)
  injection e with e
  injection e with e1 e2
  subst e1 e2
  refine ⟨b, off + k, rfl, fun i x hx => ?_⟩
  rw [List.getElem?_drop] at hx
  have := hc (k + i) x hx
  rwa [← Nat.add_assoc] at this
theorem Ints.dropA {w : World} {b off n k : Nat} {A : Option Addr} {xs : List Int} (h : Ints w (some ⟨b, off, none⟩) n xs) (hk : k ≤ n) (hA : A = some ⟨b, off + k, none⟩ ∨ k = n) : Ints w A (n - k) (xs.drop k) := by
  rcases hA with rfl | rfl
  · exact h.dropN hk
  · rw [← h.1, Nat.sub_self, List.drop_length]
    exact Ints.nil _ _
theorem Ints.drop_all {w w0 : World} {n k : Nat} {A A0 : Option Addr} {xs : List Int} (h : Ints w0 A0 n xs) (hk : k = n) : Ints w A (n - k) (xs.drop k) := by
  subst hk
  rw [← h.1, Nat.sub_self, List.drop_length]
  exact Ints.nil _ _
end Go.Proofs.Ytjbgjljcgdligab
