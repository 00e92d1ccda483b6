
/-
  Plain lemmas for the promises on best choices: what is chosen fits; choices without values.
-/
import Derived.Test.YtfidahpaidkhgabQ7
set_option linter.unusedSimpArgs false
set_option linter.unusedVariables false
namespace Go.Proofs.Ytfidahpaidkhgab
open Go.RowKit

theorem sum_room {vs ws : List Int} {c : Nat} (hw : ∀ x ∈ ws, 1 ≤ x ∧ x ≤ 20) (k : Nat) (hk : k ≤ ws.length) : sumL ws (idxs (takes vs ws c) k) + room vs ws c k = c := by
  induction k with
  | zero => show 0 + ((room vs ws c 0 : Nat) : Int) = _; rw [Int.zero_add]; rfl
  | succ k ih =>
    have a := ih (by omega)
    cases h : takes vs ws c k with
    | true =>
      rw [idxs_yes h, sumL_append, room_yes h]
      simp only [takes, decide_eq_true_eq] at h
      have g := hw _ (List.mem_of_getElem? (getD_mem (show k < ws.length by omega)))
      have e : sumL ws [(k : Int)] = ws.getD k 0 := by show ws.getD (k : Int).toNat 0 + 0 = _; rw [Int.toNat_natCast, Int.add_zero]
      rw [e]
      omega
    | false => rw [idxs_no h, room_no h]; exact a
theorem kVal_best {vs ws : List Int} {c : Int} (h : vItems vs ws c = true) : kVal vs ws c (kBestL vs ws c) = kBestV vs ws c := by
  obtain ⟨f1, f2, f0⟩ := vItems_facts h
  obtain ⟨f3, f4, f5, f6⟩ := vWts_facts f2
  obtain ⟨e1, e2⟩ := kBest_2 h
  have l := idxs_len (takes vs ws c.toNat) ws.length
  have hs : sumW ws (chosen vs ws c.toNat) ≤ c := by
    rw [sumW_eq (fun x hx => by have := f4 x hx; omega) (by unfold chosen; omega)]
    have := sum_room (vs := vs) (c := c.toNat) f4 ws.length (Nat.le_refl _)
    unfold chosen
    omega
  have hk : kVal vs ws c (chosen vs ws c.toNat) = sumW vs (chosen vs ws c.toNat) := kVal_4 h (idxs_asc _ _) (by omega)
  rw [e1, e2, hk]
  exact sum_chosen f1 f3 f0
theorem best_no_values {vs ws : List Int} (h : ∀ x ∈ vs, x = 0) (r : Nat) : best vs ws r = 0 := by
  induction vs generalizing ws r with
  | nil => rfl
  | cons v vs ih =>
    cases ws with
    | nil => rfl
    | cons w ws =>
      have h' : ∀ x ∈ vs, x = 0 := fun x hx => h x (List.mem_cons_of_mem _ hx)
      have e : best (v :: vs) (w :: ws) r = if w.toNat ≤ r then max (best vs ws r) (best vs ws (r - w.toNat) + v) else best vs ws r := rfl
      rw [e, ih h', ih h', h v (List.mem_cons_self ..)]
      split <;> rfl
theorem takes_no_values (ws : List Int) (c k : Nat) : takes (List.replicate ws.length 0) ws c k = decide ((ws.getD k 0).toNat ≤ room (List.replicate ws.length 0) ws c k) := by
  have z : ∀ i r, bAt (List.replicate ws.length 0) ws i r = 0 := fun i r => best_no_values (fun x hx => (List.mem_replicate.1 (List.mem_of_mem_drop hx)).2) r
  have d : (List.replicate ws.length (0 : Int)).getD k 0 = 0 := by
    rw [List.getD_eq_getElem?_getD, List.getElem?_replicate]; split <;> rfl
  unfold takes
  rw [z, z, d]
  simp
theorem vItems_no_values {vs ws : List Int} {c : Int} (h : vItems vs ws c = true) : vItems (List.replicate ws.length 0) ws c = true := by
  obtain ⟨f1, f2, f0⟩ := vItems_facts h
  simp only [vItems, Bool.and_eq_true, decide_eq_true_eq]
  exact ⟨by simp, f2, List.all_eq_true.2 fun x hx => by have := (List.mem_replicate.1 hx).2; subst this; rfl⟩
theorem kBest_no_values {vs ws : List Int} {c : Int} (h : vItems vs ws c = true) : kBestL (List.replicate ws.length 0) ws c = idxs (takes (List.replicate ws.length 0) ws c.toNat) ws.length ∧ kBestV (List.replicate ws.length 0) ws c = 0 := by
  obtain ⟨e1, e2⟩ := kBest_2 (vItems_no_values h)
  exact ⟨e1, by rw [e2]; exact best_no_values (fun x hx => (List.mem_replicate.1 hx).2) _⟩

/-! ### The last item -/
theorem foldK_take {vs ws : List Int} {m : Nat} (k : Nat) (hk : k ≤ m) : foldK (vs.take m) (ws.take m) k = foldK vs ws k := by
  induction k with
  | zero => rfl
  | succ k ih =>
    show kupd ((ws.take m).getD k 0).toNat ((vs.take m).getD k 0) (foldK (vs.take m) (ws.take m) k) = kupd (ws.getD k 0).toNat (vs.getD k 0) (foldK vs ws k)
    rw [ih (by omega)]
    simp only [List.getD_eq_getElem?_getD, List.getElem?_take]
    rw [if_pos (by omega), if_pos (by omega)]
theorem best_last {vs ws : List Int} {m : Nat} (h : vs.length = ws.length) (hm : m + 1 = ws.length) (r : Nat) :
    best vs ws r = if (ws.getD m 0).toNat ≤ r then max (best (vs.take m) (ws.take m) r) (best (vs.take m) (ws.take m) (r - (ws.getD m 0).toNat) + vs.getD m 0) else best (vs.take m) (ws.take m) r := by
  have e := foldK_best vs ws h
  have e2 := foldK_best (vs.take m) (ws.take m) (by rw [List.length_take, List.length_take, h])
  rw [List.length_take, Nat.min_eq_left (by omega), foldK_take m (Nat.le_refl _)] at e2
  rw [← e, ← hm, ← e2]
  rfl
end Go.Proofs.Ytfidahpaidkhgab
