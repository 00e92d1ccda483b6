
/-
  A region walked by hand whose last operation may write what the others have read: the word on the worlds is not asked behind that last one.
-/
import Derived.Test.YtjbgjljcgdligabHr
import Derived.StillTailTactics
set_option linter.unusedSimpArgs false
set_option linter.unusedVariables false
namespace Go.Proofs.Ytjbgjljcgdligab
open Go.RowKit

section
variable {P : Program} {ops : Array Oper} {Q : Exit → Act → World → Prop} {md : Region.Mode} {S : World → Prop} {z : Nat}
/-- Operation z waits for operation i, over operations that have not come up. -/
def stuckE (md : Region.Mode) (ops : Array Oper) (l : Array Bool) (z : Nat) : Nat → Nat → Bool
  | 0, i => Region.waitsFor md ops z i
  | f + 1, i => Region.waitsFor md ops z i || (List.range ops.size).any fun p => !(l.getD p true) && (Region.waitsFor md ops p i && stuckE md ops l z f p)
theorem unlisted {l : Array Bool} {i : Nat} (h : l.getD i true = false) : l.getD i false = false := by
  by_cases hin : i < l.size
  · simpa [hin] using h
  · simp [Array.getElem?_eq_none (Nat.le_of_not_lt hin)]
theorem waits_not_ready {l : Array Bool} {j i : Nat} (h : Region.waitsFor md ops j i = true) (hi : l.getD i true = false) : j ∉ Region.ready md ops l := by
  intro hj
  obtain ⟨oj, hoj, e, he, hb, hon⟩ := Region.waitsFor_spec h
  obtain ⟨-, o, ho, hall⟩ := mem_ready.1 hj
  rw [hoj] at ho
  injection ho with ho
  subst ho
  have := hall e he hb
  rw [hon, unlisted hi] at this
  cases this
theorem stuckE_step {l : Array Bool} {j : Nat} (hj : j ∈ Region.ready md ops l) : ∀ (f i : Nat), stuckE md ops l z f i = true → l.getD i true = false → j ≠ i → j ≠ z ∧ stuckE md ops (l.setIfInBounds j true) z f i = true
  | 0, i, h, hi, _ => ⟨fun c => waits_not_ready h hi (c ▸ hj), h⟩
  | f + 1, i, h, hi, hne => by
    unfold stuckE at h ⊢
    rcases Bool.or_eq_true_iff.1 h with h | h
    · exact ⟨fun c => waits_not_ready h hi (c ▸ hj), by rw [h]; rfl⟩
    · obtain ⟨p, hp, hq⟩ := List.any_eq_true.1 h
      obtain ⟨h1, hq⟩ := Bool.and_eq_true_iff.1 hq
      obtain ⟨h2, h3⟩ := Bool.and_eq_true_iff.1 hq
      have hpu : l.getD p true = false := by simpa using h1
      have hjp : j ≠ p := fun c => waits_not_ready h2 hi (c ▸ hj)
      obtain ⟨k1, k2⟩ := stuckE_step hj f p h3 hpu hjp
      refine ⟨k1, Bool.or_eq_true_iff.2 (.inr (List.any_eq_true.2 ⟨p, hp, ?_⟩))⟩
      rw [getD_set_ne true hjp, hpu, h2, k2]
      rfl
/-- In whatever order the operations come up; S holds behind each but z. -/
def anyE (P : Program) (md : Region.Mode) (ops : Array Oper) (Q : Exit → Act → World → Prop) (S : World → Prop) (z : Nat) : Nat → Array Bool → Act → World → Prop
  | 0, l, a, w => Region.ready md ops l = [] ∧ Q .normal a w
  | f + 1, l, a, w => (Region.ready md ops l = [] → Q .normal a w) ∧ ∀ i ∈ Region.ready md ops l, wpOp P ops Q i (fun a' w' => (i ≠ z → S w') ∧ anyE P md ops Q S z f (l.setIfInBounds i true) a' w') a w
theorem anyE_any : ∀ (f : Nat) (l : Array Bool) (a : Act) (w : World), anyE P md ops Q S z f l a w → wpAny P md ops Q f l a w
  | 0, _, _, _, h => h
  | f + 1, _, _, _, h => ⟨h.1, fun i hi => wpOp_mono (fun a' w' k => anyE_any f _ a' w' k.2) (h.2 i hi)⟩
/-- An operation that z waits for, and that yields the same in all worlds that meet S, may be taken at once. -/
theorem anyE_put {i : Nat} {oi : Oper} {v : Value} {d : Nat} (hi : ops[i]? = some oi) (hsel : ∀ (j : Nat) (o : Oper) cs b, ops[j]? = some o → o.op ≠ .select cs b) (hQ : ∀ c a w, Q (.panic c) (a.put oi.dst v) w → Q (.panic c) a w) (f : Nat) :
    ∀ (l : Array Bool) (a : Act) (w : World), (∀ j oj, ops[j]? = some oj → j ≠ i → l.getD j true = false → (∀ e ∈ oj.after, Region.binds md e = true → e.on ≠ i) → oi.apart ops oj = true) → i ∈ Region.ready md ops l → stuckE md ops l z d i = true → YieldsIf P ops S oi v a → S w →
      anyE P md ops Q S z f (l.setIfInBounds i true) (a.put oi.dst v) w → anyE P md ops Q S z (f + 1) l a w := by
  induction f with
  | zero =>
    intro l a w hap hr hst hy hS H
    refine ⟨fun e => absurd hr (by rw [e]; simp), fun j hj => ?_⟩
    rcases Decidable.em (j = i) with rfl | hne
    · exact hy.wpOp hi hS ⟨fun _ => hS, H⟩
    · exact absurd (ready_mono hj hne) (by rw [H.1]; simp)
  | succ f ih =>
    intro l a w hap hr hst hy hS H
    refine ⟨fun e => absurd hr (by rw [e]; simp), fun j hj => ?_⟩
    rcases Decidable.em (j = i) with rfl | hne
    · exact hy.wpOp hi hS ⟨fun _ => hS, H⟩
    · have step := H.2 j (ready_mono hj hne)
      have still : i ∈ Region.ready md ops (l.setIfInBounds j true) := ready_mono hr (Ne.symm hne)
      have hiu := (mem_ready.1 hr).1
      obtain ⟨jz, st'⟩ := stuckE_step hj d i hst hiu hne
      obtain ⟨hun, oj, hoj, hall⟩ := mem_ready.1 hj
      have hno : ∀ e ∈ oj.after, Region.binds md e = true → e.on ≠ i := by
        intro e he hb c
        have t := hall e he hb
        rw [c, unlisted hiu] at t
        cases t
      have both := wpOp_putIf hoj (hap j oj hoj hne hun hno) (fun cs b => hsel i oi cs b hi) (fun cs b => hsel j oj cs b hoj) hQ hy step
      refine wpOp_mono (fun a' w' k => ?_) both
      obtain ⟨ky, kS, kH⟩ := k
      have hS' := kS jz
      refine ⟨fun _ => hS', ih _ a' w' (fun k ok hk hki hku hkn => hap k ok hk hki ?_ hkn) still st' ky hS' ?_⟩
      · by_cases hjk : j = k
        · subst hjk; exact hun
        · rwa [getD_set_ne true hjk] at hku
      · rw [Array.setIfInBounds_comm _ _ hne]; exact kH
theorem anyE_take {i : Nat} {oi : Oper} {v : Value} {f : Nat} {l : Array Bool} {a : Act} {w : World} (hi : ops[i]? = some oi) (hs : Region.noSelect ops = true) (hf : Region.free md ops l i = true) (hr : (Region.ready md ops l).contains i = true)
    (hst : stuckE md ops l z ops.size i = true) (hQ : ∀ c a w, Q (.panic c) (a.put oi.dst v) w → Q (.panic c) a w) (hy : YieldsIf P ops S oi v a) (hS : S w) (h : anyE P md ops Q S z f (l.setIfInBounds i true) (a.put oi.dst v) w) : anyE P md ops Q S z (f + 1) l a w :=
  anyE_put hi (Region.noSelect_spec hs) hQ f l a w (Region.free_spec hi hf) (by simpa using hr) hst hy hS h
theorem skipE {i : Nat} {d : Tmp} {f : Nat} {l : Array Bool} {a : Act} {w : World} (hi : ∃ o, ops[i]? = some o ∧ o.dst = some d ∧ Region.wanted o (yielded ops a.tmps) = false)
    (hs : Region.noSelect ops = true) (hf : Region.free md ops l i = true) (hr : (Region.ready md ops l).contains i = true) (hst : stuckE md ops l z ops.size i = true)
    (hQ : ∀ c a w, Q (.panic c) (a.put (some d) undef) w → Q (.panic c) a w) (hS : S w) (h : anyE P md ops Q S z f (l.setIfInBounds i true) (a.put (some d) undef) w) : anyE P md ops Q S z (f + 1) l a w := by
  obtain ⟨o, ho, hd, hw⟩ := hi
  exact anyE_take (oi := o) (v := undef) ho hs hf hr hst (by rw [hd]; exact hQ) (.inr ⟨hw, rfl⟩) hS (by rw [hd]; exact h)
theorem takeE {i : Nat} {d : Tmp} {v : Value} {f : Nat} {l : Array Bool} {a : Act} {w : World}
    (hs : Region.noSelect ops = true) (hf : Region.free md ops l i = true) (hr : (Region.ready md ops l).contains i = true) (hst : stuckE md ops l z ops.size i = true)
    (hQ : ∀ c a w, Q (.panic c) (a.put (some d) v) w → Q (.panic c) a w) (hS : S w)
    (hi : ∃ o, ops[i]? = some o ∧ o.dst = some d ∧ Region.wanted o (yielded ops a.tmps) = true ∧ ∀ w, S w → (execOp a.eval o).run P w = .ok (.value v) w)
    (h : anyE P md ops Q S z f (l.setIfInBounds i true) (a.put (some d) v) w) : anyE P md ops Q S z (f + 1) l a w := by
  obtain ⟨o, ho, hd, hw, hy⟩ := hi
  exact anyE_take (oi := o) (v := v) ho hs hf hr hst (by rw [hd]; exact hQ) (.inl ⟨hw, hy⟩) hS (by rw [hd]; exact h)
/-- The only operation that may come up, and S behind it. -/
theorem oneE {i : Nat} {o : Oper} {f : Nat} {l : Array Bool} {a : Act} {w : World} (hr : Region.ready md ops l = [i]) (ho : ops[i]? = some o)
    (h : ∀ K' : Act → World → Prop, Shut (∀ a w, S w → (S w → anyE P md ops Q S z f (l.setIfInBounds i true) a w) → K' a w) → if Region.wanted o (yielded ops a.tmps) = true then Oper.wp P o a w K' Q else K' (a.put o.dst undef) w) : anyE P md ops Q S z (f + 1) l a w := by
  refine ⟨fun e => by rw [hr] at e; simp at e, fun j hj => ?_⟩
  rw [hr] at hj
  obtain rfl : j = i := by simpa using hj
  exact wpOp_step ho fun K' hK => h K' (fun a w hS hW => hK a w ⟨fun _ => hS, hW hS⟩)
/-- The last operation: nothing is asked behind it. -/
theorem lastE {o : Oper} {f : Nat} {l : Array Bool} {a : Act} {w : World} (hr : Region.ready md ops l = [z]) (ho : ops[z]? = some o)
    (h : ∀ K' : Act → World → Prop, Shut (∀ a w, anyE P md ops Q S z f (l.setIfInBounds z true) a w → K' a w) → if Region.wanted o (yielded ops a.tmps) = true then Oper.wp P o a w K' Q else K' (a.put o.dst undef) w) : anyE P md ops Q S z (f + 1) l a w := by
  refine ⟨fun e => by rw [hr] at e; simp at e, fun j hj => ?_⟩
  rw [hr] at hj
  obtain rfl : j = z := by simpa using hj
  exact wpOp_step ho fun K' hK => h K' (fun a w hW => hK a w ⟨fun c => absurd rfl c, hW⟩)
theorem doneE {l : Array Bool} {a : Act} {w : World} (hr : Region.ready md ops l = []) (h : Q .normal a w) : ∀ f, anyE P md ops Q S z f l a w
  | 0 => ⟨hr, h⟩
  | _ + 1 => ⟨fun _ => h, by rw [hr]; simp⟩
theorem regionE {id : Nat} {a : Act} {w : World} (z : Nat) (S : World → Prop) (hm : P.follows .mixedOrders = true) (hS : S w.drew) (h : S w.drew → anyE P .any ops Q S z ops.size (Array.replicate ops.size false) a w.drew) : (Code.region id ops true).wp P Q a w :=
  wp_region_any hm (anyE_any _ _ _ _ (h hS))
end
end Go.Proofs.Ytjbgjljcgdligab
