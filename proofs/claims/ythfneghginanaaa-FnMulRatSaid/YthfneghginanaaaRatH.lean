
/-
  Products of the model, comparison and rounding down, in the program and in its model.
-/
import Derived.Test.YthfneghginanaaaRatG
set_option linter.unusedSimpArgs false
set_option linter.unusedVariables false
namespace Go.Proofs.Ythfneghginanaaa
open Go.RowKit

set_option maxHeartbeats 1000000 in
theorem spec_MulRat (an ad bn bd : Int) (w : World) : Calls Try.prog 7 #[.agg #[.int .i64 an, .int .i64 ad], .agg #[.int .i64 bn, .int .i64 bd]] w fun e w' => e = .returned (.tuple #[.agg #[.int .i64 (Q.mulN an ad bn bd), .int .i64 (Q.mulD an ad bn bd)], .bool (Q.mulB an ad bn bd)]) ∧ Below w.heap.size w w' := by
  cases ha : Q.vr an ad
  · have hf := Q.mul_f (.inl ha : Q.vr an ad = false ∨ Q.vr bn bd = false)
    unfold Q.mulN Q.mulD
    rw [hf]
    clear hf
    go_enter Try.func7, Try.ntmps7
    go_wp2_with fail
    refine (spec_ValidRat _ _ _).mono ?_
    rintro e w1 ⟨rfl, hb1⟩
    obtain ⟨hc1, hf1⟩ := bcell hb1
    obtain ⟨z10, z11, z12⟩ : w.heap.size < w1.heap.size ∧ w.heap.size + 1 < w1.heap.size ∧ w.heap.size + 1 + 1 < w1.heap.size := by have := hb1.size; (first | omega | (simp at this; omega))
    go_wp2_with fail
    refine bodyPost_ret (v := .tuple #[.agg #[.int .i64 0, .int .i64 0], .bool false]) (by simp [results, Try.results7, go_sem, hc1, hf1, z10, z11, z12]) rfl ⟨rfl, ?_⟩
    have := bel3 hb1
    (repeat' (first | exact Below.refl _ _ | exact Nat.le_refl _ | assumption | refine belS ?_ ?_ | refine belA ?_ ?_ | refine bel_drewN ?_ _ | (simp; done) | (simp; omega) | omega))
  · cases hbv : Q.vr bn bd
    · have hf := Q.mul_f (.inr hbv : Q.vr an ad = false ∨ Q.vr bn bd = false)
      unfold Q.mulN Q.mulD
      rw [hf]
      clear hf
      go_enter Try.func7, Try.ntmps7
      go_wp2_with fail
      refine (spec_ValidRat _ _ _).mono ?_
      rintro e w1 ⟨rfl, hb1⟩
      obtain ⟨hc1, hf1⟩ := bcell hb1
      obtain ⟨z10, z11, z12⟩ : w.heap.size < w1.heap.size ∧ w.heap.size + 1 < w1.heap.size ∧ w.heap.size + 1 + 1 < w1.heap.size := by have := hb1.size; (first | omega | (simp at this; omega))
      go_wp2_with fail
      refine (spec_ValidRat _ _ _).mono ?_
      rintro e w2 ⟨rfl, hb2⟩
      obtain ⟨hc2, hf2⟩ := bcell hb2
      obtain ⟨z20, z21, z22⟩ : w.heap.size < w2.heap.size ∧ w.heap.size + 1 < w2.heap.size ∧ w.heap.size + 1 + 1 < w2.heap.size := by have := hb2.size; (first | omega | (simp at this; omega))
      go_wp2_with fail
      refine bodyPost_ret (v := .tuple #[.agg #[.int .i64 0, .int .i64 0], .bool false]) (by simp [results, Try.results7, go_sem, hc1, hf1, z10, z11, z12, hc2, hf2, z20, z21, z22]) rfl ⟨rfl, ?_⟩
      have := belT (bel3 hb1) hb2
      (repeat' (first | exact Below.refl _ _ | exact Nat.le_refl _ | assumption | refine belS ?_ ?_ | refine belA ?_ ?_ | refine bel_drewN ?_ _ | (simp; done) | (simp; omega) | omega))
    · have hav := ha
      have hbw := hbv
      have HA := Lib.hid hav; clear hav
      have HB := Lib.hid hbw; clear hbw
      go_enter Try.func7, Try.ntmps7
      go_wp2_with fail
      refine (spec_ValidRat _ _ _).mono ?_
      rintro e w1 ⟨rfl, hb1⟩
      obtain ⟨hc1, hf1⟩ := bcell hb1
      obtain ⟨z10, z11, z12⟩ : w.heap.size < w1.heap.size ∧ w.heap.size + 1 < w1.heap.size ∧ w.heap.size + 1 + 1 < w1.heap.size := by have := hb1.size; (first | omega | (simp at this; omega))
      go_wp2_with fail
      refine (spec_ValidRat _ _ _).mono ?_
      rintro e w2 ⟨rfl, hb2⟩
      obtain ⟨hc2, hf2⟩ := bcell hb2
      obtain ⟨z20, z21, z22⟩ : w.heap.size < w2.heap.size ∧ w.heap.size + 1 < w2.heap.size ∧ w.heap.size + 1 + 1 < w2.heap.size := by have := hb2.size; (first | omega | (simp at this; omega))
      go_wp2_with fail
      refine (spec_mulRat _ _ _ _ _ HA.out HB.out).mono ?_
      rintro e w3 ⟨rfl, hb3⟩
      obtain ⟨hc3, hf3⟩ := bcell hb3
      obtain ⟨z30, z31, z32⟩ : w.heap.size < w3.heap.size ∧ w.heap.size + 1 < w3.heap.size ∧ w.heap.size + 1 + 1 < w3.heap.size := by have := hb3.size; (first | omega | (simp at this; omega))
      go_wp2_with fail
      refine bodyPost_ret (v := .tuple #[.agg #[.int .i64 (Q.mulN an ad bn bd), .int .i64 (Q.mulD an ad bn bd)], .bool (Q.mulB an ad bn bd)]) (by simp [results, Try.results7, go_sem, hc1, hf1, z10, z11, z12, hc2, hf2, z20, z21, z22, hc3, hf3, z30, z31, z32]) rfl ⟨rfl, ?_⟩
      have := belT (belT (bel3 hb1) hb2) hb3
      (repeat' (first | exact Below.refl _ _ | exact Nat.le_refl _ | assumption | refine belS ?_ ?_ | refine belA ?_ ?_ | refine bel_drewN ?_ _ | (simp; done) | (simp; omega) | omega))

theorem Q.cmp_f {an ad bn bd : Int} (h : Q.vr an ad = false ∨ Q.vr bn bd = false) : Q.cmpR an ad bn bd = 2 := by
  rcases h with h | h <;> simp [Q.cmpR, h]
theorem Q.cmp_tri {an ad bn bd : Int} (ha : Q.vr an ad = true) (hb : Q.vr bn bd = true) :
    (an = bn ∧ ad = bd ∧ Q.cmpR an ad bn bd = 0) ∨ (¬ (an = bn ∧ ad = bd) ∧ an * bd < bn * ad ∧ Q.cmpR an ad bn bd = -1) ∨ (¬ (an = bn ∧ ad = bd) ∧ bn * ad < an * bd ∧ Q.cmpR an ad bn bd = 1) := by
  have h := Q.cmp_eq ha hb
  unfold Q.cmpR Q.sg
  simp only [ha, hb, Bool.and_self, if_true]
  generalize an * bd = x at *
  generalize bn * ad = y at *
  rcases Int.lt_trichotomy x y with h1 | h1 | h1
  · exact .inr (.inl ⟨fun hh => by have := h.2 hh; omega, h1, by rw [if_pos (by omega)]⟩)
  · obtain ⟨e1, e2⟩ := h.1 h1
    exact .inl ⟨e1, e2, by rw [if_neg (by omega), if_neg (by omega)]⟩
  · exact .inr (.inr ⟨fun hh => by have := h.2 hh; omega, h1, by rw [if_neg (by omega), if_pos (by omega)]⟩)
theorem Q.flr_go {n d : Int} (h : Q.vr n d = true) : (n.tmod d < 0 → Q.flr n d = n.tdiv d - 1) ∧ (¬ n.tmod d < 0 → Q.flr n d = n.tdiv d) := by
  obtain ⟨a1, _⟩ := Q.vr_iff.1 h
  unfold Q.flr
  rw [if_pos h, Q.floor_go a1]
  exact ⟨fun hh => if_pos hh, fun hh => if_neg hh⟩
end Go.Proofs.Ythfneghginanaaa
