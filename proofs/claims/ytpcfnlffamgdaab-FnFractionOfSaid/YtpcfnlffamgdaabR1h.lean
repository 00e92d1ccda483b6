
/-
  Products of the model, comparison and rounding down, in the program and in its model.
-/
import Derived.Test.YtpcfnlffamgdaabR1g
set_option linter.unusedSimpArgs false
set_option linter.unusedVariables false
namespace Go.Proofs.Ytpcfnlffamgdaab.Rat1
open Go.RowKit

theorem Q.cmp_f {an ad bn bd : Int} (h : Q.vr an ad = false ∨ Q.vr bn bd = false) : Q.cmpR an ad bn bd = 2 := by
  rcases h with h | h <;> simp [Q.cmpR, h]
theorem Q.cmp_tri {an ad bn bd : Int} (ha : Q.vr an ad = true) (hb : Q.vr bn bd = true) :
    (an = bn ∧ ad = bd ∧ Q.cmpR an ad bn bd = 0) ∨ (¬ (an = bn ∧ ad = bd) ∧ an * bd < bn * ad ∧ Q.cmpR an ad bn bd = -1) ∨ (¬ (an = bn ∧ ad = bd) ∧ bn * ad < an * bd ∧ Q.cmpR an ad bn bd = 1) := by
  have h := Q.cmp_eq ha hb
  unfold Q.cmpR Q.sg
  simp only [ha, hb, Bool.and_self, if_true]
  generalize an * bd = x at *
  generalize bn * ad = y at *
  rcases Int.lt_trichotomy x y with h1 | h1 | h1
  · exact .inr (.inl ⟨fun hh => by have := h.2 hh; omega, h1, by rw [if_pos (by omega)]⟩)
  · obtain ⟨e1, e2⟩ := h.1 h1
    exact .inl ⟨e1, e2, by rw [if_neg (by omega), if_neg (by omega)]⟩
  · exact .inr (.inr ⟨fun hh => by have := h.2 hh; omega, h1, by rw [if_neg (by omega), if_pos (by omega)]⟩)
theorem Q.flr_go {n d : Int} (h : Q.vr n d = true) : (n.tmod d < 0 → Q.flr n d = n.tdiv d - 1) ∧ (¬ n.tmod d < 0 → Q.flr n d = n.tdiv d) := by
  obtain ⟨a1, _⟩ := Q.vr_iff.1 h
  unfold Q.flr
  rw [if_pos h, Q.floor_go a1]
  exact ⟨fun hh => if_pos hh, fun hh => if_neg hh⟩
theorem spec_floorDiv (n d : Int) (w : World) (h : Q.vr n d = true) : Calls Try.prog 106 #[.int .i64 n, .int .i64 d] w fun e w' => e = .returned (.int .i64 (Q.flr n d)) ∧ w = w' := by
  obtain ⟨a1, a2, a3, a4, _⟩ := Q.vr_iff.1 h
  obtain ⟨f1, f2⟩ := Q.flr_go h
  have hb := Q.tdiv_le n d
  by_cases hm : n.tmod d < 0
  · rw [f1 hm]
    clear f1 f2
    go_enter Try.func106, Try.ntmps106
    go_wp2_with fail
    go_ret
    exact ⟨rfl, rfl⟩
  · rw [f2 hm]
    clear f1 f2
    go_enter Try.func106, Try.ntmps106
    go_wp2_with fail
    go_ret
    exact ⟨rfl, rfl⟩
theorem impl_floorDiv (n d : Int) (w : World) (h : Q.vr n d = true) : Calls Try.prog 76 #[.int .i64 n, .int .i64 d] w fun e w' => e = .returned (.int .i64 (Q.flr n d)) ∧ w = w' := by
  obtain ⟨a1, a2, a3, a4, _⟩ := Q.vr_iff.1 h
  obtain ⟨f1, f2⟩ := Q.flr_go h
  have hb := Q.tdiv_le n d
  by_cases hm : n.tmod d < 0
  · rw [f1 hm]
    clear f1 f2
    go_enter Try.func76, Try.ntmps76
    go_wp2_with fail
    go_ret
    exact ⟨rfl, rfl⟩
  · rw [f2 hm]
    clear f1 f2
    go_enter Try.func76, Try.ntmps76
    go_wp2_with fail
    go_ret
    exact ⟨rfl, rfl⟩
theorem impl_FloorRat (n d : Int) (w : World) : Calls Try.prog 23 #[.agg #[.int .i64 n, .int .i64 d]] w fun e w' => e = .returned (.int .i64 (Q.flr n d)) ∧ Below w.heap.size w w' := by
  cases ha : Q.vr n d
  · rw [show Q.flr n d = 0 by unfold Q.flr; rw [ha]; rfl]
    go_enter Try.func23, Try.ntmps23
    go_wp2_with fail
    refine (impl_valid _ _ _).mono ?_
    rintro e w1 ⟨rfl, hb1⟩
    obtain ⟨hc1, hf1⟩ := bcell hb1
    have z10 : w.heap.size < w1.heap.size := by have := hb1.size; (first | omega | (simp at this; omega))
    go_wp2_with fail
    go_ret
    exact ⟨rfl, bel1 hb1⟩
  · have hav := ha
    have HA := Lib.hid hav; clear hav
    go_enter Try.func23, Try.ntmps23
    go_wp2_with fail
    refine (impl_valid _ _ _).mono ?_
    rintro e w1 ⟨rfl, hb1⟩
    obtain ⟨hc1, hf1⟩ := bcell hb1
    have z10 : w.heap.size < w1.heap.size := by have := hb1.size; (first | omega | (simp at this; omega))
    go_wp2_with fail
    refine (impl_floorDiv _ _ _ HA.out).mono ?_
    rintro e w2 ⟨rfl, rfl⟩
    go_wp2_with fail
    go_ret
    exact ⟨rfl, bel1 hb1⟩
end Go.Proofs.Ytpcfnlffamgdaab.Rat1
