
/-
  Sums of rational numbers, in the program and in its model.
-/
import Derived.Test.YtpcfnlffamgdaabR1d
set_option linter.unusedSimpArgs false
set_option linter.unusedVariables false
namespace Go.Proofs.Ytpcfnlffamgdaab.Rat1
open Go.RowKit

theorem Q.prod_bd {x y M D : Int} (h1 : -M ≤ x) (h2 : x ≤ M) (h3 : 1 ≤ y) (h4 : y ≤ D) : -(M * D) ≤ x * y ∧ x * y ≤ M * D := by
  have hM : 0 ≤ M := by omega
  have a := Int.mul_le_mul_of_nonneg_left h4 hM
  have b := Int.mul_le_mul_of_nonneg_right h2 (show 0 ≤ y by omega)
  have c := Int.mul_le_mul_of_nonneg_right h1 (show 0 ≤ y by omega)
  rw [Int.neg_mul] at c
  omega
theorem Q.bd_of {an ad bn bd : Int} (ha : Q.vr an ad = true) (hb : Q.vr bn bd = true) :
    (-1000000000000000000 ≤ an * bd ∧ an * bd ≤ 1000000000000000000) ∧ (-1000000000000000000 ≤ bn * ad ∧ bn * ad ≤ 1000000000000000000) ∧ (1 ≤ ad * bd ∧ ad * bd ≤ 100000000000000) ∧ ad * bd ≠ 0 := by
  obtain ⟨a1, a2, a3, a4, _⟩ := Q.vr_iff.1 ha
  obtain ⟨b1, b2, b3, b4, _⟩ := Q.vr_iff.1 hb
  have h1 := Q.prod_bd a3 a4 b1 b2
  have h2 := Q.prod_bd b3 b4 a1 a2
  have h3 := Q.prod_bd (M := 10000000) (by omega) a2 b1 b2
  have h4 := Int.mul_pos (show 0 < ad by omega) (show 0 < bd by omega)
  omega
theorem Q.add_f {an ad bn bd : Int} (h : Q.vr an ad = false ∨ Q.vr bn bd = false) : Q.addB an ad bn bd = false := by
  rcases h with h | h <;> simp [Q.addB, h]

set_option maxHeartbeats 1000000 in
theorem impl_AddRat (an ad bn bd : Int) (w : World) : Calls Try.prog 21 #[.agg #[.int .i64 an, .int .i64 ad], .agg #[.int .i64 bn, .int .i64 bd]] w fun e w' => e = .returned (.tuple #[.agg #[.int .i64 (Q.addN an ad bn bd), .int .i64 (Q.addD an ad bn bd)], .bool (Q.addB an ad bn bd)]) ∧ Below w.heap.size w w' := by
  cases ha : Q.vr an ad
  · have hf := Q.add_f (.inl ha : Q.vr an ad = false ∨ Q.vr bn bd = false)
    unfold Q.addN Q.addD
    rw [hf]
    clear hf
    go_enter Try.func21, Try.ntmps21
    go_wp2_with fail
    refine (impl_valid _ _ _).mono ?_
    rintro e w1 ⟨rfl, hb1⟩
    obtain ⟨hc1, hf1⟩ := bcell hb1
    obtain ⟨z10, z11, z12⟩ : w.heap.size < w1.heap.size ∧ w.heap.size + 1 < w1.heap.size ∧ w.heap.size + 1 + 1 < w1.heap.size := by have := hb1.size; (first | omega | (simp at this; omega))
    go_wp2_with fail
    refine bodyPost_ret (v := .tuple #[.agg #[.int .i64 0, .int .i64 0], .bool false]) (by simp [results, Try.results21, go_sem, hc1, hf1, z10, z11, z12]) rfl ⟨rfl, ?_⟩
    have := bel3 hb1
    (repeat' (first | exact Below.refl _ _ | exact Nat.le_refl _ | assumption | refine belS ?_ ?_ | refine belA ?_ ?_ | refine bel_drewN ?_ _ | (simp; done) | (simp; omega) | omega))
  · cases hbv : Q.vr bn bd
    · have hf := Q.add_f (.inr hbv : Q.vr an ad = false ∨ Q.vr bn bd = false)
      unfold Q.addN Q.addD
      rw [hf]
      clear hf
      go_enter Try.func21, Try.ntmps21
      go_wp2_with fail
      refine (impl_valid _ _ _).mono ?_
      rintro e w1 ⟨rfl, hb1⟩
      obtain ⟨hc1, hf1⟩ := bcell hb1
      obtain ⟨z10, z11, z12⟩ : w.heap.size < w1.heap.size ∧ w.heap.size + 1 < w1.heap.size ∧ w.heap.size + 1 + 1 < w1.heap.size := by have := hb1.size; (first | omega | (simp at this; omega))
      go_wp2_with fail
      refine (impl_valid _ _ _).mono ?_
      rintro e w2 ⟨rfl, hb2⟩
      obtain ⟨hc2, hf2⟩ := bcell hb2
      obtain ⟨z20, z21, z22⟩ : w.heap.size < w2.heap.size ∧ w.heap.size + 1 < w2.heap.size ∧ w.heap.size + 1 + 1 < w2.heap.size := by have := hb2.size; (first | omega | (simp at this; omega))
      go_wp2_with fail
      refine bodyPost_ret (v := .tuple #[.agg #[.int .i64 0, .int .i64 0], .bool false]) (by simp [results, Try.results21, go_sem, hc1, hf1, z10, z11, z12, hc2, hf2, z20, z21, z22]) rfl ⟨rfl, ?_⟩
      have := belT (bel3 hb1) hb2
      (repeat' (first | exact Below.refl _ _ | exact Nat.le_refl _ | assumption | refine belS ?_ ?_ | refine belA ?_ ?_ | refine bel_drewN ?_ _ | (simp; done) | (simp; omega) | omega))
    · obtain ⟨q1, q2, q3, q4⟩ := Q.bd_of ha hbv
      have hB : Q.addB an ad bn bd = Q.vr (Q.qn (an * bd + bn * ad) (ad * bd)) (Q.qd (an * bd + bn * ad) (ad * bd)) := by simp [Q.addB, ha, hbv]
      unfold Q.addN Q.addD
      rw [hB]
      clear hB
      have Q4 := Lib.hid q4; clear q4
      go_enter Try.func21, Try.ntmps21
      go_wp2_with fail
      refine (impl_valid _ _ _).mono ?_
      rintro e w1 ⟨rfl, hb1⟩
      obtain ⟨hc1, hf1⟩ := bcell hb1
      obtain ⟨z10, z11, z12⟩ : w.heap.size < w1.heap.size ∧ w.heap.size + 1 < w1.heap.size ∧ w.heap.size + 1 + 1 < w1.heap.size := by have := hb1.size; (first | omega | (simp at this; omega))
      go_wp2_with fail
      refine (impl_valid _ _ _).mono ?_
      rintro e w2 ⟨rfl, hb2⟩
      obtain ⟨hc2, hf2⟩ := bcell hb2
      obtain ⟨z20, z21, z22⟩ : w.heap.size < w2.heap.size ∧ w.heap.size + 1 < w2.heap.size ∧ w.heap.size + 1 + 1 < w2.heap.size := by have := hb2.size; (first | omega | (simp at this; omega))
      go_wp2_with fail
      refine (impl_lowest _ _ _ (by omega) (by omega) (by omega) (by omega) Q4.out).mono ?_
      rintro e w3 ⟨rfl, hb3⟩
      obtain ⟨hc3, hf3⟩ := bcell hb3
      obtain ⟨z30, z31, z32⟩ : w.heap.size < w3.heap.size ∧ w.heap.size + 1 < w3.heap.size ∧ w.heap.size + 1 + 1 < w3.heap.size := by have := hb3.size; (first | omega | (simp at this; omega))
      go_wp2_with fail
      refine (impl_checked _ _ _).mono ?_
      rintro e w4 ⟨rfl, hb4⟩
      obtain ⟨hc4, hf4⟩ := bcell hb4
      obtain ⟨z40, z41, z42⟩ : w.heap.size < w4.heap.size ∧ w.heap.size + 1 < w4.heap.size ∧ w.heap.size + 1 + 1 < w4.heap.size := by have := hb4.size; (first | omega | (simp at this; omega))
      go_wp2_with fail
      refine bodyPost_ret (v := .tuple #[.agg #[.int .i64 (Q.sel (Q.vr (Q.qn (an * bd + bn * ad) (ad * bd)) (Q.qd (an * bd + bn * ad) (ad * bd))) (Q.qn (an * bd + bn * ad) (ad * bd))), .int .i64 (Q.sel (Q.vr (Q.qn (an * bd + bn * ad) (ad * bd)) (Q.qd (an * bd + bn * ad) (ad * bd))) (Q.qd (an * bd + bn * ad) (ad * bd)))], .bool (Q.vr (Q.qn (an * bd + bn * ad) (ad * bd)) (Q.qd (an * bd + bn * ad) (ad * bd)))]) (by simp [results, Try.results21, go_sem, hc1, hf1, z10, z11, z12, hc2, hf2, z20, z21, z22, hc3, hf3, z30, z31, z32, hc4, hf4, z40, z41, z42]) rfl ⟨rfl, ?_⟩
      have := belT (belT (belT (bel3 hb1) hb2) hb3) hb4
      (repeat' (first | exact Below.refl _ _ | exact Nat.le_refl _ | assumption | refine belS ?_ ?_ | refine belA ?_ ?_ | refine bel_drewN ?_ _ | (simp; done) | (simp; omega) | omega))
end Go.Proofs.Ytpcfnlffamgdaab.Rat1
