
/-
  Products of rational numbers, in the program and in its model.
-/
import Derived.Test.YtpcfnlffamgdaabR1e
import Derived.Deep.RegionHeld3
set_option linter.unusedSimpArgs false
set_option linter.unusedVariables false
namespace Go.Proofs.Ytpcfnlffamgdaab.Rat1
open Go.RowKit

theorem Q.mul_f {an ad bn bd : Int} (h : Q.vr an ad = false ∨ Q.vr bn bd = false) : Q.mulB an ad bn bd = false := by
  rcases h with h | h <;> simp [Q.mulB, h]
theorem Q.le_of_mul {g x a : Int} (hg : 0 < g) (h : a = g * x) : x.natAbs ≤ a.natAbs := by
  rw [h, Int.natAbs_mul]
  exact Nat.le_mul_of_pos_left _ (by omega)
theorem Q.q_bd {n d : Int} (hd : 0 < d) : (Q.qn n d).natAbs ≤ n.natAbs ∧ 0 < Q.qd n d ∧ Q.qd n d ≤ d := by
  obtain ⟨x, y, g, hg, ex, ey, _, e1, e2⟩ := Q.q_ex n d (by omega)
  obtain ⟨p, -, -⟩ := Q.q_nd n d (by omega)
  rw [if_neg (by omega)] at e1 e2
  rw [e2] at p
  rw [e1, e2]
  have h1 := Q.le_of_mul hg ex
  have h2 := Q.le_of_mul hg ey
  omega
theorem Q.big_of {X Y : Int} (hX : X ≠ 0) (h : 100000000000 / (X.natAbs : Int) < (Y.natAbs : Int)) : ¬ (-100000000000 ≤ X * Y ∧ X * Y ≤ 100000000000) := by
  have h1 := (Int.ediv_lt_iff_lt_mul (show (0 : Int) < (X.natAbs : Int) by omega)).1 h
  have h2 : ((Y.natAbs : Int)) * (X.natAbs : Int) = ((X * Y).natAbs : Int) := by rw [Int.natAbs_mul, Int.natCast_mul, Int.mul_comm]
  omega
theorem Q.small_of {X Y : Int} (h : X = 0 ∨ X ≠ 0 ∧ ¬ 100000000000 / (X.natAbs : Int) < (Y.natAbs : Int)) : -100000000000 ≤ X * Y ∧ X * Y ≤ 100000000000 := by
  rcases h with h | ⟨h0, h⟩
  · subst h; simp
  · have h1 := mt (Int.ediv_lt_iff_lt_mul (show (0 : Int) < (X.natAbs : Int) by omega)).2 h
    have h2 : ((Y.natAbs : Int)) * (X.natAbs : Int) = ((X * Y).natAbs : Int) := by rw [Int.natAbs_mul, Int.natCast_mul, Int.mul_comm]
    omega
theorem Q.mul_facts {an ad bn bd : Int} (ha : Q.vr an ad = true) (hb : Q.vr bn bd = true) :
    Q.mulB an ad bn bd = Q.vr (Q.qn an bd * Q.qn bn ad) (Q.qd an bd * Q.qd bn ad) ∧ Q.qn (an * bn) (ad * bd) = Q.qn an bd * Q.qn bn ad ∧ Q.qd (an * bn) (ad * bd) = Q.qd an bd * Q.qd bn ad := by
  obtain ⟨h1, h2, -⟩ := Q.mul_cross ha hb
  exact ⟨by simp [Q.mulB, ha, hb, h1, h2], h1, h2⟩
theorem Q.mul_bds {an ad bn bd : Int} (ha : Q.vr an ad = true) (hb : Q.vr bn bd = true) :
    (-100000000000 ≤ Q.qn an bd ∧ Q.qn an bd ≤ 100000000000) ∧ (-100000000000 ≤ Q.qn bn ad ∧ Q.qn bn ad ≤ 100000000000) ∧ (1 ≤ Q.qd an bd ∧ Q.qd an bd ≤ 10000000) ∧ (1 ≤ Q.qd bn ad ∧ Q.qd bn ad ≤ 10000000) ∧ (1 ≤ Q.qd an bd * Q.qd bn ad ∧ Q.qd an bd * Q.qd bn ad ≤ 100000000000000) := by
  obtain ⟨a1, a2, a3, a4, _⟩ := Q.vr_iff.1 ha
  obtain ⟨b1, b2, b3, b4, _⟩ := Q.vr_iff.1 hb
  obtain ⟨x1, x2, x3⟩ := Q.q_bd (n := an) (show 0 < bd by omega)
  obtain ⟨y1, y2, y3⟩ := Q.q_bd (n := bn) (show 0 < ad by omega)
  have := Q.prod_bd (M := 10000000) (show -10000000 ≤ Q.qd an bd by omega) (by omega) (show 1 ≤ Q.qd bn ad by omega) (show Q.qd bn ad ≤ 10000000 by omega)
  have := Int.mul_pos x2 y2
  omega

set_option maxHeartbeats 1000000 in
theorem impl_MulRat (an ad bn bd : Int) (w : World) : Calls Try.prog 77 #[.agg #[.int .i64 an, .int .i64 ad], .agg #[.int .i64 bn, .int .i64 bd]] w fun e w' => e = .returned (.tuple #[.agg #[.int .i64 (Q.mulN an ad bn bd), .int .i64 (Q.mulD an ad bn bd)], .bool (Q.mulB an ad bn bd)]) ∧ Below w.heap.size w w' := by
  cases ha : Q.vr an ad
  · have hf := Q.mul_f (.inl ha : Q.vr an ad = false ∨ Q.vr bn bd = false)
    unfold Q.mulN Q.mulD
    rw [hf]
    clear hf
    go_enter Try.func77, Try.ntmps77
    go_wp2_with fail
    refine (impl_valid _ _ _).mono ?_
    rintro e w1 ⟨rfl, hb1⟩
    obtain ⟨hc1, hf1⟩ := bcell hb1
    obtain ⟨z10, z11, z12⟩ : w.heap.size < w1.heap.size ∧ w.heap.size + 1 < w1.heap.size ∧ w.heap.size + 1 + 1 < w1.heap.size := by have := hb1.size; (first | omega | (simp at this; omega))
    go_wp2_with fail
    refine bodyPost_ret (v := .tuple #[.agg #[.int .i64 0, .int .i64 0], .bool false]) (by simp [results, Try.results77, go_sem, hc1, hf1, z10, z11, z12]) rfl ⟨rfl, ?_⟩
    have := bel3 hb1
    (repeat' (first | exact Below.refl _ _ | exact Nat.le_refl _ | assumption | refine belS ?_ ?_ | refine belA ?_ ?_ | refine bel_drewN ?_ _ | (simp; done) | (simp; omega) | omega))
  · cases hbv : Q.vr bn bd
    · have hf := Q.mul_f (.inr hbv : Q.vr an ad = false ∨ Q.vr bn bd = false)
      unfold Q.mulN Q.mulD
      rw [hf]
      clear hf
      go_enter Try.func77, Try.ntmps77
      go_wp2_with fail
      refine (impl_valid _ _ _).mono ?_
      rintro e w1 ⟨rfl, hb1⟩
      obtain ⟨hc1, hf1⟩ := bcell hb1
      obtain ⟨z10, z11, z12⟩ : w.heap.size < w1.heap.size ∧ w.heap.size + 1 < w1.heap.size ∧ w.heap.size + 1 + 1 < w1.heap.size := by have := hb1.size; (first | omega | (simp at this; omega))
      go_wp2_with fail
      refine (impl_valid _ _ _).mono ?_
      rintro e w2 ⟨rfl, hb2⟩
      obtain ⟨hc2, hf2⟩ := bcell hb2
      obtain ⟨z20, z21, z22⟩ : w.heap.size < w2.heap.size ∧ w.heap.size + 1 < w2.heap.size ∧ w.heap.size + 1 + 1 < w2.heap.size := by have := hb2.size; (first | omega | (simp at this; omega))
      go_wp2_with fail
      refine bodyPost_ret (v := .tuple #[.agg #[.int .i64 0, .int .i64 0], .bool false]) (by simp [results, Try.results77, go_sem, hc1, hf1, z10, z11, z12, hc2, hf2, z20, z21, z22]) rfl ⟨rfl, ?_⟩
      have := belT (bel3 hb1) hb2
      (repeat' (first | exact Below.refl _ _ | exact Nat.le_refl _ | assumption | refine belS ?_ ?_ | refine belA ?_ ?_ | refine bel_drewN ?_ _ | (simp; done) | (simp; omega) | omega))
    · obtain ⟨hB, f1, f2⟩ := Q.mul_facts ha hbv
      obtain ⟨⟨x1, x2⟩, ⟨y1, y2⟩, ⟨d1, d2⟩, ⟨g1, g2⟩, p1, p2⟩ := Q.mul_bds ha hbv
      obtain ⟨a1, a2, a3, a4, _⟩ := Q.vr_iff.1 ha
      obtain ⟨b1, b2, b3, b4, _⟩ := Q.vr_iff.1 hbv
      unfold Q.mulN Q.mulD
      rw [hB, f1, f2]
      clear hB f1 f2
      by_cases hX : Q.qn an bd = 0
      · obtain ⟨s1, s2⟩ := Q.small_of (Y := Q.qn bn ad) (.inl hX)
        have hX0 : (Q.qn an bd != 0) = false := by simp [hX]
        clear hX
        go_enter Try.func77, Try.ntmps77
        go_wp2_with fail
        refine (impl_valid _ _ _).mono ?_
        rintro e w1 ⟨rfl, hb1⟩
        obtain ⟨hc1, hf1⟩ := bcell hb1
        obtain ⟨z10, z11, z12⟩ : w.heap.size < w1.heap.size ∧ w.heap.size + 1 < w1.heap.size ∧ w.heap.size + 1 + 1 < w1.heap.size := by have := hb1.size; (first | omega | (simp at this; omega))
        go_wp2_with fail
        refine (impl_valid _ _ _).mono ?_
        rintro e w2 ⟨rfl, hb2⟩
        obtain ⟨hc2, hf2⟩ := bcell hb2
        obtain ⟨z20, z21, z22⟩ : w.heap.size < w2.heap.size ∧ w.heap.size + 1 < w2.heap.size ∧ w.heap.size + 1 + 1 < w2.heap.size := by have := hb2.size; (first | omega | (simp at this; omega))
        go_wp2_with fail
        refine (impl_lowest _ _ _ (by omega) (by omega) (by omega) (by omega) (by omega)).mono ?_
        rintro e w3 ⟨rfl, hb3⟩
        obtain ⟨hc3, hf3⟩ := bcell hb3
        obtain ⟨z30, z31, z32⟩ : w.heap.size < w3.heap.size ∧ w.heap.size + 1 < w3.heap.size ∧ w.heap.size + 1 + 1 < w3.heap.size := by have := hb3.size; (first | omega | (simp at this; omega))
        go_wp2_with fail
        refine (impl_lowest _ _ _ (by omega) (by omega) (by omega) (by omega) (by omega)).mono ?_
        rintro e w4 ⟨rfl, hb4⟩
        obtain ⟨hc4, hf4⟩ := bcell hb4
        obtain ⟨z40, z41, z42⟩ : w.heap.size < w4.heap.size ∧ w.heap.size + 1 < w4.heap.size ∧ w.heap.size + 1 + 1 < w4.heap.size := by have := hb4.size; (first | omega | (simp at this; omega))
        have z43 : w3.heap.size < w4.heap.size := by have := hb4.size; simp at this; omega
        go_wp2_with fail
        go_quiet ((first | (go_at_call 103; exact q_same (impl_abs _ _ (by omega) (by omega)))))
        go_wp2_with fail
        refine (impl_checked _ _ _).mono ?_
        rintro e w5 ⟨rfl, hb5⟩
        obtain ⟨hc5, hf5⟩ := bcell hb5
        obtain ⟨z50, z51, z52⟩ : w.heap.size < w5.heap.size ∧ w.heap.size + 1 < w5.heap.size ∧ w.heap.size + 1 + 1 < w5.heap.size := by have := hb5.size; (first | omega | (simp at this; omega))
        go_wp2_with fail
        refine bodyPost_ret (v := .tuple #[.agg #[.int .i64 (Q.sel (Q.vr (Q.qn an bd * Q.qn bn ad) (Q.qd an bd * Q.qd bn ad)) (Q.qn an bd * Q.qn bn ad)), .int .i64 (Q.sel (Q.vr (Q.qn an bd * Q.qn bn ad) (Q.qd an bd * Q.qd bn ad)) (Q.qd an bd * Q.qd bn ad))], .bool (Q.vr (Q.qn an bd * Q.qn bn ad) (Q.qd an bd * Q.qd bn ad))]) (by simp [results, Try.results77, go_sem, hc1, hf1, z10, z11, z12, hc2, hf2, z20, z21, z22, hc3, hf3, z30, z31, z32, hc4, hf4, z40, z41, z42, hc5, hf5, z50, z51, z52]) rfl ⟨rfl, ?_⟩
        have h3 := belT (belT (bel3 hb1) hb2) hb3
        have h4 : Below w.heap.size w w4 := (belA h3 (by omega)).trans (hb4.mono (by first | exact Nat.le_refl _ | (simp; done) | (simp; omega) | omega))
        have h5 : Below w.heap.size w w5 := Below.trans (by (repeat' (first | exact Below.refl _ _ | exact Nat.le_refl _ | assumption | refine belS ?_ ?_ | refine belA ?_ ?_ | refine bel_drewN ?_ _ | (simp; done) | (simp; omega) | omega))) (hb5.mono (by first | exact Nat.le_refl _ | (simp; done) | (simp; omega) | omega))
        (repeat' (first | exact Below.refl _ _ | exact Nat.le_refl _ | assumption | refine belS ?_ ?_ | refine belA ?_ ?_ | refine bel_drewN ?_ _ | (simp; done) | (simp; omega) | omega))
      · have hX0 : (Q.qn an bd != 0) = true := by simp [hX]
        by_cases hY : 100000000000 / ((Q.qn an bd).natAbs : Int) < ((Q.qn bn ad).natAbs : Int)
        · have hv : Q.vr (Q.qn an bd * Q.qn bn ad) (Q.qd an bd * Q.qd bn ad) = false := by
            have := Q.big_of hX hY
            rw [Bool.eq_false_iff, Ne, Q.vr_iff]; omega
          rw [hv]
          clear hv
          go_enter Try.func77, Try.ntmps77
          go_wp2_with fail
          refine (impl_valid _ _ _).mono ?_
          rintro e w1 ⟨rfl, hb1⟩
          obtain ⟨hc1, hf1⟩ := bcell hb1
          obtain ⟨z10, z11, z12⟩ : w.heap.size < w1.heap.size ∧ w.heap.size + 1 < w1.heap.size ∧ w.heap.size + 1 + 1 < w1.heap.size := by have := hb1.size; (first | omega | (simp at this; omega))
          go_wp2_with fail
          refine (impl_valid _ _ _).mono ?_
          rintro e w2 ⟨rfl, hb2⟩
          obtain ⟨hc2, hf2⟩ := bcell hb2
          obtain ⟨z20, z21, z22⟩ : w.heap.size < w2.heap.size ∧ w.heap.size + 1 < w2.heap.size ∧ w.heap.size + 1 + 1 < w2.heap.size := by have := hb2.size; (first | omega | (simp at this; omega))
          go_wp2_with fail
          refine (impl_lowest _ _ _ (by omega) (by omega) (by omega) (by omega) (by omega)).mono ?_
          rintro e w3 ⟨rfl, hb3⟩
          obtain ⟨hc3, hf3⟩ := bcell hb3
          obtain ⟨z30, z31, z32⟩ : w.heap.size < w3.heap.size ∧ w.heap.size + 1 < w3.heap.size ∧ w.heap.size + 1 + 1 < w3.heap.size := by have := hb3.size; (first | omega | (simp at this; omega))
          go_wp2_with fail
          refine (impl_lowest _ _ _ (by omega) (by omega) (by omega) (by omega) (by omega)).mono ?_
          rintro e w4 ⟨rfl, hb4⟩
          obtain ⟨hc4, hf4⟩ := bcell hb4
          obtain ⟨z40, z41, z42⟩ : w.heap.size < w4.heap.size ∧ w.heap.size + 1 < w4.heap.size ∧ w.heap.size + 1 + 1 < w4.heap.size := by have := hb4.size; (first | omega | (simp at this; omega))
          have z43 : w3.heap.size < w4.heap.size := by have := hb4.size; simp at this; omega
          go_wp2_with fail
          go_quiet ((first | (go_at_call 103; exact q_same (impl_abs _ _ (by omega) (by omega)))))
          go_wp2_with fail
          refine bodyPost_ret (v := .tuple #[.agg #[.int .i64 0, .int .i64 0], .bool false]) (by simp [results, Try.results77, go_sem, hc1, hf1, z10, z11, z12, hc2, hf2, z20, z21, z22, hc3, hf3, z30, z31, z32, hc4, hf4, z40, z41, z42]) rfl ⟨rfl, ?_⟩
          have h3 := belT (belT (bel3 hb1) hb2) hb3
          have h4 : Below w.heap.size w w4 := (belA h3 (by omega)).trans (hb4.mono (by first | exact Nat.le_refl _ | (simp; done) | (simp; omega) | omega))
          (repeat' (first | exact Below.refl _ _ | exact Nat.le_refl _ | assumption | refine belS ?_ ?_ | refine belA ?_ ?_ | refine bel_drewN ?_ _ | (simp; done) | (simp; omega) | omega))
        · obtain ⟨s1, s2⟩ := Q.small_of (.inr ⟨hX, hY⟩)
          go_enter Try.func77, Try.ntmps77
          go_wp2_with fail
          refine (impl_valid _ _ _).mono ?_
          rintro e w1 ⟨rfl, hb1⟩
          obtain ⟨hc1, hf1⟩ := bcell hb1
          obtain ⟨z10, z11, z12⟩ : w.heap.size < w1.heap.size ∧ w.heap.size + 1 < w1.heap.size ∧ w.heap.size + 1 + 1 < w1.heap.size := by have := hb1.size; (first | omega | (simp at this; omega))
          go_wp2_with fail
          refine (impl_valid _ _ _).mono ?_
          rintro e w2 ⟨rfl, hb2⟩
          obtain ⟨hc2, hf2⟩ := bcell hb2
          obtain ⟨z20, z21, z22⟩ : w.heap.size < w2.heap.size ∧ w.heap.size + 1 < w2.heap.size ∧ w.heap.size + 1 + 1 < w2.heap.size := by have := hb2.size; (first | omega | (simp at this; omega))
          go_wp2_with fail
          refine (impl_lowest _ _ _ (by omega) (by omega) (by omega) (by omega) (by omega)).mono ?_
          rintro e w3 ⟨rfl, hb3⟩
          obtain ⟨hc3, hf3⟩ := bcell hb3
          obtain ⟨z30, z31, z32⟩ : w.heap.size < w3.heap.size ∧ w.heap.size + 1 < w3.heap.size ∧ w.heap.size + 1 + 1 < w3.heap.size := by have := hb3.size; (first | omega | (simp at this; omega))
          go_wp2_with fail
          refine (impl_lowest _ _ _ (by omega) (by omega) (by omega) (by omega) (by omega)).mono ?_
          rintro e w4 ⟨rfl, hb4⟩
          obtain ⟨hc4, hf4⟩ := bcell hb4
          obtain ⟨z40, z41, z42⟩ : w.heap.size < w4.heap.size ∧ w.heap.size + 1 < w4.heap.size ∧ w.heap.size + 1 + 1 < w4.heap.size := by have := hb4.size; (first | omega | (simp at this; omega))
          have z43 : w3.heap.size < w4.heap.size := by have := hb4.size; simp at this; omega
          go_wp2_with fail
          go_quiet ((first | (go_at_call 103; exact q_same (impl_abs _ _ (by omega) (by omega)))))
          go_wp2_with fail
          refine (impl_checked _ _ _).mono ?_
          rintro e w5 ⟨rfl, hb5⟩
          obtain ⟨hc5, hf5⟩ := bcell hb5
          obtain ⟨z50, z51, z52⟩ : w.heap.size < w5.heap.size ∧ w.heap.size + 1 < w5.heap.size ∧ w.heap.size + 1 + 1 < w5.heap.size := by have := hb5.size; (first | omega | (simp at this; omega))
          go_wp2_with fail
          refine bodyPost_ret (v := .tuple #[.agg #[.int .i64 (Q.sel (Q.vr (Q.qn an bd * Q.qn bn ad) (Q.qd an bd * Q.qd bn ad)) (Q.qn an bd * Q.qn bn ad)), .int .i64 (Q.sel (Q.vr (Q.qn an bd * Q.qn bn ad) (Q.qd an bd * Q.qd bn ad)) (Q.qd an bd * Q.qd bn ad))], .bool (Q.vr (Q.qn an bd * Q.qn bn ad) (Q.qd an bd * Q.qd bn ad))]) (by simp [results, Try.results77, go_sem, hc1, hf1, z10, z11, z12, hc2, hf2, z20, z21, z22, hc3, hf3, z30, z31, z32, hc4, hf4, z40, z41, z42, hc5, hf5, z50, z51, z52]) rfl ⟨rfl, ?_⟩
          have h3 := belT (belT (bel3 hb1) hb2) hb3
          have h4 : Below w.heap.size w w4 := (belA h3 (by omega)).trans (hb4.mono (by first | exact Nat.le_refl _ | (simp; done) | (simp; omega) | omega))
          have h5 : Below w.heap.size w w5 := Below.trans (by (repeat' (first | exact Below.refl _ _ | exact Nat.le_refl _ | assumption | refine belS ?_ ?_ | refine belA ?_ ?_ | refine bel_drewN ?_ _ | (simp; done) | (simp; omega) | omega))) (hb5.mono (by first | exact Nat.le_refl _ | (simp; done) | (simp; omega) | omega))
          (repeat' (first | exact Below.refl _ _ | exact Nat.le_refl _ | assumption | refine belS ?_ ?_ | refine belA ?_ ?_ | refine bel_drewN ?_ _ | (simp; done) | (simp; omega) | omega))
end Go.Proofs.Ytpcfnlffamgdaab.Rat1
