
/-
  The model's products of rational numbers.
-/
import Derived.Test.YtpcfnlffamgdaabR1f
set_option linter.unusedSimpArgs false
set_option linter.unusedVariables false
namespace Go.Proofs.Ytpcfnlffamgdaab.Rat1
open Go.RowKit

theorem q_add {P : Program} {f : FuncId} {args : Array Value} {w : World} {a n : Nat} {v : Value}
    (h : Calls P f args (w.drewN (a + n)) fun e w' => e = .returned v ∧ ∃ m, w' = (w.drewN (a + n)).drewN m) :
    Calls P f args (w.drewN (a + n)) fun e w'' => e = .returned v ∧ ∃ m, w'' = w.drewN (a + m) :=
  h.mono fun _ _ ⟨he, m, hm⟩ => ⟨he, n + m, by rw [hm, World.drewN_drewN, Nat.add_assoc]⟩
theorem q_add_same {P : Program} {f : FuncId} {args : Array Value} {w : World} {a n : Nat} {v : Value}
    (h : Calls P f args (w.drewN (a + n)) fun e w' => e = .returned v ∧ w.drewN (a + n) = w') :
    Calls P f args (w.drewN (a + n)) fun e w'' => e = .returned v ∧ ∃ m, w'' = w.drewN (a + m) :=
  h.mono fun _ _ ⟨he, hm⟩ => ⟨he, n, hm.symm⟩
theorem Q.tdiv_g {n d : Int} (h : 0 < d) : n.tdiv (Q.gc n d) = Q.qn n d := Q.low_pos h
theorem Q.ediv_g {n d : Int} (h : 0 < d) : d / (Q.gc n d) = Q.qd n d := by
  unfold Q.qd; rw [if_neg (by omega)]
theorem Q.mul_again {an ad bn bd : Int} (ha : Q.vr an ad = true) (hb : Q.vr bn bd = true) :
    Q.qn (Q.qn an bd * Q.qn bn ad) (Q.qd an bd * Q.qd bn ad) = Q.qn an bd * Q.qn bn ad ∧ Q.qd (Q.qn an bd * Q.qn bn ad) (Q.qd an bd * Q.qd bn ad) = Q.qd an bd * Q.qd bn ad := by
  obtain ⟨-, -, h⟩ := Q.mul_cross ha hb
  obtain ⟨-, -, ⟨d1, d2⟩, ⟨g1, g2⟩, p1, p2⟩ := Q.mul_bds ha hb
  exact Q.q_self (by omega) h

set_option maxHeartbeats 2000000 in
theorem spec_mulRat (an ad bn bd : Int) (w : World) (ha : Q.vr an ad = true) (hbv : Q.vr bn bd = true) : Calls Try.prog 107 #[.agg #[.int .i64 an, .int .i64 ad], .agg #[.int .i64 bn, .int .i64 bd]] w fun e w' => e = .returned (.tuple #[.agg #[.int .i64 (Q.mulN an ad bn bd), .int .i64 (Q.mulD an ad bn bd)], .bool (Q.mulB an ad bn bd)]) ∧ Below w.heap.size w w' := by
  obtain ⟨hB, f1, f2⟩ := Q.mul_facts ha hbv
  obtain ⟨⟨x1, x2⟩, ⟨y1, y2⟩, ⟨d1, d2⟩, ⟨g1, g2⟩, p1, p2⟩ := Q.mul_bds ha hbv
  obtain ⟨a1, a2, a3, a4, _⟩ := Q.vr_iff.1 ha
  obtain ⟨b1, b2, b3, b4, _⟩ := Q.vr_iff.1 hbv
  obtain ⟨r1, r2⟩ := Q.mul_again ha hbv
  have G1 := Lib.hid (Q.gc_posabs (n := an) (show 0 < bd by omega))
  have G2 := Lib.hid (Q.gc_posabs (n := bn) (show 0 < ad by omega))
  have T1 := (Q.tdiv_g (n := an) (show 0 < bd by omega))
  have T2 := (Q.tdiv_g (n := bn) (show 0 < ad by omega))
  have U1 := (Q.ediv_g (n := an) (show 0 < bd by omega))
  have U2 := (Q.ediv_g (n := bn) (show 0 < ad by omega))
  have k1 := Q.gc_pos an bd (by omega)
  have k2 := Q.gc_pos bn ad (by omega)
  have k3 : ¬ Q.gc an bd = 0 := by omega
  have k4 : ¬ Q.gc bn ad = 0 := by omega
  have i1 : IntKind.i64.wrap (Q.qd bn ad * Q.qd an bd) = Q.qd an bd * Q.qd bn ad := by rw [Int.mul_comm]; exact IntWalk.i64_in _ (by omega)
  have i2 : IntKind.i64.wrap (ad.tdiv (Q.gc bn ad)) = Q.qd bn ad := by rw [Int.tdiv_eq_ediv_of_nonneg (by omega), U2]; exact IntWalk.i64_in _ (by omega)
  have i3 : IntKind.i64.wrap (bd.tdiv (Q.gc an bd)) = Q.qd an bd := by rw [Int.tdiv_eq_ediv_of_nonneg (by omega), U1]; exact IntWalk.i64_in _ (by omega)
  unfold Q.mulN Q.mulD
  rw [hB, f1, f2]
  clear hB f1 f2
  by_cases hY : Q.qn bn ad = 0
  · obtain ⟨s1, s2⟩ := Q.small_of (X := Q.qn bn ad) (Y := Q.qn an bd) (.inl hY)
    rw [Int.mul_comm] at s1 s2
    have hY0 : (Q.qn bn ad != 0) = false := by simp [hY]
    clear hY
    go_enter Try.func107, Try.ntmps107
    go_wp2_with fail
    go_quiet ((first
        | (go_at_call 105; exact q_same (spec_distance _ _ (by omega) (by omega)))
        | (go_at_call 104; exact Calls.quiet_of (spec_gcd _ _ _ (by omega) (by omega) (by omega) (by omega)))))
    rw [G1.out]
    go_wp2_with fail
    go_quiet ((first
        | (go_at_call 105; exact q_add_same (spec_distance _ _ (by omega) (by omega)))
        | (go_at_call 104; exact q_add (spec_gcd _ _ _ (by omega) (by omega) (by omega) (by omega)))))
    rw [G2.out]
    go_wp2_with fail
    have i4 : IntKind.i64.wrap (Q.qn an bd * Q.qn bn ad) = Q.qn an bd * Q.qn bn ad := IntWalk.i64_in _ (by omega)
    go_region_held3 (fun w' => w'.cell? ⟨w.heap.size, 1, none⟩ = some (.int .i64 ad) ∧ w'.cell? ⟨w.heap.size + 1, 1, none⟩ = some (.int .i64 bd)) (first | (simp [go_sem, *]; done) | go_keep)
      ((first | (go_at_call 123; refine (spec_makeRat _ _ _ (by omega) (by omega) (by omega) (by omega) (by omega)).mono ?_; rintro e w1 ⟨rfl, hb1⟩; obtain ⟨hc1, hf1⟩ := bcell hb1; obtain ⟨z10, z11, z12⟩ : w.heap.size < w1.heap.size ∧ w.heap.size + 1 < w1.heap.size ∧ w.heap.size + 1 + 1 < w1.heap.size := by have := hb1.size; (first | omega | (simp at this; omega)))))
    go_wp2_with fail
    all_goals
      refine bodyPost_ret (v := .tuple #[.agg #[.int .i64 (Q.sel (Q.vr (Q.qn an bd * Q.qn bn ad) (Q.qd an bd * Q.qd bn ad)) (Q.qn an bd * Q.qn bn ad)), .int .i64 (Q.sel (Q.vr (Q.qn an bd * Q.qn bn ad) (Q.qd an bd * Q.qd bn ad)) (Q.qd an bd * Q.qd bn ad))], .bool (Q.vr (Q.qn an bd * Q.qn bn ad) (Q.qd an bd * Q.qd bn ad))]) (by simp [results, Try.results107, go_sem, hc1, hf1, z10, z11, z12]) rfl ⟨rfl, ?_⟩
      have h5 : Below w.heap.size w w1 := Below.trans (by (repeat' (first | exact Below.refl _ _ | exact Nat.le_refl _ | assumption | refine belS ?_ ?_ | refine belA ?_ ?_ | refine bel_drewN ?_ _ | (simp; done) | (simp; omega) | omega))) (hb1.mono (by first | exact Nat.le_refl _ | (simp; done) | (simp; omega) | omega))
      (repeat' (first | exact Below.refl _ _ | exact Nat.le_refl _ | assumption | refine belS ?_ ?_ | refine belA ?_ ?_ | refine bel_drewN ?_ _ | (simp; done) | (simp; omega) | omega))
  · have hY0 : (Q.qn bn ad != 0) = true := by simp [hY]
    by_cases hX : 100000000000 / ((Q.qn bn ad).natAbs : Int) < ((Q.qn an bd).natAbs : Int)
    · have hv : Q.vr (Q.qn an bd * Q.qn bn ad) (Q.qd an bd * Q.qd bn ad) = false := by
        have := Q.big_of hY hX
        rw [Int.mul_comm] at this
        rw [Bool.eq_false_iff, Ne, Q.vr_iff]; omega
      rw [hv]
      clear hv
      go_enter Try.func107, Try.ntmps107
      go_wp2_with fail
      go_quiet ((first
          | (go_at_call 105; exact q_same (spec_distance _ _ (by omega) (by omega)))
          | (go_at_call 104; exact Calls.quiet_of (spec_gcd _ _ _ (by omega) (by omega) (by omega) (by omega)))))
      rw [G1.out]
      go_wp2_with fail
      go_quiet ((first
          | (go_at_call 105; exact q_add_same (spec_distance _ _ (by omega) (by omega)))
          | (go_at_call 104; exact q_add (spec_gcd _ _ _ (by omega) (by omega) (by omega) (by omega)))))
      rw [G2.out]
      go_wp2_with fail
      refine (spec_distance _ _ (by omega) (by omega)).mono ?_
      rintro e w1 ⟨rfl, rfl⟩
      go_wp2_with fail
      refine (spec_distance _ _ (by omega) (by omega)).mono ?_
      rintro e w1 ⟨rfl, rfl⟩
      go_wp2_with fail
      refine bodyPost_ret (v := .tuple #[.agg #[.int .i64 0, .int .i64 0], .bool false]) (by simp [results, Try.results107, go_sem]) rfl ⟨rfl, ?_⟩
      (repeat' (first | exact Below.refl _ _ | exact Nat.le_refl _ | assumption | refine belS ?_ ?_ | refine belA ?_ ?_ | refine bel_drewN ?_ _ | (simp; done) | (simp; omega) | omega))
    · obtain ⟨s1, s2⟩ := Q.small_of (.inr ⟨hY, hX⟩)
      rw [Int.mul_comm] at s1 s2
      go_enter Try.func107, Try.ntmps107
      go_wp2_with fail
      go_quiet ((first
          | (go_at_call 105; exact q_same (spec_distance _ _ (by omega) (by omega)))
          | (go_at_call 104; exact Calls.quiet_of (spec_gcd _ _ _ (by omega) (by omega) (by omega) (by omega)))))
      rw [G1.out]
      go_wp2_with fail
      go_quiet ((first
          | (go_at_call 105; exact q_add_same (spec_distance _ _ (by omega) (by omega)))
          | (go_at_call 104; exact q_add (spec_gcd _ _ _ (by omega) (by omega) (by omega) (by omega)))))
      rw [G2.out]
      go_wp2_with fail
      refine (spec_distance _ _ (by omega) (by omega)).mono ?_
      rintro e w1 ⟨rfl, rfl⟩
      go_wp2_with fail
      refine (spec_distance _ _ (by omega) (by omega)).mono ?_
      rintro e w1 ⟨rfl, rfl⟩
      go_wp2_with fail
      have i4 : IntKind.i64.wrap (Q.qn an bd * Q.qn bn ad) = Q.qn an bd * Q.qn bn ad := IntWalk.i64_in _ (by omega)
      go_region_held3 (fun w' => w'.cell? ⟨w.heap.size, 1, none⟩ = some (.int .i64 ad) ∧ w'.cell? ⟨w.heap.size + 1, 1, none⟩ = some (.int .i64 bd)) (first | (simp [go_sem, *]; done) | go_keep)
        ((first | (go_at_call 123; refine (spec_makeRat _ _ _ (by omega) (by omega) (by omega) (by omega) (by omega)).mono ?_; rintro e w1 ⟨rfl, hb1⟩; obtain ⟨hc1, hf1⟩ := bcell hb1; obtain ⟨z10, z11, z12⟩ : w.heap.size < w1.heap.size ∧ w.heap.size + 1 < w1.heap.size ∧ w.heap.size + 1 + 1 < w1.heap.size := by have := hb1.size; (first | omega | (simp at this; omega)))))
      go_wp2_with fail
      all_goals
        refine bodyPost_ret (v := .tuple #[.agg #[.int .i64 (Q.sel (Q.vr (Q.qn an bd * Q.qn bn ad) (Q.qd an bd * Q.qd bn ad)) (Q.qn an bd * Q.qn bn ad)), .int .i64 (Q.sel (Q.vr (Q.qn an bd * Q.qn bn ad) (Q.qd an bd * Q.qd bn ad)) (Q.qd an bd * Q.qd bn ad))], .bool (Q.vr (Q.qn an bd * Q.qn bn ad) (Q.qd an bd * Q.qd bn ad))]) (by simp [results, Try.results107, go_sem, hc1, hf1, z10, z11, z12]) rfl ⟨rfl, ?_⟩
        have h5 : Below w.heap.size w w1 := Below.trans (by (repeat' (first | exact Below.refl _ _ | exact Nat.le_refl _ | assumption | refine belS ?_ ?_ | refine belA ?_ ?_ | refine bel_drewN ?_ _ | (simp; done) | (simp; omega) | omega))) (hb1.mono (by first | exact Nat.le_refl _ | (simp; done) | (simp; omega) | omega))
        (repeat' (first | exact Below.refl _ _ | exact Nat.le_refl _ | assumption | refine belS ?_ ?_ | refine belA ?_ ?_ | refine bel_drewN ?_ _ | (simp; done) | (simp; omega) | omega))
end Go.Proofs.Ytpcfnlffamgdaab.Rat1
