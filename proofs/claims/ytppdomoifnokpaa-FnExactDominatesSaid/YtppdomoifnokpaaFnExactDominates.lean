/-
  The statement of the exact law FnExactDominates: at every argument the program's function answers as the model's. No condition.
-/
import Derived.Test.YtppdomoifnokpaaLc
import Derived.Test.YtppdomoifnokpaaO5
set_option linter.unusedSimpArgs false
set_option linter.unusedVariables false
namespace Go.Proofs.Ytppdomoifnokpaa.law_FnExactDominates
open Go.ChangeShapes Go.WideShapes Go.ChangeAt Go.RowKit Go.Joins

theorem cellsL : Try.prog.cellsOf 32 = 5 := by kernel_rfl

set_option maxRecDepth 100000 in
theorem lifted (os : Os) (started : os.Started) (H : Type) (enc : TypeId × Value → H) :
    ReturnsInHanded {} Try.checked os 4 .any (Rows.fnExactDominatesSpec.pre6 enc Try.prog Try.f4 Rows.fnExactDominatesRow.domain false) (Rows.fnExactDominatesSpec.post enc Try.prog Try.f4 false true false false) := by
  refine returnsInHanded_of_change (C := Try.checked) own started (by kernel_rfl) Try.func4
    (ChangeSpec.witness6 (enc := enc) (C := Try.checked) false ⟨#[], #[.agg #[.int .i64 0, .int .i64 0, .int .i64 0, .int .i64 0, .int .i64 0], .agg #[.int .i64 0, .int .i64 0, .int .i64 0, .int .i64 0, .int .i64 0]], []⟩ 8 (by kernel_rfl) (by kernel_rfl) (by kernel_rfl) (by kernel_rfl)) ?_
  intro W base args ds gs before hval0 hW hcnd _
  have hval : ∀ (j : Nat) t v, Try.f4.params[j]? = some t → args[j]? = some v → Value.okWide Try.prog W .any base t v := hval0
  have hW' := hW
  obtain ⟨p, q, hA0, hV, rfl, hfz, hnd⟩ := hW
  have hA : DataW.TrodAll enc Try.prog W 0 (fun _ => true) true Try.f4.params.toList args.toList ds p := hA0
  rw [Try.params4] at hA hval
  obtain ⟨v0, vs0, d0, ds0, p0, q0, hargs, rfl, rfl, h0, r0⟩ := trodAll_cons hA
  obtain ⟨v1, vs1, d1, ds1, p1, q1, rfl, rfl, rfl, h1, r1⟩ := trodAll_cons r0
  obtain ⟨rfl, rfl, rfl⟩ := trodAll_nil r1
  obtain rfl : args = #[v0, v1] := by cases args; simp_all
  obtain ⟨rfl, rfl⟩ := trodVars_none hV
  have k0 := h0
  have lt0 : ∀ x ∈ p0, x.block < W.heap.size := by obtain ⟨m, hm⟩ := k0; exact DataW.trod_lt m _ _ _ hm
  have k1 := h1
  have lt1 : ∀ x ∈ p1, x.block < W.heap.size := by obtain ⟨m, hm⟩ := k1; exact DataW.trod_lt m _ _ _ hm
  obtain ⟨c0_0, c0_1, c0_2, c0_3, c0_4, y0_0, y0_1, y0_2, y0_3, y0_4, m0, rfl, rfl, rfl, hy0_0, hy0_1, hy0_2, hy0_3, hy0_4⟩ := open_agg5 Try.underlying32 (by kernel_rfl) cellsL (hval 0 32 v0 rfl rfl) h0
  obtain ⟨x0_0, e, -, u0_0⟩ := DataW.trod_int Try.underlying3 hy0_0
  simp at e
  subst e
  obtain ⟨x0_1, e, -, u0_1⟩ := DataW.trod_int Try.underlying3 hy0_1
  simp at e
  subst e
  obtain ⟨x0_2, e, -, u0_2⟩ := DataW.trod_int Try.underlying3 hy0_2
  simp at e
  subst e
  obtain ⟨x0_3, e, -, u0_3⟩ := DataW.trod_int Try.underlying3 hy0_3
  simp at e
  subst e
  obtain ⟨x0_4, e, -, u0_4⟩ := DataW.trod_int Try.underlying3 hy0_4
  simp at e
  subst e
  obtain ⟨c1_0, c1_1, c1_2, c1_3, c1_4, y1_0, y1_1, y1_2, y1_3, y1_4, m1, rfl, rfl, rfl, hy1_0, hy1_1, hy1_2, hy1_3, hy1_4⟩ := open_agg5 Try.underlying32 (by kernel_rfl) cellsL (hval 1 32 v1 rfl rfl) h1
  obtain ⟨x1_0, e, -, u1_0⟩ := DataW.trod_int Try.underlying3 hy1_0
  simp at e
  subst e
  obtain ⟨x1_1, e, -, u1_1⟩ := DataW.trod_int Try.underlying3 hy1_1
  simp at e
  subst e
  obtain ⟨x1_2, e, -, u1_2⟩ := DataW.trod_int Try.underlying3 hy1_2
  simp at e
  subst e
  obtain ⟨x1_3, e, -, u1_3⟩ := DataW.trod_int Try.underlying3 hy1_3
  simp at e
  subst e
  obtain ⟨x1_4, e, -, u1_4⟩ := DataW.trod_int Try.underlying3 hy1_4
  simp at e
  subst e
  clear hA0 hval0
  refine (FnExactDominates_walk x0_0 x0_1 x0_2 x0_3 x0_4 x1_0 x1_1 x1_2 x1_3 x1_4 W ⟨i64_of_wf u0_0, i64_of_wf u0_1, i64_of_wf u0_2, i64_of_wf u0_3, i64_of_wf u0_4⟩ ⟨i64_of_wf u1_0, i64_of_wf u1_1, i64_of_wf u1_2, i64_of_wf u1_3, i64_of_wf u1_4⟩).mono fun e W' ⟨he, bel⟩ => ?_
  subst he
  exact ⟨_, rfl, _, _, _, [], _, [], hW', trodAll_mk1 (shut_bool Try.underlying4 _), (trodAll_cons_mk (Below.trod laidOut (by kernel_rfl) (of_decide_eq_true (by kernel_rfl)) k0 bel lt0) (trodAll_cons_mk (Below.trod laidOut (by kernel_rfl) (of_decide_eq_true (by kernel_rfl)) k1 bel lt1) trodAll_mk0)), rfl, bel.frame _, fun h => by cases h⟩

theorem over : Rows.fnExactDominatesRow.holds Try.pinned (OpenSpec.ofChange Rows.fnExactDominatesSpec) :=
  OpenClaim.holds_of_wide 4 Try.f4 rfl rfl rfl rfl rfl rfl rfl ⟨rfl, rfl, rfl, rfl, rfl⟩ rfl rfl rfl rfl rfl (by kernel_rfl) Try.func4 (by kernel_rfl)
    (of_decide_eq_true (by kernel_rfl)) (by unfold Func.isWrapper; first | (rw [if_pos (by decide +kernel)]; kernel_rfl) | (rw [if_neg (by decide +kernel)]; exact ⟨rfl, rfl⟩))
    (fun os started H enc _ => lifted os started H enc)

theorem proved : Rows.FnExactDominatesSaid := over
end Go.Proofs.Ytppdomoifnokpaa.law_FnExactDominates
