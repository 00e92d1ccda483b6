/-
  The statement of the exact law FnExactCountBest: at every argument the program's function answers as the model's. No condition.
-/
import Derived.Test.YtpcfnlffamgdaaaLwCt
import Derived.Test.YtpcfnlffamgdaaaOp
set_option linter.unusedSimpArgs false
set_option linter.unusedVariables false
namespace Go.Proofs.Ytpcfnlffamgdaaa.law_FnExactCountBest
open Go.ChangeShapes Go.WideShapes Go.ChangeAt Go.RowKit Go.Joins

theorem cellsP : Try.prog.cellsOf 57 = 3 := by kernel_rfl

set_option maxRecDepth 100000 in
theorem lifted (os : Os) (started : os.Started) (H : Type) (enc : TypeId × Value → H) :
    ReturnsInHanded {} Try.checked os 10 .any (Rows.fnExactCountBestSpec.pre6 enc Try.prog Try.f10 Rows.fnExactCountBestRow.domain false) (Rows.fnExactCountBestSpec.post enc Try.prog Try.f10 false true false false) := by
  refine returnsInHanded_of_change (C := Try.checked) own started (by kernel_rfl) Try.func10
    (ChangeSpec.witness6 (enc := enc) (C := Try.checked) false ⟨#[], #[.agg #[.slice none 0 0, .slice none 0 0, .slice none 0 0]], []⟩ 8 (by kernel_rfl) (by kernel_rfl) (by kernel_rfl) (by kernel_rfl)) ?_
  intro W base args ds gs before hval0 hW hcnd _
  have hval : ∀ (j : Nat) t v, Try.f10.params[j]? = some t → args[j]? = some v → Value.okWide Try.prog W .any base t v := hval0
  have hW' := hW
  obtain ⟨p, q, hA0, hV, rfl, hfz, hnd⟩ := hW
  have hA : DataW.TrodAll enc Try.prog W 0 (fun _ => true) true Try.f10.params.toList args.toList ds p := hA0
  rw [Try.params10] at hA hval
  obtain ⟨v0, vs0, d0, ds0, p0, q0, hargs, rfl, rfl, h0, r0⟩ := trodAll_cons hA
  obtain ⟨rfl, rfl, rfl⟩ := trodAll_nil r0
  obtain rfl : args = #[v0] := by cases args; simp_all
  obtain ⟨rfl, rfl⟩ := trodVars_none hV
  have k0 := h0
  have lt0 : ∀ x ∈ p0, x.block < W.heap.size := by obtain ⟨m, hm⟩ := k0; exact DataW.trod_lt m _ _ _ hm
  obtain ⟨c0_0, c0_1, c0_2, y0_0, y0_1, y0_2, m0, rfl, rfl, rfl, hy0_0, hy0_1, hy0_2⟩ := open_agg3 Try.underlying57 (by kernel_rfl) cellsP (hval 0 57 v0 rfl rfl) h0
  obtain ⟨A0_0, n0_0, k0_0, xs0_0, rfl, le0_0, cap0_0, hi0_0⟩ := ints_of_trod Try.underlying54 Try.underlying3 (by kernel_rfl) hy0_0
  obtain ⟨A0_1, n0_1, k0_1, xs0_1, rfl, le0_1, cap0_1, hi0_1⟩ := ints_of_trod Try.underlying54 Try.underlying3 (by kernel_rfl) hy0_1
  obtain ⟨A0_2, n0_2, k0_2, rs0, rfl, le0_2, cap0_2, hi0_2⟩ := rows_of_trod Try.underlying55 Try.underlying135 (by kernel_rfl) (by kernel_rfl) Try.underlying54 Try.underlying3 (by kernel_rfl) Try.underlying3 Try.underlying3 hy0_2
  have e := hi0_0.1; subst e
  have e := hi0_1.1; subst e
  have e := hi0_2.1; subst e
  clear hA0 hval0
  refine (FnExactCountBest_walk A0_0 A0_1 A0_2 k0_0 k0_1 k0_2 ⟨xs0_0, xs0_1, rs0⟩ W ⟨hi0_0, hi0_1, hi0_2, le0_0, le0_1, le0_2, cap0_0, cap0_1, cap0_2⟩).mono fun e W' ⟨he, bel⟩ => ?_
  subst he
  exact ⟨_, rfl, _, _, _, [], _, [], hW', trodAll_mk1 (shut_bool Try.underlying4 _), (trodAll_cons_mk (Below.trod laidOut (by kernel_rfl) (of_decide_eq_true (by kernel_rfl)) k0 bel lt0) trodAll_mk0), rfl, bel.frame _, fun h => by cases h⟩

theorem over : Rows.fnExactCountBestRow.holds Try.pinned (OpenSpec.ofChange Rows.fnExactCountBestSpec) :=
  OpenClaim.holds_of_wide 10 Try.f10 rfl rfl rfl rfl rfl rfl rfl ⟨rfl, rfl, rfl, rfl, rfl⟩ rfl rfl rfl rfl rfl (by kernel_rfl) Try.func10 (by kernel_rfl)
    (of_decide_eq_true (by kernel_rfl)) (by unfold Func.isWrapper; first | (rw [if_pos (by decide +kernel)]; kernel_rfl) | (rw [if_neg (by decide +kernel)]; exact ⟨rfl, rfl⟩))
    (fun os started H enc _ => lifted os started H enc)

theorem proved : Rows.FnExactCountBestSaid := over
end Go.Proofs.Ytpcfnlffamgdaaa.law_FnExactCountBest
