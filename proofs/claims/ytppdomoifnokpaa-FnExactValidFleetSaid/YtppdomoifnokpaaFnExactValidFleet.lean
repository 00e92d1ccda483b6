/-
  The statement of the exact law FnExactValidFleet: at every argument the program's function answers as the model's. No condition.
-/
import Derived.Test.YtppdomoifnokpaaLwVF
import Derived.Test.YtppdomoifnokpaaO6
set_option linter.unusedSimpArgs false
set_option linter.unusedVariables false
namespace Go.Proofs.Ytppdomoifnokpaa.law_FnExactValidFleet
open Go.ChangeShapes Go.WideShapes Go.ChangeAt Go.RowKit Go.Joins

theorem cellsF : Try.prog.cellsOf 40 = 3 := by kernel_rfl

set_option maxRecDepth 100000 in
theorem lifted (os : Os) (started : os.Started) (H : Type) (enc : TypeId × Value → H) :
    ReturnsInHanded {} Try.checked os 5 .any (Rows.fnExactValidFleetSpec.pre6 enc Try.prog Try.f5 Rows.fnExactValidFleetRow.domain false) (Rows.fnExactValidFleetSpec.post enc Try.prog Try.f5 false true false false) := by
  refine returnsInHanded_of_change (C := Try.checked) own started (by kernel_rfl) Try.func5
    (ChangeSpec.witness6 (enc := enc) (C := Try.checked) false ⟨#[], #[.agg #[.slice none 0 0, .slice none 0 0, .int .i64 0]], []⟩ 8 (by kernel_rfl) (by kernel_rfl) (by kernel_rfl) (by kernel_rfl)) ?_
  intro W base args ds gs before hval0 hW hcnd _
  have hval : ∀ (j : Nat) t v, Try.f5.params[j]? = some t → args[j]? = some v → Value.okWide Try.prog W .any base t v := hval0
  have hW' := hW
  obtain ⟨p, q, hA0, hV, rfl, hfz, hnd⟩ := hW
  have hA : DataW.TrodAll enc Try.prog W 0 (fun _ => true) true Try.f5.params.toList args.toList ds p := hA0
  rw [Try.params5] at hA hval
  obtain ⟨v0, vs0, d0, ds0, p0, q0, hargs, rfl, rfl, h0, r0⟩ := trodAll_cons hA
  obtain ⟨rfl, rfl, rfl⟩ := trodAll_nil r0
  obtain rfl : args = #[v0] := by cases args; simp_all
  obtain ⟨rfl, rfl⟩ := trodVars_none hV
  have k0 := h0
  have lt0 : ∀ x ∈ p0, x.block < W.heap.size := by obtain ⟨m, hm⟩ := k0; exact DataW.trod_lt m _ _ _ hm
  obtain ⟨c0_0, c0_1, c0_2, y0_0, y0_1, y0_2, m0, rfl, rfl, rfl, hy0_0, hy0_1, hy0_2⟩ := open_agg3 Try.underlying40 (by kernel_rfl) cellsF (hval 0 40 v0 rfl rfl) h0
  obtain ⟨A0_0, n0_0, k0_0, xs0, rfl, le0_0, cap0_0, hi0_0⟩ := flat_of_trod (C := 4) (by omega) Try.underlying37 (by kernel_rfl) (flatElem4 Try.underlying116 (by kernel_rfl) (by kernel_rfl) Try.underlying3 Try.underlying3 Try.underlying3 Try.underlying3) hy0_0
  obtain ⟨A0_1, n0_1, k0_1, xss0, rfl, le0_1, cap0_1, hi0_1⟩ := lists_of_trod Try.underlying38 (by kernel_rfl) Try.underlying22 Try.underlying3 (by kernel_rfl) hy0_1
  obtain ⟨a0, e, -, u0⟩ := DataW.trod_int Try.underlying3 hy0_2
  simp at e
  subst e
  have e := hi0_1.1; subst e
  clear hA0 hval0
  refine (FnExactValidFleet_walk A0_0 A0_1 k0_0 k0_1 ⟨n0_0, xs0, xss0, a0⟩ W ⟨hi0_0, hi0_1, le0_0, le0_1, cap0_0, cap0_1, i64_of_wf u0⟩).mono fun e W' ⟨he, bel⟩ => ?_
  subst he
  exact ⟨_, rfl, _, _, _, [], _, [], hW', trodAll_mk1 (shut_bool Try.underlying4 _), (trodAll_cons_mk (Below.trod laidOut (by kernel_rfl) (of_decide_eq_true (by kernel_rfl)) k0 bel lt0) trodAll_mk0), rfl, bel.frame _, fun h => by cases h⟩

theorem over : Rows.fnExactValidFleetRow.holds Try.pinned (OpenSpec.ofChange Rows.fnExactValidFleetSpec) :=
  OpenClaim.holds_of_wide 5 Try.f5 rfl rfl rfl rfl rfl rfl rfl ⟨rfl, rfl, rfl, rfl, rfl⟩ rfl rfl rfl rfl rfl (by kernel_rfl) Try.func5 (by kernel_rfl)
    (of_decide_eq_true (by kernel_rfl)) (by unfold Func.isWrapper; first | (rw [if_pos (by decide +kernel)]; kernel_rfl) | (rw [if_neg (by decide +kernel)]; exact ⟨rfl, rfl⟩))
    (fun os started H enc _ => lifted os started H enc)

theorem proved : Rows.FnExactValidFleetSaid := over
end Go.Proofs.Ytppdomoifnokpaa.law_FnExactValidFleet
