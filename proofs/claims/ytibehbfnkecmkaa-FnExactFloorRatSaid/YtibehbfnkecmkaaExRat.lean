
/-
  The walks of the exact laws on rational numbers.
-/
import Derived.Test.YtibehbfnkecmkaaRatH
import Derived.Test.YtibehbfnkecmkaaTwo
import Derived.Deep.RegionHeld3
import Derived.Deep.DeepCutAuto
set_option linter.unusedSimpArgs false
set_option linter.unusedVariables false
namespace Go.Proofs.Ytibehbfnkecmkaa
open Go.RowKit

theorem laws_toRat (n d : Int) (w : World) : Calls Try.prog 47 #[.agg #[.int .i64 n, .int .i64 d]] w fun e w' => e = .returned (.agg #[.int .i64 n, .int .i64 d]) ∧ Below w.heap.size w w' := by
  go_enter Try.func47, Try.ntmps47
  go_wp2_with fail
  refine bodyPost_ret (v := .agg #[.int .i64 n, .int .i64 d]) (by simp [results, Try.results47, go_sem]) rfl ⟨rfl, ?_⟩
  (repeat' (first | exact Below.refl _ _ | exact Nat.le_refl _ | assumption | refine belS ?_ ?_ | refine belA ?_ ?_ | refine bel_drewN ?_ _ | (simp; done) | (simp; omega) | omega))
theorem FnExactFloorRat_walk (n d : Int) (w : World) : Calls Try.prog 12 #[.agg #[.int .i64 n, .int .i64 d]] w fun e w' => e = .returned (.bool true) ∧ Below w.heap.size w w' := by
  go_enter Try.func12, Try.ntmps12
  go_wp2_with fail
  refine (laws_toRat _ _ _).mono ?_
  rintro e w1 ⟨rfl, hb1⟩
  obtain ⟨hc1, hf1⟩ := bcell hb1
  have z10 : w.heap.size < w1.heap.size := by have := hb1.size; (first | omega | (simp at this; omega))
  go_wp2_with fail
  refine (spec_FloorRat _ _ _).mono ?_
  rintro e w2 ⟨rfl, hb2⟩
  obtain ⟨hc2, hf2⟩ := bcell hb2
  have z20 : w.heap.size < w2.heap.size := by have := hb2.size; (first | omega | (simp at this; omega))
  go_wp2_with fail
  refine (laws_toRat _ _ _).mono ?_
  rintro e w3 ⟨rfl, hb3⟩
  obtain ⟨hc3, hf3⟩ := bcell hb3
  have z30 : w.heap.size < w3.heap.size := by have := hb3.size; (first | omega | (simp at this; omega))
  go_wp2_with fail
  refine (impl_FloorRat _ _ _).mono ?_
  rintro e w4 ⟨rfl, hb4⟩
  obtain ⟨hc4, hf4⟩ := bcell hb4
  have z40 : w.heap.size < w4.heap.size := by have := hb4.size; (first | omega | (simp at this; omega))
  go_wp2_with fail
  go_ret
  exact ⟨rfl, belT (belT (belT (bel1 hb1) hb2) hb3) hb4⟩
end Go.Proofs.Ytibehbfnkecmkaa
