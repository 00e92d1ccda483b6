
/-
  The walks of the laws FnValidRat and FnFloorRat.
-/
import Derived.Test.YtibehbfnkecmkaaDrawRatC
set_option linter.unusedSimpArgs false
set_option linter.unusedVariables false
namespace Go.Proofs.Ytibehbfnkecmkaa
open Go.RowKit

set_option maxHeartbeats 4000000 in
theorem FnFloorRat_walk (a : Option Addr) (len cap : Nat) (w : World) (h : By w.heap.size w a len cap) :
    Calls Try.prog 9 #[.slice a len cap] w fun e w' => e = .returned (.bool true) ∧ Below w.heap.size w w' := by
  have hl := h.1
  have hl2 := h.2.1
  unfold maxLen at hl2
  have H := Lib.hid h; clear h
  by_cases hbig : 1048576 < len
  · go_enter Try.func9, Try.ntmps9
    go_wp2_with fail
    go_ret
    exact ⟨rfl, Below.refl _ _⟩
  · go_enter Try.func9, Try.ntmps9
    go_wp2_with fail
    refine (DrawFloorRat_any w.heap.size _ _ _ _ H.out (Nat.le_refl _)).mono ?_
    rintro e w1 ⟨n, d, ⟨bn1, bn2⟩, ⟨bd1, bd2⟩, rfl, hb1⟩
    have hs1 := hb1.size
    clear H
    cases hv : Q.vr n d
    · go_wp2_with fail
      refine (impl_FloorRat _ _ _).mono ?_
      rintro e w2 ⟨rfl, hb2⟩
      obtain ⟨hc2, hf2⟩ := bcell hb2
      have h2 := belTA hb1 hb2
      have s2_0 : w1.heap.size < w2.heap.size := by have := hb2.size; (first | omega | (simp at this; omega))
      go_wp2_with fail
      refine (spec_FloorRat _ _ _).mono ?_
      rintro e w3 ⟨rfl, hb3⟩
      obtain ⟨hc3, hf3⟩ := bcell hb3
      have h3 := belT h2 hb3
      have s3_0 : w1.heap.size < w3.heap.size := by have := hb3.size; (first | omega | (simp at this; omega))
      go_wp2_with fail
      refine (impl_ValidRat _ _ _).mono ?_
      rintro e w4 ⟨rfl, hb4⟩
      obtain ⟨hc4, hf4⟩ := bcell hb4
      have h4 := belT h3 hb4
      have s4_0 : w1.heap.size < w4.heap.size := by have := hb4.size; (first | omega | (simp at this; omega))
      go_wp2_with fail
      refine (spec_FloorRat _ _ _).mono ?_
      rintro e w5 ⟨rfl, hb5⟩
      obtain ⟨hc5, hf5⟩ := bcell hb5
      have h5 := belT h4 hb5
      have s5_0 : w1.heap.size < w5.heap.size := by have := hb5.size; (first | omega | (simp at this; omega))
      go_wp2_with fail
      go_ret
      exact ⟨rfl, h5⟩
    · obtain ⟨g1, g2⟩ := Q.flr_of hv
      obtain ⟨a1, a2, a3, a4, _⟩ := Q.vr_iff.1 hv
      go_wp2_with fail
      refine (impl_FloorRat _ _ _).mono ?_
      rintro e w2 ⟨rfl, hb2⟩
      obtain ⟨hc2, hf2⟩ := bcell hb2
      have h2 := belTA hb1 hb2
      have s2_0 : w1.heap.size < w2.heap.size := by have := hb2.size; (first | omega | (simp at this; omega))
      go_wp2_with fail
      refine (spec_FloorRat _ _ _).mono ?_
      rintro e w3 ⟨rfl, hb3⟩
      obtain ⟨hc3, hf3⟩ := bcell hb3
      have h3 := belT h2 hb3
      have s3_0 : w1.heap.size < w3.heap.size := by have := hb3.size; (first | omega | (simp at this; omega))
      go_wp2_with fail
      refine (impl_ValidRat _ _ _).mono ?_
      rintro e w4 ⟨rfl, hb4⟩
      obtain ⟨hc4, hf4⟩ := bcell hb4
      have h4 := belT h3 hb4
      have s4_0 : w1.heap.size < w4.heap.size := by have := hb4.size; (first | omega | (simp at this; omega))
      go_wp2_with fail
      go_ret
      exact ⟨rfl, h4⟩
end Go.Proofs.Ytibehbfnkecmkaa
