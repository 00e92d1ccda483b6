/-
  The draws of the laws on rational numbers, whole.
-/
import Derived.Test.YtkempbmkplcknaaDrawRat
import Derived.Test.YtkempbmkplcknaaTwo
import Derived.Deep.RegionHeld3
set_option linter.unusedSimpArgs false
set_option linter.unusedVariables false
namespace Go.Proofs.Ytkempbmkplcknaa
open Go.RowKit

theorem Two.only {rb : Nat} {w w' : World} {b : Nat} {x y : Value} (h : Two w b x y) (ho : Only rb w w') (hn : b ≠ rb) : Two w' b x y := h.keep ho.size (ho.block _ h.2.2.2.2 hn)

/-- Two small numbers were drawn. -/
def DrewTwo (B : Nat) (w : World) (e : Ending) (w' : World) : Prop :=
  ∃ n d : Int, (-200000000000 ≤ n ∧ n ≤ 200000000000) ∧ (-200000000000 ≤ d ∧ d ≤ 200000000000) ∧ e = .returned (.tuple #[.int .i64 n, .int .i64 d]) ∧ Below B w w'

theorem DrawMakeRat_any (B len cap : Nat) (a : Option Addr) (w : World) (h : By B w a len cap) (hB : B ≤ w.heap.size) :
    Calls Try.prog 15 #[.slice a len cap] w (DrewTwo B w) := by
  have H := Lib.hid h; clear h
  go_enter Try.func15, Try.ntmps15
  go_wp2_with fail
  refine (newReader_any B _ _ _ _ H.out hB).mono ?_
  rintro e w1 ⟨rfl, hr1, hb1⟩
  have s1 := hr1.2.1
  have HR1 := Lib.hid hr1; clear hr1
  have HB1 := Lib.hid (hb1.mono hB); clear hb1
  go_wp2_with fail
  refine (pick_any B _ 0 _ _ HR1.out (by omega) (by omega) (by omega)).mono ?_
  rintro e w2 ⟨v, v0, v1, rfl, hr, ho⟩
  have HO2 := Lib.hid ho
  have HR2 := Lib.hid hr
  have s2 := ho.size
  clear hr ho
  by_cases hv : v = 0
  · subst hv
    go_wp2_with fail
    refine (one_any B _ 1 _ _ [100000000000, -100000000000, 100000000001, 0, 12] _ (HR2.out.alloc _) (by omega) (by decide) (by decide) (by omega) (by simp) (cells_of (l := [100000000000, -100000000000, 100000000001, 0, 12]))).mono ?_
    rintro e w3 ⟨q, hq, rfl, hr, ho⟩
    have bq : -200000000000 ≤ q ∧ q ≤ 200000000000 := by simp at hq; omega
    have s3 := ho.size
    simp at s3
    have HO3 := Lib.hid ((HO2.out.alloc _).trans ho)
    have HR3 := Lib.hid hr
    clear hr ho hq
    go_wp2_with fail
    refine (one_any B _ 2 _ _ [0, -1, 100000000000, 10000001, 7, -100000000001] _ (HR3.out.alloc _) (by omega) (by decide) (by decide) (by omega) (by simp) (cells_of (l := [0, -1, 100000000000, 10000001, 7, -100000000001]))).mono ?_
    rintro e w4 ⟨u, hu, rfl, hr, ho⟩
    have bu : -200000000000 ≤ u ∧ u ≤ 200000000000 := by simp at hu; omega
    have HO4 := Lib.hid ((HO3.out.alloc _).trans ho)
    clear hr ho hu
    go_wp2_with fail
    go_ret2
    exact ⟨_, _, bq, bu, rfl, HB1.out.trans (HO4.out.below hB (by omega))⟩
  · have hv' : 1 ≤ v := by omega
    clear hv
    go_wp2_with fail
    refine (pick_any B _ 1 _ _ HR2.out (by omega) (by omega) (by omega)).mono ?_
    rintro e w3 ⟨q, q0, q1, rfl, hr, ho⟩
    have HO3 := Lib.hid (HO2.out.trans ho)
    have HR3 := Lib.hid hr
    clear hr ho
    go_wp2_with fail
    refine (pick_any B _ 2 _ _ HR3.out (by omega) (by omega) (by omega)).mono ?_
    rintro e w4 ⟨u, u0, u1, rfl, hr, ho⟩
    have HO4 := Lib.hid (HO3.out.trans ho)
    clear hr ho
    go_wp2_with fail
    go_ret2
    exact ⟨_, _, ⟨by omega, by omega⟩, ⟨by omega, by omega⟩, rfl, HB1.out.trans (HO4.out.below hB (by omega))⟩
end Go.Proofs.Ytkempbmkplcknaa
