
/-
  The draws of the laws on rational numbers: one number, two numbers.
-/
import Derived.Test.YtibehbfnkecmkaaDrawRatB
set_option linter.unusedSimpArgs false
set_option linter.unusedVariables false
namespace Go.Proofs.Ytibehbfnkecmkaa
open Go.RowKit

def DrewR (B : Nat) (w : World) (e : Ending) (w' : World) : Prop :=
  ∃ n d : Int, (-200000000000 ≤ n ∧ n ≤ 200000000000) ∧ (-200000000000 ≤ d ∧ d ≤ 200000000000) ∧ e = .returned (.agg #[.int .i64 n, .int .i64 d]) ∧ Below B w w'
def DrewRR (B : Nat) (w : World) (e : Ending) (w' : World) : Prop :=
  ∃ n d n' d' : Int, (-200000000000 ≤ n ∧ n ≤ 200000000000) ∧ (-200000000000 ≤ d ∧ d ≤ 200000000000) ∧ (-200000000000 ≤ n' ∧ n' ≤ 200000000000) ∧ (-200000000000 ≤ d' ∧ d' ≤ 200000000000) ∧
    e = .returned (.tuple #[.agg #[.int .i64 n, .int .i64 d], .agg #[.int .i64 n', .int .i64 d']]) ∧ Below B w w'

theorem DrawFloorRat_any (B len cap : Nat) (a : Option Addr) (w : World) (h : By B w a len cap) (hB : B ≤ w.heap.size) :
    Calls Try.prog 34 #[.slice a len cap] w (DrewR B w) := by
  have H := Lib.hid (h.below (belA (Below.refl B w) hB (o := .cells #[.int .i64 0, .int .i64 0] 46))); clear h
  go_enter Try.func34, Try.ntmps34
  go_wp2_with fail
  refine (newReader_any B _ _ _ _ H.out (by simp; omega)).mono ?_
  rintro e w1 ⟨rfl, hr1, hb1⟩
  have T1 := Lib.hid ((Two.new w (.int .i64 0) (.int .i64 0) 46).below hb1)
  have hr1 : Rd B w1 (w.heap.size + 1) 0 := by simpa using hr1
  have s1 := hr1.2.1
  have HR1 := Lib.hid hr1; clear hr1
  have HB1 := Lib.hid (bel1 hb1); clear hb1 H
  go_wp2_with fail
  refine (anyRat_any B _ 0 _ HR1.out (by omega)).mono ?_
  rintro e w2 ⟨n, d, bn, bd, rfl, hr, ho⟩
  have T2 := T1.out.only ho (by simp)
  obtain ⟨c0, c1, f0, f1, z2⟩ := T2
  have HB2 := Lib.hid ((HB1.out.mono hB).trans (ho.below (by omega) (by omega)))
  clear hr ho HR1 HB1 T1
  go_wp2_with fail
  refine bodyPost_ret (v := .agg #[.int .i64 n, .int .i64 d]) (by simp [results, Try.results34, go_sem, c0, c1, f0, f1, z2]) rfl ⟨_, _, bn, bd, rfl, ?_⟩
  exact belS (belS HB2.out (by omega)) (by omega)

theorem By.wide {B B' len cap : Nat} {a : Option Addr} {w : World} (h : By B w a len cap) (hB : B ≤ B') : By B' w a len cap := by
  obtain ⟨h0, h1, hby⟩ := h
  refine ⟨h0, h1, ?_⟩
  rcases hby with hz | ⟨bb, off, ha, hbb, hc⟩
  · exact .inl hz
  · exact .inr ⟨bb, off, ha, by omega, hc⟩
end Go.Proofs.Ytibehbfnkecmkaa
