
/-
  The draws of the laws on rational numbers: one number, two numbers.
-/
import Derived.Test.YthfneghginanaaaDrawRatB
set_option linter.unusedSimpArgs false
set_option linter.unusedVariables false
namespace Go.Proofs.Ythfneghginanaaa
open Go.RowKit

def DrewR (B : Nat) (w : World) (e : Ending) (w' : World) : Prop :=
  ∃ n d : Int, (-200000000000 ≤ n ∧ n ≤ 200000000000) ∧ (-200000000000 ≤ d ∧ d ≤ 200000000000) ∧ e = .returned (.agg #[.int .i64 n, .int .i64 d]) ∧ Below B w w'
def DrewRR (B : Nat) (w : World) (e : Ending) (w' : World) : Prop :=
  ∃ n d n' d' : Int, (-200000000000 ≤ n ∧ n ≤ 200000000000) ∧ (-200000000000 ≤ d ∧ d ≤ 200000000000) ∧ (-200000000000 ≤ n' ∧ n' ≤ 200000000000) ∧ (-200000000000 ≤ d' ∧ d' ≤ 200000000000) ∧
    e = .returned (.tuple #[.agg #[.int .i64 n, .int .i64 d], .agg #[.int .i64 n', .int .i64 d']]) ∧ Below B w w'

set_option maxHeartbeats 1000000 in
theorem DrawAddRat_any (B len cap : Nat) (a : Option Addr) (w : World) (h : By B w a len cap) (hB : B ≤ w.heap.size) :
    Calls Try.prog 23 #[.slice a len cap] w (DrewRR B w) := by
  have H := Lib.hid (h.below (belA (belA (Below.refl B w) hB (o := .cells #[.int .i64 0, .int .i64 0] 24)) (by simp; omega) (o := .cells #[.int .i64 0, .int .i64 0] 24))); clear h
  go_enter Try.func23, Try.ntmps23
  go_wp2_with fail
  refine (newReader_any B _ _ _ _ H.out (by simp; omega)).mono ?_
  rintro e w1 ⟨rfl, hr1, hb1⟩
  have TA1 := Lib.hid (((Two.new w (.int .i64 0) (.int .i64 0) 24).alloc (.cells #[.int .i64 0, .int .i64 0] 24)).below hb1)
  have TB1 := Lib.hid ((Two.new (w.alloc (.cells #[.int .i64 0, .int .i64 0] 24)) (.int .i64 0) (.int .i64 0) 24).below hb1)
  have hr1 : Rd B w1 (w.heap.size + 1 + 1) 0 := by simpa using hr1
  have TB1 : Hid (Two w1 (w.heap.size + 1) (.int .i64 0) (.int .i64 0)) := Lib.hid (by simpa using TB1.out)
  have s1 := hr1.2.1
  have HR1 := Lib.hid hr1; clear hr1
  have HB1 := Lib.hid (bel2 hb1); clear hb1 H
  go_wp2_with fail
  refine (anyRat_any B _ 0 _ HR1.out (by omega)).mono ?_
  rintro e w2 ⟨n, d, bn, bd, rfl, hr2, ho2⟩
  have TA2 := Lib.hid ((TA1.out.only ho2 (by omega)).alloc (.cells #[.int .i64 n, .int .i64 d] 24))
  have TB2 := Lib.hid ((TB1.out.only ho2 (by omega)).alloc (.cells #[.int .i64 n, .int .i64 d] 24))
  have TC2 := Lib.hid (Two.new w2 (.int .i64 n) (.int .i64 d) 24)
  have HR2 := Lib.hid (hr2.alloc (.cells #[.int .i64 n, .int .i64 d] 24))
  have HO2 := Lib.hid (ho2.alloc (.cells #[.int .i64 n, .int .i64 d] 24))
  have s2 := ho2.size
  clear hr2 ho2 HR1 TA1 TB1
  go_wp2_with fail
  refine (pick_any B _ 3 _ _ HR2.out (by omega) (by omega) (by omega)).mono ?_
  rintro e w3 ⟨v, v0, v1, rfl, hr3, ho3⟩
  have ta3 := TA2.out.only ho3 (by omega)
  have tb3 := TB2.out.only ho3 (by omega)
  have tc3 := TC2.out.only ho3 (by omega)
  have TA3 := Lib.hid ta3
  have TB3 := Lib.hid tb3
  have TC3 := Lib.hid tc3
  have HR3 := Lib.hid hr3
  have HO3 := Lib.hid (HO2.out.trans ho3)
  clear hr3 ho3 HO2 HR2 TA2 TB2 TC2
  obtain ⟨a0, a1, af0, af1, az⟩ := ta3
  obtain ⟨b0, b1, bf0, bf1, bz⟩ := tb3
  obtain ⟨q0, q1, qf0, qf1, qz⟩ := tc3
  have hz1 : w.heap.size ≠ w2.heap.size := by omega
  have hz2 : w.heap.size + 1 ≠ w2.heap.size := by omega
  by_cases hv : v = 0
  · subst hv
    go_wp2_with fail
    go_region
    all_goals
      go_wp2
      refine bodyPost_ret (v := .tuple #[.agg #[.int .i64 n, .int .i64 d], .agg #[.int .i64 n, .int .i64 d]]) (by simp [results, Try.results23, go_sem, a0, a1, af0, af1, az, b0, b1, bf0, bf1, bz]) rfl ⟨_, _, _, _, bn, bd, bn, bd, rfl, ?_⟩
      exact (belS (belS (belS (belS ((HB1.out.mono hB).trans (HO3.out.below (by omega) (by omega))) (by omega)) (by omega)) (by omega)) (by omega)).drew
  · have hv1 : 1 ≤ v := by omega
    clear hv
    go_wp2_with fail
    go_region_held3 (fun w' => w'.cell? ⟨w2.heap.size, 0, none⟩ = some (.int .i64 n) ∧ w'.cell? ⟨w2.heap.size, 1, none⟩ = some (.int .i64 d)) (first | (simp [go_sem, *]; done) | go_keep)
      ((first | (go_at_call 41; refine (anyRat_any B _ 4 _ (HR3.out.drewN _) (by omega)).mono ?_; rintro e w4 ⟨n', d', bn', bd', rfl, hr4, ho4⟩; obtain ⟨a0, a1, af0, af1, az⟩ := (TA3.out.drewN _).only ho4 (by omega); obtain ⟨b0, b1, bf0, bf1, bz⟩ := (TB3.out.drewN _).only ho4 (by omega); obtain ⟨q0, q1, qf0, qf1, qz⟩ := (TC3.out.drewN _).only ho4 (by omega); have HO4 := Lib.hid ((HO3.out.drewN _).trans ho4); clear hr4 ho4)))
    go_wp2_with fail
    all_goals
      refine bodyPost_ret (v := .tuple #[.agg #[.int .i64 n, .int .i64 d], .agg #[.int .i64 n', .int .i64 d']]) (by simp [results, Try.results23, go_sem, a0, a1, af0, af1, az, b0, b1, bf0, bf1, bz]) rfl ⟨_, _, _, _, bn, bd, bn', bd', rfl, ?_⟩
      exact (belS (belS (belS (belS ((HB1.out.mono hB).trans (HO4.out.below (by omega) (by omega))) (by omega)) (by omega)) (by omega)) (by omega))
theorem By.wide {B B' len cap : Nat} {a : Option Addr} {w : World} (h : By B w a len cap) (hB : B ≤ B') : By B' w a len cap := by
  obtain ⟨h0, h1, hby⟩ := h
  refine ⟨h0, h1, ?_⟩
  rcases hby with hz | ⟨bb, off, ha, hbb, hc⟩
  · exact .inl hz
  · exact .inr ⟨bb, off, ha, by omega, hc⟩
theorem DrawMulRat_any (B len cap : Nat) (a : Option Addr) (w : World) (h : By B w a len cap) (hB : B ≤ w.heap.size) :
    Calls Try.prog 5 #[.slice a len cap] w (DrewRR B w) := by
  have H := Lib.hid ((h.below (belA (belA (Below.refl B w) hB (o := .cells #[.int .i64 0, .int .i64 0] 24)) (by simp; omega) (o := .cells #[.int .i64 0, .int .i64 0] 24))).wide (B' := w.heap.size + 1 + 1) (by omega)); clear h
  go_enter Try.func5, Try.ntmps5
  go_wp2_with fail
  refine (DrawAddRat_any (w.heap.size + 1 + 1) _ _ _ _ H.out (by simp)).mono ?_
  rintro e w1 ⟨n, d, n', d', bn, bd, bn', bd', rfl, hb1⟩
  have hb1 : Below ((w.alloc (.cells #[.int .i64 0, .int .i64 0] 24)).alloc (.cells #[.int .i64 0, .int .i64 0] 24)).heap.size ((w.alloc (.cells #[.int .i64 0, .int .i64 0] 24)).alloc (.cells #[.int .i64 0, .int .i64 0] 24)) w1 := by simpa using hb1
  obtain ⟨a0, a1, af0, af1, az⟩ := ((Two.new w (.int .i64 0) (.int .i64 0) 24).alloc (.cells #[.int .i64 0, .int .i64 0] 24)).below hb1
  have tb := (Two.new (w.alloc (.cells #[.int .i64 0, .int .i64 0] 24)) (.int .i64 0) (.int .i64 0) 24).below hb1
  have tb : Two w1 (w.heap.size + 1) (.int .i64 0) (.int .i64 0) := by simpa using tb
  obtain ⟨b0, b1, bf0, bf1, bz⟩ := tb
  have HB1 := Lib.hid (bel2 hb1); clear hb1 H
  go_wp2_with fail
  refine bodyPost_ret (v := .tuple #[.agg #[.int .i64 n, .int .i64 d], .agg #[.int .i64 n', .int .i64 d']]) (by simp [results, Try.results5, go_sem, a0, a1, af0, af1, az, b0, b1, bf0, bf1, bz]) rfl ⟨_, _, _, _, bn, bd, bn', bd', rfl, ?_⟩
  exact belS (belS (belS (belS (HB1.out.mono hB) (by omega)) (by omega)) (by omega)) (by omega)
end Go.Proofs.Ythfneghginanaaa
