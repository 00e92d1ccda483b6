
/-
  The draws of the laws on rational numbers.
-/
import Derived.Test.YtpcfnlffamgdaabR1f
import Derived.Test.YtpcfnlffamgdaabRdr
set_option linter.unusedSimpArgs false
set_option linter.unusedVariables false
namespace Go.Proofs.Ytpcfnlffamgdaab.Rat1
open Go.RowKit

theorem own2 {rb : Nat} {w w1 : World} {t : TypeId} (h : Only rb (w.alloc (.cells #[.int .i64 0, .int .i64 0] t)) w1) (hrb : rb < w.heap.size) :
    w1.cell? ⟨w.heap.size, 0, none⟩ = some (.int .i64 0) ∧ w1.cell? ⟨w.heap.size, 1, none⟩ = some (.int .i64 0) ∧ w1.frozen? ⟨w.heap.size, 0, none⟩ = false ∧ w1.frozen? ⟨w.heap.size, 1, none⟩ = false ∧ w.heap.size < w1.heap.size := by
  have hs := h.size
  simp at hs
  have hl : w.heap.size < (w.alloc (.cells #[.int .i64 0, .int .i64 0] t)).heap.size := by simp
  rw [h.cell hl (by omega), h.cell hl (by omega), h.frozen hl (by omega), h.frozen hl (by omega)]
  refine ⟨?_, ?_, ?_, ?_, by omega⟩ <;> simp [World.cell?_alloc_new, go_sem]
theorem only_start {rb : Nat} {w w1 : World} {o : Obj} (h : Only rb (w.alloc o) w1) : Only rb w w1 := ((Only.refl _ _).alloc _).trans h

/-- A rational number was drawn: its parts are small. -/
def DrewRat (B rb P : Nat) (w : World) (e : Ending) (w' : World) : Prop :=
  ∃ n d : Int, (-200000000000 ≤ n ∧ n ≤ 200000000000) ∧ (-200000000000 ≤ d ∧ d ≤ 200000000000) ∧ e = .returned (.agg #[.int .i64 n, .int .i64 d]) ∧ Rd B w' rb P ∧ Only rb w w'
theorem Q.sel_bd {b : Bool} {x M : Int} (hM : 0 ≤ M) (h : -M ≤ x ∧ x ≤ M) : -M ≤ Q.sel b x ∧ Q.sel b x ≤ M := by
  unfold Q.sel; split <;> omega

theorem sel_bdn {b : Bool} {x : Int} (h : -200000000000 ≤ x ∧ x ≤ 200000000000) : -200000000000 ≤ Q.sel b x ∧ Q.sel b x ≤ 200000000000 := Q.sel_bd (by omega) h
/-- The cells of a list that was just laid. -/
theorem cells_of {w : World} {l : List Int} {t : TypeId} : ∀ i, i < l.length → (w.alloc (.cells (l.map (Value.int .i64)).toArray t)).cell? ⟨w.heap.size, i, none⟩ = some (.int .i64 (l.getD i 0)) := by
  intro i hi
  simp [World.cell?_alloc_new, hi]

set_option maxHeartbeats 1000000 in
theorem randomRat_any (B rb P : Nat) (w : World) (hr : Rd B w rb P) (hP : P ≤ 900000) :
    Calls Try.prog 101 #[.pointer (some ⟨rb, 0, none⟩)] w (DrewRat B rb (P + 2) w) := by
  have hrb := hr.2.1
  have hB := hr.1
  have HR := Lib.hid hr; clear hr
  go_enter Try.func101, Try.ntmps101
  go_wp2_with fail
  refine (pick_any B rb P _ _ (HR.out.alloc _) (by omega) (by omega) (by omega)).mono ?_
  rintro e w1 ⟨v, v0, v1, rfl, hr, ho⟩
  have HO1 := Lib.hid (id ho)
  have HR1 := Lib.hid hr
  clear hr ho
  obtain ⟨c0, c1, f0, f1, z1⟩ := own2 HO1.out hrb
  go_wp2_with fail
  refine (pick_any B rb (P + 1) _ _ HR1.out (by omega) (by omega) (by omega)).mono ?_
  rintro e w2 ⟨u, u0, u1, rfl, hr, ho⟩
  have HO2 := Lib.hid (HO1.out.trans ho)
  have HR2 := Lib.hid hr
  clear hr ho
  obtain ⟨c0, c1, f0, f1, z2⟩ := own2 HO2.out hrb
  go_wp2_with fail
  refine (spec_makeRat _ _ _ (by omega) (by omega) (by omega) (by omega) (by omega)).mono ?_
  rintro e w3 ⟨rfl, hb3⟩
  have HR3 := Lib.hid (HR2.out.below hb3)
  have HO3 := Lib.hid (HO2.out.trans (Only.of_below hb3))
  clear hb3
  obtain ⟨c0, c1, f0, f1, z3⟩ := own2 HO3.out hrb
  obtain ⟨b1, b2, b3⟩ := Q.q_bd (n := v - 20) (show 0 < 1 + u by omega)
  go_wp2_with fail
  refine bodyPost_ret (v := .agg #[.int .i64 (Q.sel (Q.vr (Q.qn (v - 20) (1 + u)) (Q.qd (v - 20) (1 + u))) (Q.qn (v - 20) (1 + u))), .int .i64 (Q.sel (Q.vr (Q.qn (v - 20) (1 + u)) (Q.qd (v - 20) (1 + u))) (Q.qd (v - 20) (1 + u)))]) (by simp [results, Try.results101, go_sem, c0, c1, f0, f1, z3]) rfl ⟨_, _, sel_bdn (by omega), sel_bdn (by omega), rfl, ?_, ?_⟩
  · clear HR1 HR2
    (repeat' (first | assumption | exact Hid.out (by assumption) | refine Rd.set ?_ (by omega) (by omega) | refine Rd.alloc ?_ _ | refine Rd.drewN ?_ _))
  · clear HO1 HO2
    have HH := only_start HO3.out
    (repeat' (first | exact Only.refl _ _ | assumption | exact Only.start (Hid.out (by assumption)) | refine Only.setNew ?_ (by first | exact Nat.le_refl _ | omega) | refine Only.alloc ?_ _ | refine Only.drewN ?_ _))

set_option maxHeartbeats 1000000 in
theorem anyRat_any (B rb P : Nat) (w : World) (hr : Rd B w rb P) (hP : P ≤ 800000) :
    Calls Try.prog 70 #[.pointer (some ⟨rb, 0, none⟩)] w (DrewRat B rb (P + 3) w) := by
  have hrb := hr.2.1
  have hB := hr.1
  have HR := Lib.hid hr; clear hr
  go_enter Try.func70, Try.ntmps70
  go_wp2_with fail
  refine (pick_any B rb P _ _ (HR.out.alloc _) (by omega) (by omega) (by omega)).mono ?_
  rintro e w1 ⟨v, v0, v1, rfl, hr, ho⟩
  have HO1 := Lib.hid (id ho)
  have HR1 := Lib.hid hr
  clear hr ho
  obtain ⟨c0, c1, f0, f1, z1⟩ := own2 HO1.out hrb
  rcases (by omega : v = 0 ∨ v = 1 ∨ v = 2 ∨ v = 3 ∨ 4 ≤ v) with rfl | rfl | rfl | rfl | hv
  · go_wp2_with fail
    refine (pick_any B rb (P + 1) _ _ HR1.out (by omega) (by omega) (by omega)).mono ?_
    rintro e w2 ⟨u, u0, u1, rfl, hr, ho⟩
    have HO2 := Lib.hid (HO1.out.trans ho)
    have HR2 := Lib.hid hr
    clear hr ho
    obtain ⟨c0, c1, f0, f1, z2⟩ := own2 HO2.out hrb
    go_wp2_with fail
    refine (one_any B rb (P + 2) _ _ [0, -1, 2, 10000001] _ (HR2.out.alloc _) (by omega) (by decide) (by decide) (by omega) (by simp) (cells_of (l := [0, -1, 2, 10000001]))).mono ?_
    rintro e w3 ⟨q, hq, rfl, hr, ho⟩
    have HO3 := Lib.hid ((HO2.out.alloc _).trans ho)
    have HR3 := Lib.hid hr
    clear hr ho
    obtain ⟨c0, c1, f0, f1, z3⟩ := own2 HO3.out hrb
    have bq : -200000000000 ≤ q ∧ q ≤ 200000000000 := by simp at hq; omega
    clear hq
    go_wp2_with fail
    refine bodyPost_ret (v := .agg #[.int .i64 (u), .int .i64 (q)]) (by simp [results, Try.results70, go_sem, c0, c1, f0, f1, z3]) rfl ⟨_, _, ⟨by omega, by omega⟩, ⟨by omega, by omega⟩, rfl, ?_, ?_⟩
    · refine Rd.mono (P := P + 3) ?_ (by omega)
      have HH := HR3.out
      (repeat' (first | assumption | exact Hid.out (by assumption) | refine Rd.set ?_ (by omega) (by omega) | refine Rd.alloc ?_ _ | refine Rd.drewN ?_ _))
    · have HH := only_start HO3.out
      (repeat' (first | exact Only.refl _ _ | assumption | exact Only.start (Hid.out (by assumption)) | refine Only.setNew ?_ (by first | exact Nat.le_refl _ | omega) | refine Only.alloc ?_ _ | refine Only.drewN ?_ _))
  · go_wp2_with fail
    refine (one_any B rb (P + 1) _ _ [100000000000, -100000000000, 100000000001, 99999999999] _ (HR1.out.alloc _) (by omega) (by decide) (by decide) (by omega) (by simp) (cells_of (l := [100000000000, -100000000000, 100000000001, 99999999999]))).mono ?_
    rintro e w2 ⟨u, hu, rfl, hr, ho⟩
    have HO2 := Lib.hid ((HO1.out.alloc _).trans ho)
    have HR2 := Lib.hid hr
    clear hr ho
    obtain ⟨c0, c1, f0, f1, z2⟩ := own2 HO2.out hrb
    have bu : -200000000000 ≤ u ∧ u ≤ 200000000000 := by simp at hu; omega
    clear hu
    go_wp2_with fail
    refine (one_any B rb (P + 2) _ _ [1, 7, 3] _ (HR2.out.alloc _) (by omega) (by decide) (by decide) (by omega) (by simp) (cells_of (l := [1, 7, 3]))).mono ?_
    rintro e w3 ⟨q, hq, rfl, hr, ho⟩
    have HO3 := Lib.hid ((HO2.out.alloc _).trans ho)
    have HR3 := Lib.hid hr
    clear hr ho
    obtain ⟨c0, c1, f0, f1, z3⟩ := own2 HO3.out hrb
    have bq : -200000000000 ≤ q ∧ q ≤ 200000000000 := by simp at hq; omega
    clear hq
    go_wp2_with fail
    refine bodyPost_ret (v := .agg #[.int .i64 (u), .int .i64 (q)]) (by simp [results, Try.results70, go_sem, c0, c1, f0, f1, z3]) rfl ⟨_, _, ⟨by omega, by omega⟩, ⟨by omega, by omega⟩, rfl, ?_, ?_⟩
    · refine Rd.mono (P := P + 3) ?_ (by omega)
      have HH := HR3.out
      (repeat' (first | assumption | exact Hid.out (by assumption) | refine Rd.set ?_ (by omega) (by omega) | refine Rd.alloc ?_ _ | refine Rd.drewN ?_ _))
    · have HH := only_start HO3.out
      (repeat' (first | exact Only.refl _ _ | assumption | exact Only.start (Hid.out (by assumption)) | refine Only.setNew ?_ (by first | exact Nat.le_refl _ | omega) | refine Only.alloc ?_ _ | refine Only.drewN ?_ _))
  · go_wp2_with fail
    refine (pick_any B rb (P + 1) _ _ HR1.out (by omega) (by omega) (by omega)).mono ?_
    rintro e w2 ⟨u, u0, u1, rfl, hr, ho⟩
    have HO2 := Lib.hid (HO1.out.trans ho)
    have HR2 := Lib.hid hr
    clear hr ho
    obtain ⟨c0, c1, f0, f1, z2⟩ := own2 HO2.out hrb
    go_wp2_with fail
    refine (one_any B rb (P + 2) _ _ [10000000, 9999999, 1] _ (HR2.out.alloc _) (by omega) (by decide) (by decide) (by omega) (by simp) (cells_of (l := [10000000, 9999999, 1]))).mono ?_
    rintro e w3 ⟨q, hq, rfl, hr, ho⟩
    have HO3 := Lib.hid ((HO2.out.alloc _).trans ho)
    have HR3 := Lib.hid hr
    clear hr ho
    obtain ⟨c0, c1, f0, f1, z3⟩ := own2 HO3.out hrb
    have bq : -200000000000 ≤ q ∧ q ≤ 200000000000 := by simp at hq; omega
    clear hq
    go_wp2_with fail
    refine bodyPost_ret (v := .agg #[.int .i64 (1 + u), .int .i64 (q)]) (by simp [results, Try.results70, go_sem, c0, c1, f0, f1, z3]) rfl ⟨_, _, ⟨by omega, by omega⟩, ⟨by omega, by omega⟩, rfl, ?_, ?_⟩
    · refine Rd.mono (P := P + 3) ?_ (by omega)
      have HH := HR3.out
      (repeat' (first | assumption | exact Hid.out (by assumption) | refine Rd.set ?_ (by omega) (by omega) | refine Rd.alloc ?_ _ | refine Rd.drewN ?_ _))
    · have HH := only_start HO3.out
      (repeat' (first | exact Only.refl _ _ | assumption | exact Only.start (Hid.out (by assumption)) | refine Only.setNew ?_ (by first | exact Nat.le_refl _ | omega) | refine Only.alloc ?_ _ | refine Only.drewN ?_ _))
  · go_wp2_with fail
    refine (pick_any B rb (P + 1) _ _ HR1.out (by omega) (by omega) (by omega)).mono ?_
    rintro e w2 ⟨u, u0, u1, rfl, hr, ho⟩
    have HO2 := Lib.hid (HO1.out.trans ho)
    have HR2 := Lib.hid hr
    clear hr ho
    obtain ⟨c0, c1, f0, f1, z2⟩ := own2 HO2.out hrb
    go_wp2_with fail
    refine bodyPost_ret (v := .agg #[.int .i64 (4), .int .i64 (2 + u)]) (by simp [results, Try.results70, go_sem, c0, c1, f0, f1, z2]) rfl ⟨_, _, ⟨by omega, by omega⟩, ⟨by omega, by omega⟩, rfl, ?_, ?_⟩
    · refine Rd.mono (P := P + 2) ?_ (by omega)
      have HH := HR2.out
      (repeat' (first | assumption | exact Hid.out (by assumption) | refine Rd.set ?_ (by omega) (by omega) | refine Rd.alloc ?_ _ | refine Rd.drewN ?_ _))
    · have HH := only_start HO2.out
      (repeat' (first | exact Only.refl _ _ | assumption | exact Only.start (Hid.out (by assumption)) | refine Only.setNew ?_ (by first | exact Nat.le_refl _ | omega) | refine Only.alloc ?_ _ | refine Only.drewN ?_ _))
  · go_wp2_with fail
    refine (randomRat_any B rb (P + 1) _ HR1.out (by omega)).mono ?_
    rintro e w2 ⟨n, d, bn, bd, rfl, hr, ho⟩
    have HO2 := Lib.hid (HO1.out.trans ho)
    have HR2 := Lib.hid hr
    clear hr ho
    obtain ⟨c0, c1, f0, f1, z2⟩ := own2 HO2.out hrb
    go_wp2_with fail
    refine bodyPost_ret (v := .agg #[.int .i64 (n), .int .i64 (d)]) (by simp [results, Try.results70, go_sem, c0, c1, f0, f1, z2]) rfl ⟨_, _, bn, bd, rfl, ?_, ?_⟩
    · refine Rd.mono (P := P + 3) ?_ (by omega)
      have HH := HR2.out
      (repeat' (first | assumption | exact Hid.out (by assumption) | refine Rd.set ?_ (by omega) (by omega) | refine Rd.alloc ?_ _ | refine Rd.drewN ?_ _))
    · have HH := only_start HO2.out
      (repeat' (first | exact Only.refl _ _ | assumption | exact Only.start (Hid.out (by assumption)) | refine Only.setNew ?_ (by first | exact Nat.le_refl _ | omega) | refine Only.alloc ?_ _ | refine Only.drewN ?_ _))
end Go.Proofs.Ytpcfnlffamgdaab.Rat1
