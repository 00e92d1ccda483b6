
/-
  The draws of labels.
-/
import Derived.Test.YtjbgjljcgdligabLa
import Derived.Test.YtjbgjljcgdligabDv
set_option linter.unusedSimpArgs false
set_option linter.unusedVariables false
namespace Go.Proofs.Ytjbgjljcgdligab
open Go.RowKit


def PLab.near (x : PLab) : Prop := (-1000 ≤ x.a ∧ x.a ≤ 1000) ∧ (-1000 ≤ x.m ∧ x.m ≤ 1000) ∧ (-1000 ≤ x.t ∧ x.t ≤ 1000) ∧ (-1000 ≤ x.o ∧ x.o ≤ 1000) ∧ (-1000 ≤ x.c ∧ x.c ≤ 1000)
/-- A label was drawn. -/
def DrewLab (B rb P : Nat) (w : World) (e : Ending) (w' : World) : Prop :=
  ∃ x : PLab, x.near ∧ e = .returned (.agg #[.int .i64 x.a, .int .i64 x.m, .int .i64 x.t, .int .i64 x.o, .int .i64 x.c]) ∧ Rd B w' rb P ∧ Only rb w w'
set_option maxHeartbeats 8000000 in
set_option maxRecDepth 100000 in
theorem anyLabel_any (B rb P : Nat) (w : World) (hr : Rd B w rb P) (hP : P ≤ 600000) :
    Calls Try.prog 100 #[.pointer (some ⟨rb, 0, none⟩)] w (DrewLab B rb (P + 7) w) := by
  have hrb := hr.2.1
  have hB := hr.1
  have HR := Lib.hid hr; clear hr
  go_enter Try.func100, Try.ntmps100
  go_wp2_with fail
  refine (pick_any B rb P _ _ (HR.out.alloc _) (by omega) (by omega) (by omega)).mono ?_
  rintro e w1 ⟨a, a0, a1, rfl, hr, ho⟩
  have z1 := ho.size
  have R1 := Lib.hid hr; clear hr
  have D1 := Lib.hid ho; clear ho
  have O1 : Hid (OnlyA rb w w1) := Lib.hid (Only.trans (by (repeat' (first | exact Only.refl _ _ | (with_reducible assumption) | (refine Hid.out ?_; with_reducible assumption) | (refine OnlyA.out ?_; refine Hid.out ?_; with_reducible assumption) | (with_reducible refine Only.setNew ?_ (by first | omega | (simp; done) | (simp; omega) | (simp only [World.size_alloc, World.size_setCell, World.size_drew] at *; omega))) | (with_reducible refine Only.alloc ?_ _) | (with_reducible refine Only.drewN ?_ _) | (with_reducible refine Only.drew ?_) | (apply Only.thenD; (with_reducible assumption)) | (apply Only.belowD; (with_reducible assumption))))) D1.out)
  (try simp at z1)
  have R_1 : Hid (Box w1 (w.heap.size) #[.int .i64 0, .int .i64 0, .int .i64 0, .int .i64 0, .int .i64 0]) := Lib.hid (Box.only D1 (by first | omega | (simp; done) | (simp; omega) | (simp only [World.size_alloc, World.size_setCell, World.size_drew] at *; omega)) (by (repeat' (first | (with_reducible exact Box.new _ _ _ (by first | omega | (simp; done) | (simp; omega) | (simp only [World.size_alloc, World.size_setCell, World.size_drew] at *; omega))) | (with_reducible refine Box.far ?_ (by first | omega | (simp; done) | (simp; omega) | (simp only [World.size_alloc, World.size_setCell, World.size_drew] at *; omega)) _) | (apply Box.put3_0) | (apply Box.put3_1) | (apply Box.put3_2) | (apply Box.put5_0) | (apply Box.put5_1) | (apply Box.put5_2) | (apply Box.put5_3) | (apply Box.put5_4) | (apply Box.put2_0) | (apply Box.put2_1) | (with_reducible refine Box.alloc ?_ _) | (with_reducible refine Box.drewN ?_ _) | (with_reducible refine Box.drew ?_) | (with_reducible assumption) | (refine Hid.out ?_; with_reducible assumption) | (apply Box.only; (with_reducible assumption); exact (by first | omega | (simp; done) | (simp; omega) | (simp only [World.size_alloc, World.size_setCell, World.size_drew] at *; omega))) | (apply Box.belowD; (with_reducible assumption))))))
  have yR_1 : w.heap.size < w1.heap.size := R_1.out.1
  obtain ⟨R_1c0, R_1c1, R_1c2, R_1c3, R_1c4⟩ := Box.facts5 R_1.out
  have R_1f0 := Box.frz R_1.out 0 (by first | decide | simp)
  have R_1f1 := Box.frz R_1.out 1 (by first | decide | simp)
  have R_1f2 := Box.frz R_1.out 2 (by first | decide | simp)
  have R_1f3 := Box.frz R_1.out 3 (by first | decide | simp)
  have R_1f4 := Box.frz R_1.out 4 (by first | decide | simp)
  go_wp2_with fail
  refine (one_any B rb (P + 1) _ _ [1, 3, 2, 5, 7] _ (by (repeat' (first | (with_reducible assumption) | (refine Hid.out ?_; with_reducible assumption) | (with_reducible refine Rd.set ?_ (by first | omega | (simp; done) | (simp; omega) | (simp only [World.size_alloc, World.size_setCell, World.size_drew] at *; omega)) (by first | omega | (simp; done) | (simp; omega) | (simp only [World.size_alloc, World.size_setCell, World.size_drew] at *; omega))) | (with_reducible refine Rd.alloc ?_ _) | (with_reducible refine Rd.drewN ?_ _) | (with_reducible refine Rd.drew ?_)))) (by omega) (by decide) (by decide) (by first | omega | (simp; done) | (simp; omega) | (simp only [World.size_alloc, World.size_setCell, World.size_drew] at *; omega)) (by simp) (lit_cells (l := [1, 3, 2, 5, 7]))).mono ?_
  rintro e w2 ⟨m, hm, rfl, hr, ho⟩
  have z2 := ho.size
  have R2 := Lib.hid hr; clear hr
  have D2 := Lib.hid ho; clear ho
  have O2 : Hid (OnlyA rb w w2) := Lib.hid (Only.trans (by (repeat' (first | exact Only.refl _ _ | (with_reducible assumption) | (refine Hid.out ?_; with_reducible assumption) | (refine OnlyA.out ?_; refine Hid.out ?_; with_reducible assumption) | (with_reducible refine Only.setNew ?_ (by first | omega | (simp; done) | (simp; omega) | (simp only [World.size_alloc, World.size_setCell, World.size_drew] at *; omega))) | (with_reducible refine Only.alloc ?_ _) | (with_reducible refine Only.drewN ?_ _) | (with_reducible refine Only.drew ?_) | (apply Only.thenD; (with_reducible assumption)) | (apply Only.belowD; (with_reducible assumption))))) D2.out)
  (try simp at z2)
  have R_2 : Hid (Box w2 (w.heap.size) #[.int .i64 0, .int .i64 0, .int .i64 0, .int .i64 0, .int .i64 0]) := Lib.hid (Box.only D2 (by first | omega | (simp; done) | (simp; omega) | (simp only [World.size_alloc, World.size_setCell, World.size_drew] at *; omega)) (by (repeat' (first | (with_reducible exact Box.new _ _ _ (by first | omega | (simp; done) | (simp; omega) | (simp only [World.size_alloc, World.size_setCell, World.size_drew] at *; omega))) | (with_reducible refine Box.far ?_ (by first | omega | (simp; done) | (simp; omega) | (simp only [World.size_alloc, World.size_setCell, World.size_drew] at *; omega)) _) | (apply Box.put3_0) | (apply Box.put3_1) | (apply Box.put3_2) | (apply Box.put5_0) | (apply Box.put5_1) | (apply Box.put5_2) | (apply Box.put5_3) | (apply Box.put5_4) | (apply Box.put2_0) | (apply Box.put2_1) | (with_reducible refine Box.alloc ?_ _) | (with_reducible refine Box.drewN ?_ _) | (with_reducible refine Box.drew ?_) | (with_reducible assumption) | (refine Hid.out ?_; with_reducible assumption) | (apply Box.only; (with_reducible assumption); exact (by first | omega | (simp; done) | (simp; omega) | (simp only [World.size_alloc, World.size_setCell, World.size_drew] at *; omega))) | (apply Box.belowD; (with_reducible assumption))))))
  have yR_2 : w.heap.size < w2.heap.size := R_2.out.1
  obtain ⟨R_2c0, R_2c1, R_2c2, R_2c3, R_2c4⟩ := Box.facts5 R_2.out
  have R_2f0 := Box.frz R_2.out 0 (by first | decide | simp)
  have R_2f1 := Box.frz R_2.out 1 (by first | decide | simp)
  have R_2f2 := Box.frz R_2.out 2 (by first | decide | simp)
  have R_2f3 := Box.frz R_2.out 3 (by first | decide | simp)
  have R_2f4 := Box.frz R_2.out 4 (by first | decide | simp)
  have bm : 1 ≤ m ∧ m ≤ 7 := by simp at hm; omega
  clear hm
  go_wp2_with fail
  refine (pick_any B rb (P + 2) _ _ (by (repeat' (first | (with_reducible assumption) | (refine Hid.out ?_; with_reducible assumption) | (with_reducible refine Rd.set ?_ (by first | omega | (simp; done) | (simp; omega) | (simp only [World.size_alloc, World.size_setCell, World.size_drew] at *; omega)) (by first | omega | (simp; done) | (simp; omega) | (simp only [World.size_alloc, World.size_setCell, World.size_drew] at *; omega))) | (with_reducible refine Rd.alloc ?_ _) | (with_reducible refine Rd.drewN ?_ _) | (with_reducible refine Rd.drew ?_)))) (by omega) (by omega) (by omega)).mono ?_
  rintro e w3 ⟨t, t0, t1, rfl, hr, ho⟩
  have z3 := ho.size
  have R3 := Lib.hid hr; clear hr
  have D3 := Lib.hid ho; clear ho
  have O3 : Hid (OnlyA rb w w3) := Lib.hid (Only.trans (by (repeat' (first | exact Only.refl _ _ | (with_reducible assumption) | (refine Hid.out ?_; with_reducible assumption) | (refine OnlyA.out ?_; refine Hid.out ?_; with_reducible assumption) | (with_reducible refine Only.setNew ?_ (by first | omega | (simp; done) | (simp; omega) | (simp only [World.size_alloc, World.size_setCell, World.size_drew] at *; omega))) | (with_reducible refine Only.alloc ?_ _) | (with_reducible refine Only.drewN ?_ _) | (with_reducible refine Only.drew ?_) | (apply Only.thenD; (with_reducible assumption)) | (apply Only.belowD; (with_reducible assumption))))) D3.out)
  (try simp at z3)
  have R_3 : Hid (Box w3 (w.heap.size) #[.int .i64 0, .int .i64 0, .int .i64 0, .int .i64 0, .int .i64 0]) := Lib.hid (Box.only D3 (by first | omega | (simp; done) | (simp; omega) | (simp only [World.size_alloc, World.size_setCell, World.size_drew] at *; omega)) (by (repeat' (first | (with_reducible exact Box.new _ _ _ (by first | omega | (simp; done) | (simp; omega) | (simp only [World.size_alloc, World.size_setCell, World.size_drew] at *; omega))) | (with_reducible refine Box.far ?_ (by first | omega | (simp; done) | (simp; omega) | (simp only [World.size_alloc, World.size_setCell, World.size_drew] at *; omega)) _) | (apply Box.put3_0) | (apply Box.put3_1) | (apply Box.put3_2) | (apply Box.put5_0) | (apply Box.put5_1) | (apply Box.put5_2) | (apply Box.put5_3) | (apply Box.put5_4) | (apply Box.put2_0) | (apply Box.put2_1) | (with_reducible refine Box.alloc ?_ _) | (with_reducible refine Box.drewN ?_ _) | (with_reducible refine Box.drew ?_) | (with_reducible assumption) | (refine Hid.out ?_; with_reducible assumption) | (apply Box.only; (with_reducible assumption); exact (by first | omega | (simp; done) | (simp; omega) | (simp only [World.size_alloc, World.size_setCell, World.size_drew] at *; omega))) | (apply Box.belowD; (with_reducible assumption))))))
  have yR_3 : w.heap.size < w3.heap.size := R_3.out.1
  obtain ⟨R_3c0, R_3c1, R_3c2, R_3c3, R_3c4⟩ := Box.facts5 R_3.out
  have R_3f0 := Box.frz R_3.out 0 (by first | decide | simp)
  have R_3f1 := Box.frz R_3.out 1 (by first | decide | simp)
  have R_3f2 := Box.frz R_3.out 2 (by first | decide | simp)
  have R_3f3 := Box.frz R_3.out 3 (by first | decide | simp)
  have R_3f4 := Box.frz R_3.out 4 (by first | decide | simp)
  go_wp2_with fail
  refine (pick_any B rb (P + 3) _ _ (by (repeat' (first | (with_reducible assumption) | (refine Hid.out ?_; with_reducible assumption) | (with_reducible refine Rd.set ?_ (by first | omega | (simp; done) | (simp; omega) | (simp only [World.size_alloc, World.size_setCell, World.size_drew] at *; omega)) (by first | omega | (simp; done) | (simp; omega) | (simp only [World.size_alloc, World.size_setCell, World.size_drew] at *; omega))) | (with_reducible refine Rd.alloc ?_ _) | (with_reducible refine Rd.drewN ?_ _) | (with_reducible refine Rd.drew ?_)))) (by omega) (by omega) (by omega)).mono ?_
  rintro e w4 ⟨o, o0, o1, rfl, hr, ho⟩
  have z4 := ho.size
  have R4 := Lib.hid hr; clear hr
  have D4 := Lib.hid ho; clear ho
  have O4 : Hid (OnlyA rb w w4) := Lib.hid (Only.trans (by (repeat' (first | exact Only.refl _ _ | (with_reducible assumption) | (refine Hid.out ?_; with_reducible assumption) | (refine OnlyA.out ?_; refine Hid.out ?_; with_reducible assumption) | (with_reducible refine Only.setNew ?_ (by first | omega | (simp; done) | (simp; omega) | (simp only [World.size_alloc, World.size_setCell, World.size_drew] at *; omega))) | (with_reducible refine Only.alloc ?_ _) | (with_reducible refine Only.drewN ?_ _) | (with_reducible refine Only.drew ?_) | (apply Only.thenD; (with_reducible assumption)) | (apply Only.belowD; (with_reducible assumption))))) D4.out)
  (try simp at z4)
  have R_4 : Hid (Box w4 (w.heap.size) #[.int .i64 0, .int .i64 0, .int .i64 0, .int .i64 0, .int .i64 0]) := Lib.hid (Box.only D4 (by first | omega | (simp; done) | (simp; omega) | (simp only [World.size_alloc, World.size_setCell, World.size_drew] at *; omega)) (by (repeat' (first | (with_reducible exact Box.new _ _ _ (by first | omega | (simp; done) | (simp; omega) | (simp only [World.size_alloc, World.size_setCell, World.size_drew] at *; omega))) | (with_reducible refine Box.far ?_ (by first | omega | (simp; done) | (simp; omega) | (simp only [World.size_alloc, World.size_setCell, World.size_drew] at *; omega)) _) | (apply Box.put3_0) | (apply Box.put3_1) | (apply Box.put3_2) | (apply Box.put5_0) | (apply Box.put5_1) | (apply Box.put5_2) | (apply Box.put5_3) | (apply Box.put5_4) | (apply Box.put2_0) | (apply Box.put2_1) | (with_reducible refine Box.alloc ?_ _) | (with_reducible refine Box.drewN ?_ _) | (with_reducible refine Box.drew ?_) | (with_reducible assumption) | (refine Hid.out ?_; with_reducible assumption) | (apply Box.only; (with_reducible assumption); exact (by first | omega | (simp; done) | (simp; omega) | (simp only [World.size_alloc, World.size_setCell, World.size_drew] at *; omega))) | (apply Box.belowD; (with_reducible assumption))))))
  have yR_4 : w.heap.size < w4.heap.size := R_4.out.1
  obtain ⟨R_4c0, R_4c1, R_4c2, R_4c3, R_4c4⟩ := Box.facts5 R_4.out
  have R_4f0 := Box.frz R_4.out 0 (by first | decide | simp)
  have R_4f1 := Box.frz R_4.out 1 (by first | decide | simp)
  have R_4f2 := Box.frz R_4.out 2 (by first | decide | simp)
  have R_4f3 := Box.frz R_4.out 3 (by first | decide | simp)
  have R_4f4 := Box.frz R_4.out 4 (by first | decide | simp)
  go_wp2_with fail
  refine (pick_any B rb (P + 4) _ _ (by (repeat' (first | (with_reducible assumption) | (refine Hid.out ?_; with_reducible assumption) | (with_reducible refine Rd.set ?_ (by first | omega | (simp; done) | (simp; omega) | (simp only [World.size_alloc, World.size_setCell, World.size_drew] at *; omega)) (by first | omega | (simp; done) | (simp; omega) | (simp only [World.size_alloc, World.size_setCell, World.size_drew] at *; omega))) | (with_reducible refine Rd.alloc ?_ _) | (with_reducible refine Rd.drewN ?_ _) | (with_reducible refine Rd.drew ?_)))) (by omega) (by omega) (by omega)).mono ?_
  rintro e w5 ⟨c, c0, c1, rfl, hr, ho⟩
  have z5 := ho.size
  have R5 := Lib.hid hr; clear hr
  have D5 := Lib.hid ho; clear ho
  have O5 : Hid (OnlyA rb w w5) := Lib.hid (Only.trans (by (repeat' (first | exact Only.refl _ _ | (with_reducible assumption) | (refine Hid.out ?_; with_reducible assumption) | (refine OnlyA.out ?_; refine Hid.out ?_; with_reducible assumption) | (with_reducible refine Only.setNew ?_ (by first | omega | (simp; done) | (simp; omega) | (simp only [World.size_alloc, World.size_setCell, World.size_drew] at *; omega))) | (with_reducible refine Only.alloc ?_ _) | (with_reducible refine Only.drewN ?_ _) | (with_reducible refine Only.drew ?_) | (apply Only.thenD; (with_reducible assumption)) | (apply Only.belowD; (with_reducible assumption))))) D5.out)
  (try simp at z5)
  have R_5 : Hid (Box w5 (w.heap.size) #[.int .i64 0, .int .i64 0, .int .i64 0, .int .i64 0, .int .i64 0]) := Lib.hid (Box.only D5 (by first | omega | (simp; done) | (simp; omega) | (simp only [World.size_alloc, World.size_setCell, World.size_drew] at *; omega)) (by (repeat' (first | (with_reducible exact Box.new _ _ _ (by first | omega | (simp; done) | (simp; omega) | (simp only [World.size_alloc, World.size_setCell, World.size_drew] at *; omega))) | (with_reducible refine Box.far ?_ (by first | omega | (simp; done) | (simp; omega) | (simp only [World.size_alloc, World.size_setCell, World.size_drew] at *; omega)) _) | (apply Box.put3_0) | (apply Box.put3_1) | (apply Box.put3_2) | (apply Box.put5_0) | (apply Box.put5_1) | (apply Box.put5_2) | (apply Box.put5_3) | (apply Box.put5_4) | (apply Box.put2_0) | (apply Box.put2_1) | (with_reducible refine Box.alloc ?_ _) | (with_reducible refine Box.drewN ?_ _) | (with_reducible refine Box.drew ?_) | (with_reducible assumption) | (refine Hid.out ?_; with_reducible assumption) | (apply Box.only; (with_reducible assumption); exact (by first | omega | (simp; done) | (simp; omega) | (simp only [World.size_alloc, World.size_setCell, World.size_drew] at *; omega))) | (apply Box.belowD; (with_reducible assumption))))))
  have yR_5 : w.heap.size < w5.heap.size := R_5.out.1
  obtain ⟨R_5c0, R_5c1, R_5c2, R_5c3, R_5c4⟩ := Box.facts5 R_5.out
  have R_5f0 := Box.frz R_5.out 0 (by first | decide | simp)
  have R_5f1 := Box.frz R_5.out 1 (by first | decide | simp)
  have R_5f2 := Box.frz R_5.out 2 (by first | decide | simp)
  have R_5f3 := Box.frz R_5.out 3 (by first | decide | simp)
  have R_5f4 := Box.frz R_5.out 4 (by first | decide | simp)
  go_wp2_with fail
  refine (pick_any B rb (P + 5) _ _ (by (repeat' (first | (with_reducible assumption) | (refine Hid.out ?_; with_reducible assumption) | (with_reducible refine Rd.set ?_ (by first | omega | (simp; done) | (simp; omega) | (simp only [World.size_alloc, World.size_setCell, World.size_drew] at *; omega)) (by first | omega | (simp; done) | (simp; omega) | (simp only [World.size_alloc, World.size_setCell, World.size_drew] at *; omega))) | (with_reducible refine Rd.alloc ?_ _) | (with_reducible refine Rd.drewN ?_ _) | (with_reducible refine Rd.drew ?_)))) (by omega) (by omega) (by omega)).mono ?_
  rintro e w6 ⟨q, q0, q1, rfl, hr, ho⟩
  have z6 := ho.size
  have R6 := Lib.hid hr; clear hr
  have D6 := Lib.hid ho; clear ho
  have O6 : Hid (OnlyA rb w w6) := Lib.hid (Only.trans (by (repeat' (first | exact Only.refl _ _ | (with_reducible assumption) | (refine Hid.out ?_; with_reducible assumption) | (refine OnlyA.out ?_; refine Hid.out ?_; with_reducible assumption) | (with_reducible refine Only.setNew ?_ (by first | omega | (simp; done) | (simp; omega) | (simp only [World.size_alloc, World.size_setCell, World.size_drew] at *; omega))) | (with_reducible refine Only.alloc ?_ _) | (with_reducible refine Only.drewN ?_ _) | (with_reducible refine Only.drew ?_) | (apply Only.thenD; (with_reducible assumption)) | (apply Only.belowD; (with_reducible assumption))))) D6.out)
  (try simp at z6)
  have R_6 : Hid (Box w6 (w.heap.size) #[.int .i64 0, .int .i64 0, .int .i64 0, .int .i64 0, .int .i64 0]) := Lib.hid (Box.only D6 (by first | omega | (simp; done) | (simp; omega) | (simp only [World.size_alloc, World.size_setCell, World.size_drew] at *; omega)) (by (repeat' (first | (with_reducible exact Box.new _ _ _ (by first | omega | (simp; done) | (simp; omega) | (simp only [World.size_alloc, World.size_setCell, World.size_drew] at *; omega))) | (with_reducible refine Box.far ?_ (by first | omega | (simp; done) | (simp; omega) | (simp only [World.size_alloc, World.size_setCell, World.size_drew] at *; omega)) _) | (apply Box.put3_0) | (apply Box.put3_1) | (apply Box.put3_2) | (apply Box.put5_0) | (apply Box.put5_1) | (apply Box.put5_2) | (apply Box.put5_3) | (apply Box.put5_4) | (apply Box.put2_0) | (apply Box.put2_1) | (with_reducible refine Box.alloc ?_ _) | (with_reducible refine Box.drewN ?_ _) | (with_reducible refine Box.drew ?_) | (with_reducible assumption) | (refine Hid.out ?_; with_reducible assumption) | (apply Box.only; (with_reducible assumption); exact (by first | omega | (simp; done) | (simp; omega) | (simp only [World.size_alloc, World.size_setCell, World.size_drew] at *; omega))) | (apply Box.belowD; (with_reducible assumption))))))
  have yR_6 : w.heap.size < w6.heap.size := R_6.out.1
  obtain ⟨R_6c0, R_6c1, R_6c2, R_6c3, R_6c4⟩ := Box.facts5 R_6.out
  have R_6f0 := Box.frz R_6.out 0 (by first | decide | simp)
  have R_6f1 := Box.frz R_6.out 1 (by first | decide | simp)
  have R_6f2 := Box.frz R_6.out 2 (by first | decide | simp)
  have R_6f3 := Box.frz R_6.out 3 (by first | decide | simp)
  have R_6f4 := Box.frz R_6.out 4 (by first | decide | simp)
  have X_6 : Hid (Box w6 (w5.heap.size) #[.int .i64 (1 + a), .int .i64 m, .int .i64 (10 + t), .int .i64 (4 + o), .int .i64 (c - 1)]) := Lib.hid (Box.only D6 (by first | omega | (simp; done) | (simp; omega) | (simp only [World.size_alloc, World.size_setCell, World.size_drew] at *; omega)) (by (repeat' (first | (with_reducible exact Box.new _ _ _ (by first | omega | (simp; done) | (simp; omega) | (simp only [World.size_alloc, World.size_setCell, World.size_drew] at *; omega))) | (with_reducible refine Box.far ?_ (by first | omega | (simp; done) | (simp; omega) | (simp only [World.size_alloc, World.size_setCell, World.size_drew] at *; omega)) _) | (apply Box.put3_0) | (apply Box.put3_1) | (apply Box.put3_2) | (apply Box.put5_0) | (apply Box.put5_1) | (apply Box.put5_2) | (apply Box.put5_3) | (apply Box.put5_4) | (apply Box.put2_0) | (apply Box.put2_1) | (with_reducible refine Box.alloc ?_ _) | (with_reducible refine Box.drewN ?_ _) | (with_reducible refine Box.drew ?_) | (with_reducible assumption) | (refine Hid.out ?_; with_reducible assumption) | (apply Box.only; (with_reducible assumption); exact (by first | omega | (simp; done) | (simp; omega) | (simp only [World.size_alloc, World.size_setCell, World.size_drew] at *; omega))) | (apply Box.belowD; (with_reducible assumption))))))
  have yX_6 : w5.heap.size < w6.heap.size := X_6.out.1
  obtain ⟨X_6c0, X_6c1, X_6c2, X_6c3, X_6c4⟩ := Box.facts5 X_6.out
  have X_6f0 := Box.frz X_6.out 0 (by first | decide | simp)
  have X_6f1 := Box.frz X_6.out 1 (by first | decide | simp)
  have X_6f2 := Box.frz X_6.out 2 (by first | decide | simp)
  have X_6f3 := Box.frz X_6.out 3 (by first | decide | simp)
  have X_6f4 := Box.frz X_6.out 4 (by first | decide | simp)
  by_cases hq : q = 0
  · subst hq
    go_wp2_with fail
    refine (one_any B rb (P + 6) _ _ [-1, 31, 32] _ (by (repeat' (first | (with_reducible assumption) | (refine Hid.out ?_; with_reducible assumption) | (with_reducible refine Rd.set ?_ (by first | omega | (simp; done) | (simp; omega) | (simp only [World.size_alloc, World.size_setCell, World.size_drew] at *; omega)) (by first | omega | (simp; done) | (simp; omega) | (simp only [World.size_alloc, World.size_setCell, World.size_drew] at *; omega))) | (with_reducible refine Rd.alloc ?_ _) | (with_reducible refine Rd.drewN ?_ _) | (with_reducible refine Rd.drew ?_)))) (by omega) (by decide) (by decide) (by first | omega | (simp; done) | (simp; omega) | (simp only [World.size_alloc, World.size_setCell, World.size_drew] at *; omega)) (by simp) (lit_cells (l := [-1, 31, 32]))).mono ?_
    rintro e w7 ⟨m', hm', rfl, hr, ho⟩
    have z7 := ho.size
    have R7 := Lib.hid hr; clear hr
    have D7 := Lib.hid ho; clear ho
    have O7 : Hid (OnlyA rb w w7) := Lib.hid (Only.trans (by (repeat' (first | exact Only.refl _ _ | (with_reducible assumption) | (refine Hid.out ?_; with_reducible assumption) | (refine OnlyA.out ?_; refine Hid.out ?_; with_reducible assumption) | (with_reducible refine Only.setNew ?_ (by first | omega | (simp; done) | (simp; omega) | (simp only [World.size_alloc, World.size_setCell, World.size_drew] at *; omega))) | (with_reducible refine Only.alloc ?_ _) | (with_reducible refine Only.drewN ?_ _) | (with_reducible refine Only.drew ?_) | (apply Only.thenD; (with_reducible assumption)) | (apply Only.belowD; (with_reducible assumption))))) D7.out)
    (try simp at z7)
    have R_7 : Hid (Box w7 (w.heap.size) #[.int .i64 0, .int .i64 0, .int .i64 0, .int .i64 0, .int .i64 0]) := Lib.hid (Box.only D7 (by first | omega | (simp; done) | (simp; omega) | (simp only [World.size_alloc, World.size_setCell, World.size_drew] at *; omega)) (by (repeat' (first | (with_reducible exact Box.new _ _ _ (by first | omega | (simp; done) | (simp; omega) | (simp only [World.size_alloc, World.size_setCell, World.size_drew] at *; omega))) | (with_reducible refine Box.far ?_ (by first | omega | (simp; done) | (simp; omega) | (simp only [World.size_alloc, World.size_setCell, World.size_drew] at *; omega)) _) | (apply Box.put3_0) | (apply Box.put3_1) | (apply Box.put3_2) | (apply Box.put5_0) | (apply Box.put5_1) | (apply Box.put5_2) | (apply Box.put5_3) | (apply Box.put5_4) | (apply Box.put2_0) | (apply Box.put2_1) | (with_reducible refine Box.alloc ?_ _) | (with_reducible refine Box.drewN ?_ _) | (with_reducible refine Box.drew ?_) | (with_reducible assumption) | (refine Hid.out ?_; with_reducible assumption) | (apply Box.only; (with_reducible assumption); exact (by first | omega | (simp; done) | (simp; omega) | (simp only [World.size_alloc, World.size_setCell, World.size_drew] at *; omega))) | (apply Box.belowD; (with_reducible assumption))))))
    have yR_7 : w.heap.size < w7.heap.size := R_7.out.1
    obtain ⟨R_7c0, R_7c1, R_7c2, R_7c3, R_7c4⟩ := Box.facts5 R_7.out
    have R_7f0 := Box.frz R_7.out 0 (by first | decide | simp)
    have R_7f1 := Box.frz R_7.out 1 (by first | decide | simp)
    have R_7f2 := Box.frz R_7.out 2 (by first | decide | simp)
    have R_7f3 := Box.frz R_7.out 3 (by first | decide | simp)
    have R_7f4 := Box.frz R_7.out 4 (by first | decide | simp)
    have X_7 : Hid (Box w7 (w5.heap.size) #[.int .i64 (1 + a), .int .i64 m, .int .i64 (10 + t), .int .i64 (4 + o), .int .i64 (c - 1)]) := Lib.hid (Box.only D7 (by first | omega | (simp; done) | (simp; omega) | (simp only [World.size_alloc, World.size_setCell, World.size_drew] at *; omega)) (by (repeat' (first | (with_reducible exact Box.new _ _ _ (by first | omega | (simp; done) | (simp; omega) | (simp only [World.size_alloc, World.size_setCell, World.size_drew] at *; omega))) | (with_reducible refine Box.far ?_ (by first | omega | (simp; done) | (simp; omega) | (simp only [World.size_alloc, World.size_setCell, World.size_drew] at *; omega)) _) | (apply Box.put3_0) | (apply Box.put3_1) | (apply Box.put3_2) | (apply Box.put5_0) | (apply Box.put5_1) | (apply Box.put5_2) | (apply Box.put5_3) | (apply Box.put5_4) | (apply Box.put2_0) | (apply Box.put2_1) | (with_reducible refine Box.alloc ?_ _) | (with_reducible refine Box.drewN ?_ _) | (with_reducible refine Box.drew ?_) | (with_reducible assumption) | (refine Hid.out ?_; with_reducible assumption) | (apply Box.only; (with_reducible assumption); exact (by first | omega | (simp; done) | (simp; omega) | (simp only [World.size_alloc, World.size_setCell, World.size_drew] at *; omega))) | (apply Box.belowD; (with_reducible assumption))))))
    have yX_7 : w5.heap.size < w7.heap.size := X_7.out.1
    obtain ⟨X_7c0, X_7c1, X_7c2, X_7c3, X_7c4⟩ := Box.facts5 X_7.out
    have X_7f0 := Box.frz X_7.out 0 (by first | decide | simp)
    have X_7f1 := Box.frz X_7.out 1 (by first | decide | simp)
    have X_7f2 := Box.frz X_7.out 2 (by first | decide | simp)
    have X_7f3 := Box.frz X_7.out 3 (by first | decide | simp)
    have X_7f4 := Box.frz X_7.out 4 (by first | decide | simp)
    have bm' : -1 ≤ m' ∧ m' ≤ 32 := by simp at hm'; omega
    clear hm'
    go_wp2_with fail
    refine bodyPost_ret (v := .agg #[.int .i64 (1 + a), .int .i64 m', .int .i64 (10 + t), .int .i64 (4 + o), .int .i64 (c - 1)]) (by simp [results, Try.results100, go_sem, *]) rfl ⟨⟨1 + a, m', 10 + t, 4 + o, c - 1⟩, ⟨⟨by simp only; omega, by simp only; omega⟩, ⟨by simp only; omega, by simp only; omega⟩, ⟨by simp only; omega, by simp only; omega⟩, ⟨by simp only; omega, by simp only; omega⟩, ⟨by simp only; omega, by simp only; omega⟩⟩, rfl, by (repeat' (first | (with_reducible assumption) | (refine Hid.out ?_; with_reducible assumption) | (with_reducible refine Rd.set ?_ (by first | omega | (simp; done) | (simp; omega) | (simp only [World.size_alloc, World.size_setCell, World.size_drew] at *; omega)) (by first | omega | (simp; done) | (simp; omega) | (simp only [World.size_alloc, World.size_setCell, World.size_drew] at *; omega))) | (with_reducible refine Rd.alloc ?_ _) | (with_reducible refine Rd.drewN ?_ _) | (with_reducible refine Rd.drew ?_))), by (repeat' (first | exact Only.refl _ _ | (with_reducible assumption) | (refine Hid.out ?_; with_reducible assumption) | (refine OnlyA.out ?_; refine Hid.out ?_; with_reducible assumption) | (with_reducible refine Only.setNew ?_ (by first | omega | (simp; done) | (simp; omega) | (simp only [World.size_alloc, World.size_setCell, World.size_drew] at *; omega))) | (with_reducible refine Only.alloc ?_ _) | (with_reducible refine Only.drewN ?_ _) | (with_reducible refine Only.drew ?_) | (apply Only.thenD; (with_reducible assumption)) | (apply Only.belowD; (with_reducible assumption))))⟩
  · have e0 : (q == 0) = false := by simp; omega
    go_wp2_with fail
    refine bodyPost_ret (v := .agg #[.int .i64 (1 + a), .int .i64 m, .int .i64 (10 + t), .int .i64 (4 + o), .int .i64 (c - 1)]) (by simp [results, Try.results100, go_sem, *]) rfl ⟨⟨1 + a, m, 10 + t, 4 + o, c - 1⟩, ⟨⟨by simp only; omega, by simp only; omega⟩, ⟨by simp only; omega, by simp only; omega⟩, ⟨by simp only; omega, by simp only; omega⟩, ⟨by simp only; omega, by simp only; omega⟩, ⟨by simp only; omega, by simp only; omega⟩⟩, rfl, Rd.mono (P := P + 5 + 1) (by (repeat' (first | (with_reducible assumption) | (refine Hid.out ?_; with_reducible assumption) | (with_reducible refine Rd.set ?_ (by first | omega | (simp; done) | (simp; omega) | (simp only [World.size_alloc, World.size_setCell, World.size_drew] at *; omega)) (by first | omega | (simp; done) | (simp; omega) | (simp only [World.size_alloc, World.size_setCell, World.size_drew] at *; omega))) | (with_reducible refine Rd.alloc ?_ _) | (with_reducible refine Rd.drewN ?_ _) | (with_reducible refine Rd.drew ?_)))) (by omega), by (repeat' (first | exact Only.refl _ _ | (with_reducible assumption) | (refine Hid.out ?_; with_reducible assumption) | (refine OnlyA.out ?_; refine Hid.out ?_; with_reducible assumption) | (with_reducible refine Only.setNew ?_ (by first | omega | (simp; done) | (simp; omega) | (simp only [World.size_alloc, World.size_setCell, World.size_drew] at *; omega))) | (with_reducible refine Only.alloc ?_ _) | (with_reducible refine Only.drewN ?_ _) | (with_reducible refine Only.drew ?_) | (apply Only.thenD; (with_reducible assumption)) | (apply Only.belowD; (with_reducible assumption))))⟩

end Go.Proofs.Ytjbgjljcgdligab
