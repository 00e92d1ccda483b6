
/-
  Restored points: the model.
-/
import Derived.Test.YtejcloanmfkglabRs
set_option linter.unusedSimpArgs false
set_option linter.unusedVariables false
namespace Go.Proofs.Ytejcloanmfkglab
open Go.RowKit

set_option maxHeartbeats 2000000 in
set_option maxRecDepth 100000 in
theorem spec_RestorePoint (A0 A1 A2 A : Option Addr) (l0 : Nat) (B1 : Option Addr) (c0 c1 c2 d0 d1 n c : Nat) (p : PProb) (b : PBox) (ys : List Int) (w : World) (hp : ProbV w A0 A1 A2 c0 c1 c2 p) (hb : BoxV w (some ⟨l0, 0, none⟩) B1 d0 d1 b) (hy : Ints w A n ys) (hn : n ≤ maxLen) :
    Calls Try.prog 50 #[.agg #[.slice A0 p.costs.length c0, .slice A1 p.uppers.length c1, .slice A2 p.rows.length c2], .agg #[.slice (some ⟨l0, 0, none⟩) b.low.length d0, .slice B1 b.high.length d1], .slice A n c] w (PairEnd (resL p b ys) (resB p b ys) w) := by
  have HP := Lib.hid hp; clear hp
  have HB := Lib.hid hb; clear hb
  have hyl := hy.len
  have HY := Lib.hid hy; clear hy
  have HL := Lib.hid hyl; clear hyl
  cases h1 : vBox p b
  · have E := Lib.hid (res_1 (ys := ys) h1)
    go_enter Try.func50, Try.ntmps50
    go_wp2_with fail
    refine (spec_ValidBox _ _ _ _ _ _ _ _ _ _ p b _ (HP.out.below (by (repeat' (first | (with_reducible exact Below.refl _ _) | (with_reducible refine belS ?_ (by first | omega | (simp; done) | (simp; omega) | (simp only [World.size_alloc, World.size_setCell, World.size_drew] at *; omega))) | (with_reducible refine belA ?_ (by first | omega | (simp; done) | (simp; omega) | (simp only [World.size_alloc, World.size_setCell, World.size_drew] at *; omega))) | (with_reducible refine bel_drewN ?_ _) | (with_reducible refine Below.drew ?_) | (with_reducible assumption) | (refine Hid.out ?_; with_reducible assumption) | (apply belV; (with_reducible assumption); exact (by first | omega | (simp; done) | (simp; omega) | (simp only [World.size_alloc, World.size_setCell, World.size_drew] at *; omega))))))) (HB.out.below (by (repeat' (first | (with_reducible exact Below.refl _ _) | (with_reducible refine belS ?_ (by first | omega | (simp; done) | (simp; omega) | (simp only [World.size_alloc, World.size_setCell, World.size_drew] at *; omega))) | (with_reducible refine belA ?_ (by first | omega | (simp; done) | (simp; omega) | (simp only [World.size_alloc, World.size_setCell, World.size_drew] at *; omega))) | (with_reducible refine bel_drewN ?_ _) | (with_reducible refine Below.drew ?_) | (with_reducible assumption) | (refine Hid.out ?_; with_reducible assumption) | (apply belV; (with_reducible assumption); exact (by first | omega | (simp; done) | (simp; omega) | (simp only [World.size_alloc, World.size_setCell, World.size_drew] at *; omega)))))))).mono ?_
    rintro e w1 ⟨rfl, hb⟩
    have G1 : Hid (Below w.heap.size w w1) := belU hb (by (repeat' (first | (with_reducible exact Below.refl _ _) | (with_reducible refine belS ?_ (by first | omega | (simp; done) | (simp; omega) | (simp only [World.size_alloc, World.size_setCell, World.size_drew] at *; omega))) | (with_reducible refine belA ?_ (by first | omega | (simp; done) | (simp; omega) | (simp only [World.size_alloc, World.size_setCell, World.size_drew] at *; omega))) | (with_reducible refine bel_drewN ?_ _) | (with_reducible refine Below.drew ?_) | (with_reducible assumption) | (refine Hid.out ?_; with_reducible assumption) | (apply belV; (with_reducible assumption); exact (by first | omega | (simp; done) | (simp; omega) | (simp only [World.size_alloc, World.size_setCell, World.size_drew] at *; omega)))))) (by first | omega | (simp; done) | (simp; omega) | (simp only [World.size_alloc, World.size_setCell, World.size_drew] at *; omega))
    have X_1 : Hid (Box w1 (w.heap.size) #[.slice A0 p.costs.length c0, .slice A1 p.uppers.length c1, .slice A2 p.rows.length c2]) := Lib.hid (Box.below (by (repeat' (first | (with_reducible exact Box.new _ _ _ (by first | omega | (simp; done) | (simp; omega) | (simp only [World.size_alloc, World.size_setCell, World.size_drew] at *; omega))) | (with_reducible refine Box.far ?_ (by first | omega | (simp; done) | (simp; omega) | (simp only [World.size_alloc, World.size_setCell, World.size_drew] at *; omega)) _) | (with_reducible refine Box.alloc ?_ _) | (with_reducible refine Box.drewN ?_ _) | (with_reducible refine Box.drew ?_) | (with_reducible assumption) | (refine Hid.out ?_; with_reducible assumption) | (apply Box.belowD; (with_reducible assumption))))) hb)
    have yX_1 : w.heap.size < w1.heap.size := X_1.out.1
    obtain ⟨X_1c0, X_1c1, X_1c2⟩ := Box.facts3 X_1.out
    have Y_1 : Hid (Box w1 (w.heap.size + 1) #[.slice (some ⟨l0, 0, none⟩) b.low.length d0, .slice B1 b.high.length d1]) := Lib.hid (Box.below (by (repeat' (first | (with_reducible exact Box.new _ _ _ (by first | omega | (simp; done) | (simp; omega) | (simp only [World.size_alloc, World.size_setCell, World.size_drew] at *; omega))) | (with_reducible refine Box.far ?_ (by first | omega | (simp; done) | (simp; omega) | (simp only [World.size_alloc, World.size_setCell, World.size_drew] at *; omega)) _) | (with_reducible refine Box.alloc ?_ _) | (with_reducible refine Box.drewN ?_ _) | (with_reducible refine Box.drew ?_) | (with_reducible assumption) | (refine Hid.out ?_; with_reducible assumption) | (apply Box.belowD; (with_reducible assumption))))) hb)
    have yY_1 : w.heap.size + 1 < w1.heap.size := Y_1.out.1
    obtain ⟨Y_1c0, Y_1c1⟩ := Box.facts2 Y_1.out
    have z1 := hb.size
    (try simp at z1)
    have D1 := Lib.hid hb; clear hb
    go_wp2_with fail
    go_ret2
    exact PairEnd.nil E.out (by (repeat' (first | (with_reducible exact Below.refl _ _) | (with_reducible refine belS ?_ (by first | omega | (simp; done) | (simp; omega) | (simp only [World.size_alloc, World.size_setCell, World.size_drew] at *; omega))) | (with_reducible refine belA ?_ (by first | omega | (simp; done) | (simp; omega) | (simp only [World.size_alloc, World.size_setCell, World.size_drew] at *; omega))) | (with_reducible refine bel_drewN ?_ _) | (with_reducible refine Below.drew ?_) | (with_reducible assumption) | (refine Hid.out ?_; with_reducible assumption) | (apply belV; (with_reducible assumption); exact (by first | omega | (simp; done) | (simp; omega) | (simp only [World.size_alloc, World.size_setCell, World.size_drew] at *; omega))))))
  have HS := Lib.hid (SmB.of_valid h1)
  have h5 := HS.out.five
  by_cases hln : ys.length = (kept b).length
  rotate_left
  · have E := Lib.hid (res_2 (p := p) hln)
    have hne : (((kept b).length : Int) != (n : Int)) = true := by have := HL.out; simp; omega
    clear hln
    go_enter Try.func50, Try.ntmps50
    go_wp2_with fail
    refine (spec_ValidBox _ _ _ _ _ _ _ _ _ _ p b _ (HP.out.below (by (repeat' (first | (with_reducible exact Below.refl _ _) | (with_reducible refine belS ?_ (by first | omega | (simp; done) | (simp; omega) | (simp only [World.size_alloc, World.size_setCell, World.size_drew] at *; omega))) | (with_reducible refine belA ?_ (by first | omega | (simp; done) | (simp; omega) | (simp only [World.size_alloc, World.size_setCell, World.size_drew] at *; omega))) | (with_reducible refine bel_drewN ?_ _) | (with_reducible refine Below.drew ?_) | (with_reducible assumption) | (refine Hid.out ?_; with_reducible assumption) | (apply belV; (with_reducible assumption); exact (by first | omega | (simp; done) | (simp; omega) | (simp only [World.size_alloc, World.size_setCell, World.size_drew] at *; omega))))))) (HB.out.below (by (repeat' (first | (with_reducible exact Below.refl _ _) | (with_reducible refine belS ?_ (by first | omega | (simp; done) | (simp; omega) | (simp only [World.size_alloc, World.size_setCell, World.size_drew] at *; omega))) | (with_reducible refine belA ?_ (by first | omega | (simp; done) | (simp; omega) | (simp only [World.size_alloc, World.size_setCell, World.size_drew] at *; omega))) | (with_reducible refine bel_drewN ?_ _) | (with_reducible refine Below.drew ?_) | (with_reducible assumption) | (refine Hid.out ?_; with_reducible assumption) | (apply belV; (with_reducible assumption); exact (by first | omega | (simp; done) | (simp; omega) | (simp only [World.size_alloc, World.size_setCell, World.size_drew] at *; omega)))))))).mono ?_
    rintro e w1 ⟨rfl, hb⟩
    have G1 : Hid (Below w.heap.size w w1) := belU hb (by (repeat' (first | (with_reducible exact Below.refl _ _) | (with_reducible refine belS ?_ (by first | omega | (simp; done) | (simp; omega) | (simp only [World.size_alloc, World.size_setCell, World.size_drew] at *; omega))) | (with_reducible refine belA ?_ (by first | omega | (simp; done) | (simp; omega) | (simp only [World.size_alloc, World.size_setCell, World.size_drew] at *; omega))) | (with_reducible refine bel_drewN ?_ _) | (with_reducible refine Below.drew ?_) | (with_reducible assumption) | (refine Hid.out ?_; with_reducible assumption) | (apply belV; (with_reducible assumption); exact (by first | omega | (simp; done) | (simp; omega) | (simp only [World.size_alloc, World.size_setCell, World.size_drew] at *; omega)))))) (by first | omega | (simp; done) | (simp; omega) | (simp only [World.size_alloc, World.size_setCell, World.size_drew] at *; omega))
    have X_1 : Hid (Box w1 (w.heap.size) #[.slice A0 p.costs.length c0, .slice A1 p.uppers.length c1, .slice A2 p.rows.length c2]) := Lib.hid (Box.below (by (repeat' (first | (with_reducible exact Box.new _ _ _ (by first | omega | (simp; done) | (simp; omega) | (simp only [World.size_alloc, World.size_setCell, World.size_drew] at *; omega))) | (with_reducible refine Box.far ?_ (by first | omega | (simp; done) | (simp; omega) | (simp only [World.size_alloc, World.size_setCell, World.size_drew] at *; omega)) _) | (with_reducible refine Box.alloc ?_ _) | (with_reducible refine Box.drewN ?_ _) | (with_reducible refine Box.drew ?_) | (with_reducible assumption) | (refine Hid.out ?_; with_reducible assumption) | (apply Box.belowD; (with_reducible assumption))))) hb)
    have yX_1 : w.heap.size < w1.heap.size := X_1.out.1
    obtain ⟨X_1c0, X_1c1, X_1c2⟩ := Box.facts3 X_1.out
    have Y_1 : Hid (Box w1 (w.heap.size + 1) #[.slice (some ⟨l0, 0, none⟩) b.low.length d0, .slice B1 b.high.length d1]) := Lib.hid (Box.below (by (repeat' (first | (with_reducible exact Box.new _ _ _ (by first | omega | (simp; done) | (simp; omega) | (simp only [World.size_alloc, World.size_setCell, World.size_drew] at *; omega))) | (with_reducible refine Box.far ?_ (by first | omega | (simp; done) | (simp; omega) | (simp only [World.size_alloc, World.size_setCell, World.size_drew] at *; omega)) _) | (with_reducible refine Box.alloc ?_ _) | (with_reducible refine Box.drewN ?_ _) | (with_reducible refine Box.drew ?_) | (with_reducible assumption) | (refine Hid.out ?_; with_reducible assumption) | (apply Box.belowD; (with_reducible assumption))))) hb)
    have yY_1 : w.heap.size + 1 < w1.heap.size := Y_1.out.1
    obtain ⟨Y_1c0, Y_1c1⟩ := Box.facts2 Y_1.out
    have z1 := hb.size
    (try simp at z1)
    have D1 := Lib.hid hb; clear hb
    go_wp2_with fail
    refine (spec_keptVars _ _ _ _ b _ (HB.out.below (by (repeat' (first | (with_reducible exact Below.refl _ _) | (with_reducible refine belS ?_ (by first | omega | (simp; done) | (simp; omega) | (simp only [World.size_alloc, World.size_setCell, World.size_drew] at *; omega))) | (with_reducible refine belA ?_ (by first | omega | (simp; done) | (simp; omega) | (simp only [World.size_alloc, World.size_setCell, World.size_drew] at *; omega))) | (with_reducible refine bel_drewN ?_ _) | (with_reducible refine Below.drew ?_) | (with_reducible assumption) | (refine Hid.out ?_; with_reducible assumption) | (apply belV; (with_reducible assumption); exact (by first | omega | (simp; done) | (simp; omega) | (simp only [World.size_alloc, World.size_setCell, World.size_drew] at *; omega))))))) HS.out).mono ?_
    rintro e w2 ⟨K, dk, rfl, ho, hb⟩
    have G2 : Hid (Below w.heap.size w w2) := belU hb (by (repeat' (first | (with_reducible exact Below.refl _ _) | (with_reducible refine belS ?_ (by first | omega | (simp; done) | (simp; omega) | (simp only [World.size_alloc, World.size_setCell, World.size_drew] at *; omega))) | (with_reducible refine belA ?_ (by first | omega | (simp; done) | (simp; omega) | (simp only [World.size_alloc, World.size_setCell, World.size_drew] at *; omega))) | (with_reducible refine bel_drewN ?_ _) | (with_reducible refine Below.drew ?_) | (with_reducible assumption) | (refine Hid.out ?_; with_reducible assumption) | (apply belV; (with_reducible assumption); exact (by first | omega | (simp; done) | (simp; omega) | (simp only [World.size_alloc, World.size_setCell, World.size_drew] at *; omega)))))) (by first | omega | (simp; done) | (simp; omega) | (simp only [World.size_alloc, World.size_setCell, World.size_drew] at *; omega))
    (try simp only [World.size_alloc, World.size_setCell, World.size_drew, World.heap_drewN] at ho)
    have W2 := Lib.hid ho; clear ho
    have X_2 : Hid (Box w2 (w.heap.size) #[.slice A0 p.costs.length c0, .slice A1 p.uppers.length c1, .slice A2 p.rows.length c2]) := Lib.hid (Box.below (by (repeat' (first | (with_reducible exact Box.new _ _ _ (by first | omega | (simp; done) | (simp; omega) | (simp only [World.size_alloc, World.size_setCell, World.size_drew] at *; omega))) | (with_reducible refine Box.far ?_ (by first | omega | (simp; done) | (simp; omega) | (simp only [World.size_alloc, World.size_setCell, World.size_drew] at *; omega)) _) | (with_reducible refine Box.alloc ?_ _) | (with_reducible refine Box.drewN ?_ _) | (with_reducible refine Box.drew ?_) | (with_reducible assumption) | (refine Hid.out ?_; with_reducible assumption) | (apply Box.belowD; (with_reducible assumption))))) hb)
    have yX_2 : w.heap.size < w2.heap.size := X_2.out.1
    obtain ⟨X_2c0, X_2c1, X_2c2⟩ := Box.facts3 X_2.out
    have Y_2 : Hid (Box w2 (w.heap.size + 1) #[.slice (some ⟨l0, 0, none⟩) b.low.length d0, .slice B1 b.high.length d1]) := Lib.hid (Box.below (by (repeat' (first | (with_reducible exact Box.new _ _ _ (by first | omega | (simp; done) | (simp; omega) | (simp only [World.size_alloc, World.size_setCell, World.size_drew] at *; omega))) | (with_reducible refine Box.far ?_ (by first | omega | (simp; done) | (simp; omega) | (simp only [World.size_alloc, World.size_setCell, World.size_drew] at *; omega)) _) | (with_reducible refine Box.alloc ?_ _) | (with_reducible refine Box.drewN ?_ _) | (with_reducible refine Box.drew ?_) | (with_reducible assumption) | (refine Hid.out ?_; with_reducible assumption) | (apply Box.belowD; (with_reducible assumption))))) hb)
    have yY_2 : w.heap.size + 1 < w2.heap.size := Y_2.out.1
    obtain ⟨Y_2c0, Y_2c1⟩ := Box.facts2 Y_2.out
    have z2 := hb.size
    (try simp at z2)
    have D2 := Lib.hid hb; clear hb
    go_wp2_with fail
    go_ret2
    exact PairEnd.nil E.out (by (repeat' (first | (with_reducible exact Below.refl _ _) | (with_reducible refine belS ?_ (by first | omega | (simp; done) | (simp; omega) | (simp only [World.size_alloc, World.size_setCell, World.size_drew] at *; omega))) | (with_reducible refine belA ?_ (by first | omega | (simp; done) | (simp; omega) | (simp only [World.size_alloc, World.size_setCell, World.size_drew] at *; omega))) | (with_reducible refine bel_drewN ?_ _) | (with_reducible refine Below.drew ?_) | (with_reducible assumption) | (refine Hid.out ?_; with_reducible assumption) | (apply belV; (with_reducible assumption); exact (by first | omega | (simp; done) | (simp; omega) | (simp only [World.size_alloc, World.size_setCell, World.size_drew] at *; omega))))))
  have hnk : n = (kept b).length := by have := HL.out; omega
  subst hnk
  have hkl : (kept b).length ≤ 5 := by have := idxs_len (opn b) b.low.length; unfold kept; omega
  have HLN := Lib.hid hln; clear hln
  have HPOS := Lib.hid (vBox_pos h1)
  have HE := Lib.hid HS.out.len
  have HV := Lib.hid h1
  go_enter Try.func50, Try.ntmps50
  go_wp2_with fail
  refine (spec_ValidBox _ _ _ _ _ _ _ _ _ _ p b _ (HP.out.below (by (repeat' (first | (with_reducible exact Below.refl _ _) | (with_reducible refine belS ?_ (by first | omega | (simp; done) | (simp; omega) | (simp only [World.size_alloc, World.size_setCell, World.size_drew] at *; omega))) | (with_reducible refine belA ?_ (by first | omega | (simp; done) | (simp; omega) | (simp only [World.size_alloc, World.size_setCell, World.size_drew] at *; omega))) | (with_reducible refine bel_drewN ?_ _) | (with_reducible refine Below.drew ?_) | (with_reducible assumption) | (refine Hid.out ?_; with_reducible assumption) | (apply belV; (with_reducible assumption); exact (by first | omega | (simp; done) | (simp; omega) | (simp only [World.size_alloc, World.size_setCell, World.size_drew] at *; omega))))))) (HB.out.below (by (repeat' (first | (with_reducible exact Below.refl _ _) | (with_reducible refine belS ?_ (by first | omega | (simp; done) | (simp; omega) | (simp only [World.size_alloc, World.size_setCell, World.size_drew] at *; omega))) | (with_reducible refine belA ?_ (by first | omega | (simp; done) | (simp; omega) | (simp only [World.size_alloc, World.size_setCell, World.size_drew] at *; omega))) | (with_reducible refine bel_drewN ?_ _) | (with_reducible refine Below.drew ?_) | (with_reducible assumption) | (refine Hid.out ?_; with_reducible assumption) | (apply belV; (with_reducible assumption); exact (by first | omega | (simp; done) | (simp; omega) | (simp only [World.size_alloc, World.size_setCell, World.size_drew] at *; omega)))))))).mono ?_
  rintro e w1 ⟨rfl, hb⟩
  have G1 : Hid (Below w.heap.size w w1) := belU hb (by (repeat' (first | (with_reducible exact Below.refl _ _) | (with_reducible refine belS ?_ (by first | omega | (simp; done) | (simp; omega) | (simp only [World.size_alloc, World.size_setCell, World.size_drew] at *; omega))) | (with_reducible refine belA ?_ (by first | omega | (simp; done) | (simp; omega) | (simp only [World.size_alloc, World.size_setCell, World.size_drew] at *; omega))) | (with_reducible refine bel_drewN ?_ _) | (with_reducible refine Below.drew ?_) | (with_reducible assumption) | (refine Hid.out ?_; with_reducible assumption) | (apply belV; (with_reducible assumption); exact (by first | omega | (simp; done) | (simp; omega) | (simp only [World.size_alloc, World.size_setCell, World.size_drew] at *; omega)))))) (by first | omega | (simp; done) | (simp; omega) | (simp only [World.size_alloc, World.size_setCell, World.size_drew] at *; omega))
  have X_1 : Hid (Box w1 (w.heap.size) #[.slice A0 p.costs.length c0, .slice A1 p.uppers.length c1, .slice A2 p.rows.length c2]) := Lib.hid (Box.below (by (repeat' (first | (with_reducible exact Box.new _ _ _ (by first | omega | (simp; done) | (simp; omega) | (simp only [World.size_alloc, World.size_setCell, World.size_drew] at *; omega))) | (with_reducible refine Box.far ?_ (by first | omega | (simp; done) | (simp; omega) | (simp only [World.size_alloc, World.size_setCell, World.size_drew] at *; omega)) _) | (with_reducible refine Box.alloc ?_ _) | (with_reducible refine Box.drewN ?_ _) | (with_reducible refine Box.drew ?_) | (with_reducible assumption) | (refine Hid.out ?_; with_reducible assumption) | (apply Box.belowD; (with_reducible assumption))))) hb)
  have yX_1 : w.heap.size < w1.heap.size := X_1.out.1
  obtain ⟨X_1c0, X_1c1, X_1c2⟩ := Box.facts3 X_1.out
  have Y_1 : Hid (Box w1 (w.heap.size + 1) #[.slice (some ⟨l0, 0, none⟩) b.low.length d0, .slice B1 b.high.length d1]) := Lib.hid (Box.below (by (repeat' (first | (with_reducible exact Box.new _ _ _ (by first | omega | (simp; done) | (simp; omega) | (simp only [World.size_alloc, World.size_setCell, World.size_drew] at *; omega))) | (with_reducible refine Box.far ?_ (by first | omega | (simp; done) | (simp; omega) | (simp only [World.size_alloc, World.size_setCell, World.size_drew] at *; omega)) _) | (with_reducible refine Box.alloc ?_ _) | (with_reducible refine Box.drewN ?_ _) | (with_reducible refine Box.drew ?_) | (with_reducible assumption) | (refine Hid.out ?_; with_reducible assumption) | (apply Box.belowD; (with_reducible assumption))))) hb)
  have yY_1 : w.heap.size + 1 < w1.heap.size := Y_1.out.1
  obtain ⟨Y_1c0, Y_1c1⟩ := Box.facts2 Y_1.out
  have z1 := hb.size
  (try simp at z1)
  have D1 := Lib.hid hb; clear hb
  go_wp2_with fail
  refine (spec_keptVars _ _ _ _ b _ (HB.out.below (by (repeat' (first | (with_reducible exact Below.refl _ _) | (with_reducible refine belS ?_ (by first | omega | (simp; done) | (simp; omega) | (simp only [World.size_alloc, World.size_setCell, World.size_drew] at *; omega))) | (with_reducible refine belA ?_ (by first | omega | (simp; done) | (simp; omega) | (simp only [World.size_alloc, World.size_setCell, World.size_drew] at *; omega))) | (with_reducible refine bel_drewN ?_ _) | (with_reducible refine Below.drew ?_) | (with_reducible assumption) | (refine Hid.out ?_; with_reducible assumption) | (apply belV; (with_reducible assumption); exact (by first | omega | (simp; done) | (simp; omega) | (simp only [World.size_alloc, World.size_setCell, World.size_drew] at *; omega))))))) HS.out).mono ?_
  rintro e w2 ⟨K, dk, rfl, ho, hb⟩
  have G2 : Hid (Below w.heap.size w w2) := belU hb (by (repeat' (first | (with_reducible exact Below.refl _ _) | (with_reducible refine belS ?_ (by first | omega | (simp; done) | (simp; omega) | (simp only [World.size_alloc, World.size_setCell, World.size_drew] at *; omega))) | (with_reducible refine belA ?_ (by first | omega | (simp; done) | (simp; omega) | (simp only [World.size_alloc, World.size_setCell, World.size_drew] at *; omega))) | (with_reducible refine bel_drewN ?_ _) | (with_reducible refine Below.drew ?_) | (with_reducible assumption) | (refine Hid.out ?_; with_reducible assumption) | (apply belV; (with_reducible assumption); exact (by first | omega | (simp; done) | (simp; omega) | (simp only [World.size_alloc, World.size_setCell, World.size_drew] at *; omega)))))) (by first | omega | (simp; done) | (simp; omega) | (simp only [World.size_alloc, World.size_setCell, World.size_drew] at *; omega))
  (try simp only [World.size_alloc, World.size_setCell, World.size_drew, World.heap_drewN] at ho)
  have W2 := Lib.hid ho; clear ho
  have X_2 : Hid (Box w2 (w.heap.size) #[.slice A0 p.costs.length c0, .slice A1 p.uppers.length c1, .slice A2 p.rows.length c2]) := Lib.hid (Box.below (by (repeat' (first | (with_reducible exact Box.new _ _ _ (by first | omega | (simp; done) | (simp; omega) | (simp only [World.size_alloc, World.size_setCell, World.size_drew] at *; omega))) | (with_reducible refine Box.far ?_ (by first | omega | (simp; done) | (simp; omega) | (simp only [World.size_alloc, World.size_setCell, World.size_drew] at *; omega)) _) | (with_reducible refine Box.alloc ?_ _) | (with_reducible refine Box.drewN ?_ _) | (with_reducible refine Box.drew ?_) | (with_reducible assumption) | (refine Hid.out ?_; with_reducible assumption) | (apply Box.belowD; (with_reducible assumption))))) hb)
  have yX_2 : w.heap.size < w2.heap.size := X_2.out.1
  obtain ⟨X_2c0, X_2c1, X_2c2⟩ := Box.facts3 X_2.out
  have Y_2 : Hid (Box w2 (w.heap.size + 1) #[.slice (some ⟨l0, 0, none⟩) b.low.length d0, .slice B1 b.high.length d1]) := Lib.hid (Box.below (by (repeat' (first | (with_reducible exact Box.new _ _ _ (by first | omega | (simp; done) | (simp; omega) | (simp only [World.size_alloc, World.size_setCell, World.size_drew] at *; omega))) | (with_reducible refine Box.far ?_ (by first | omega | (simp; done) | (simp; omega) | (simp only [World.size_alloc, World.size_setCell, World.size_drew] at *; omega)) _) | (with_reducible refine Box.alloc ?_ _) | (with_reducible refine Box.drewN ?_ _) | (with_reducible refine Box.drew ?_) | (with_reducible assumption) | (refine Hid.out ?_; with_reducible assumption) | (apply Box.belowD; (with_reducible assumption))))) hb)
  have yY_2 : w.heap.size + 1 < w2.heap.size := Y_2.out.1
  obtain ⟨Y_2c0, Y_2c1⟩ := Box.facts2 Y_2.out
  have z2 := hb.size
  (try simp at z2)
  have D2 := Lib.hid hb; clear hb
  go_wp2_with fail
  refine (spec_keptVars _ _ _ _ b _ (HB.out.below (by (repeat' (first | (with_reducible exact Below.refl _ _) | (with_reducible refine belS ?_ (by first | omega | (simp; done) | (simp; omega) | (simp only [World.size_alloc, World.size_setCell, World.size_drew] at *; omega))) | (with_reducible refine belA ?_ (by first | omega | (simp; done) | (simp; omega) | (simp only [World.size_alloc, World.size_setCell, World.size_drew] at *; omega))) | (with_reducible refine bel_drewN ?_ _) | (with_reducible refine Below.drew ?_) | (with_reducible assumption) | (refine Hid.out ?_; with_reducible assumption) | (apply belV; (with_reducible assumption); exact (by first | omega | (simp; done) | (simp; omega) | (simp only [World.size_alloc, World.size_setCell, World.size_drew] at *; omega))))))) HS.out).mono ?_
  rintro e w3 ⟨K3, dk3, rfl, ho, hb⟩
  have G3 : Hid (Below w.heap.size w w3) := belU hb (by (repeat' (first | (with_reducible exact Below.refl _ _) | (with_reducible refine belS ?_ (by first | omega | (simp; done) | (simp; omega) | (simp only [World.size_alloc, World.size_setCell, World.size_drew] at *; omega))) | (with_reducible refine belA ?_ (by first | omega | (simp; done) | (simp; omega) | (simp only [World.size_alloc, World.size_setCell, World.size_drew] at *; omega))) | (with_reducible refine bel_drewN ?_ _) | (with_reducible refine Below.drew ?_) | (with_reducible assumption) | (refine Hid.out ?_; with_reducible assumption) | (apply belV; (with_reducible assumption); exact (by first | omega | (simp; done) | (simp; omega) | (simp only [World.size_alloc, World.size_setCell, World.size_drew] at *; omega)))))) (by first | omega | (simp; done) | (simp; omega) | (simp only [World.size_alloc, World.size_setCell, World.size_drew] at *; omega))
  (try simp only [World.size_alloc, World.size_setCell, World.size_drew, World.heap_drewN] at ho)
  have W3 := Lib.hid ho; clear ho
  have X_3 : Hid (Box w3 (w.heap.size) #[.slice A0 p.costs.length c0, .slice A1 p.uppers.length c1, .slice A2 p.rows.length c2]) := Lib.hid (Box.below (by (repeat' (first | (with_reducible exact Box.new _ _ _ (by first | omega | (simp; done) | (simp; omega) | (simp only [World.size_alloc, World.size_setCell, World.size_drew] at *; omega))) | (with_reducible refine Box.far ?_ (by first | omega | (simp; done) | (simp; omega) | (simp only [World.size_alloc, World.size_setCell, World.size_drew] at *; omega)) _) | (with_reducible refine Box.alloc ?_ _) | (with_reducible refine Box.drewN ?_ _) | (with_reducible refine Box.drew ?_) | (with_reducible assumption) | (refine Hid.out ?_; with_reducible assumption) | (apply Box.belowD; (with_reducible assumption))))) hb)
  have yX_3 : w.heap.size < w3.heap.size := X_3.out.1
  obtain ⟨X_3c0, X_3c1, X_3c2⟩ := Box.facts3 X_3.out
  have Y_3 : Hid (Box w3 (w.heap.size + 1) #[.slice (some ⟨l0, 0, none⟩) b.low.length d0, .slice B1 b.high.length d1]) := Lib.hid (Box.below (by (repeat' (first | (with_reducible exact Box.new _ _ _ (by first | omega | (simp; done) | (simp; omega) | (simp only [World.size_alloc, World.size_setCell, World.size_drew] at *; omega))) | (with_reducible refine Box.far ?_ (by first | omega | (simp; done) | (simp; omega) | (simp only [World.size_alloc, World.size_setCell, World.size_drew] at *; omega)) _) | (with_reducible refine Box.alloc ?_ _) | (with_reducible refine Box.drewN ?_ _) | (with_reducible refine Box.drew ?_) | (with_reducible assumption) | (refine Hid.out ?_; with_reducible assumption) | (apply Box.belowD; (with_reducible assumption))))) hb)
  have yY_3 : w.heap.size + 1 < w3.heap.size := Y_3.out.1
  obtain ⟨Y_3c0, Y_3c1⟩ := Box.facts2 Y_3.out
  have z3 := hb.size
  (try simp at z3)
  have D3 := Lib.hid hb; clear hb
  go_wp2_with fail
  refine (spec_copyInts _ _ _ _ b.low _ (HB.out.i0.below (by (repeat' (first | (with_reducible exact Below.refl _ _) | (with_reducible refine belS ?_ (by first | omega | (simp; done) | (simp; omega) | (simp only [World.size_alloc, World.size_setCell, World.size_drew] at *; omega))) | (with_reducible refine belA ?_ (by first | omega | (simp; done) | (simp; omega) | (simp only [World.size_alloc, World.size_setCell, World.size_drew] at *; omega))) | (with_reducible refine bel_drewN ?_ _) | (with_reducible refine Below.drew ?_) | (with_reducible assumption) | (refine Hid.out ?_; with_reducible assumption) | (apply belV; (with_reducible assumption); exact (by first | omega | (simp; done) | (simp; omega) | (simp only [World.size_alloc, World.size_setCell, World.size_drew] at *; omega))))))) (by omega)).mono ?_
  rintro e w4 ⟨C, dc, rfl, ho, hb4⟩
  obtain ⟨g, rfl, lg1, lg2, og⟩ := OwnS.blk ho HPOS.out
  have OG := Lib.hid og; clear og ho
  have G4 : Hid (Below w3.heap.size w3 w4) := Lib.hid hb4
  clear hb4
  clear h1
  have IK : Hid (Ints w3 K3 (kept b).length (kept b)) := Lib.hid (OwnS.ints W3.out)
  go_wp2_with fail
  go_loopw [10] (fun s10 wr => ∃ k : Nat, k ≤ (kept b).length ∧ s10 = .int .i64 k ∧ Hid (∀ i, i < k → resOk b ys i = true) ∧ Hid (OwnI wr g (resK b ys k)) ∧ Hid (Below w3.heap.size w3 wr)) (fun s10 _ => (kept b).length - (intOf s10).toNat)
  case atStart => exact ⟨0, by omega, rfl, Lib.hid (fun i hi => absurd hi (Nat.not_lt_zero i)), OG, G4⟩
  case round =>
    obtain ⟨k, hk, rfl, hal, hown, hbel⟩ := hrel
    have z1 := hown.out.1
    have zb := hbel.out.size
    have HBW : Hid (Below w.heap.size w wr) := Lib.hid (belU hbel.out G3.out (by omega))
    have BY : Hid (Box wr (w.heap.size + 1) _) := Lib.hid (Box.below Y_3.out hbel.out)
    obtain ⟨y0, y1⟩ := Box.facts2 BY.out
    have zy := BY.out.1
    by_cases hlt : k < (kept b).length
    · obtain ⟨kv, hql⟩ := kept_lt hlt
      have hqh : keptAt b k < b.high.length := by have := HE.out; omega
      have HI0 : Ints wr K3 (kept b).length (kept b) := IK.out.below hbel.out
      have HI1 : Ints wr B1 b.high.length b.high := HB.out.i1.below HBW.out
      have HI3 : Ints wr (some ⟨l0, 0, none⟩) b.low.length b.low := HB.out.i0.below HBW.out
      have HI2 : Ints wr A (kept b).length ys := HY.out.below HBW.out
      obtain ⟨b0, of0, x0, rfl, hb0, hx0, _, _, hc0⟩ := HI0.at_ hlt
      rw [kv] at hx0
      injection hx0 with hx0
      subst hx0
      obtain ⟨b1, of1, hv, rfl, hb1, hx1, _, _, hc1⟩ := HI1.at_ hqh
      obtain ⟨b3, of3, lv, eb, hb3, hx3, _, _, hc3⟩ := HI3.at_ hql
      injection eb with eb
      injection eb with eb1 eb2
      subst eb1 eb2
      simp only [Nat.zero_add] at hc3
      obtain ⟨b2, of2, y, rfl, hb2, hyk, _, _, hc2⟩ := HI2.at_ hlt
      clear HI0 HI1 HI2 HI3 kv
      have hcl : keptAt b k < (resK b ys k).length := by rw [resK_len]; exact hql
      obtain ⟨cur, hcur⟩ : ∃ cur, (resK b ys k)[keptAt b k]? = some cur := ⟨_, List.getElem?_eq_getElem hcl⟩
      obtain ⟨o1, o2⟩ := hown.out.2 _ _ hcur
      have hbd := resK_bd HS.out k (by omega) hal.out cur (List.mem_of_getElem? hcur)
      obtain ⟨bd1, bd2⟩ := hbd
      have hwa : widAt b (keptAt b k) = hv - lv := by unfold widAt; rw [getD_of hx1, getD_of hx3]
      have ho : resOk b ys k = inB y 0 (hv - lv) := by unfold resOk; rw [getD_of hyk, hwa]
      have HO := Lib.hid ho; clear ho
      obtain ⟨lb1, lb2⟩ := HS.out.lo hx3
      obtain ⟨hb1', hb2'⟩ := HS.out.hi hx1
      have hwd : IntKind.i64.wrap (hv - lv) = hv - lv := IntWalk.i64_in _ ⟨by omega, by omega⟩
      have HC := Lib.hid hcur; clear hcur
      have HYK := Lib.hid hyk; clear hyk
      clear hx1 hx3 hwa
      cases hin : inB y 0 (hv - lv)
      · have E := Lib.hid (res_3 (p := p) (ys := ys) (b := b) (by
          rw [List.all_eq_false]
          exact ⟨k, by rw [List.mem_range, HLN.out]; exact hlt, by rw [HO.out, hin]; decide⟩))
        clear lb1 lb2 hb1' hb2' bd1 bd2
        go_wp2_with fail
        go_quiet ((go_at_call 62; exact q_same (spec_inRange _ _ _ _)))
        go_wp2_with fail
        go_ret2
        exact PairEnd.nil E.out (by (repeat' (first | (with_reducible exact Below.refl _ _) | (with_reducible refine belS ?_ (by first | omega | (simp; done) | (simp; omega) | (simp only [World.size_alloc, World.size_setCell, World.size_drew] at *; omega))) | (with_reducible refine belA ?_ (by first | omega | (simp; done) | (simp; omega) | (simp only [World.size_alloc, World.size_setCell, World.size_drew] at *; omega))) | (with_reducible refine bel_drewN ?_ _) | (with_reducible refine Below.drew ?_) | (with_reducible assumption) | (refine Hid.out ?_; with_reducible assumption) | (apply belV; (with_reducible assumption); exact (by first | omega | (simp; done) | (simp; omega) | (simp only [World.size_alloc, World.size_setCell, World.size_drew] at *; omega))))))
      · have hwt : 0 ≤ y ∧ y ≤ hv - lv := inB_iff.1 hin
        obtain ⟨hw1, hw2⟩ := hwt
        have hwx : IntKind.i64.wrap (cur + y) = cur + y := IntWalk.i64_in _ ⟨by omega, by omega⟩
        clear bd1 bd2 hw1 hw2 lb1 lb2 hb1' hb2'
        go_wp2_with fail
        go_quiet ((go_at_call 62; exact q_same (spec_inRange _ _ _ _)))
        go_wp2_with fail
        go_region
        all_goals
          clear hwx
          go_wp2
          go_roundw
          case rel =>
            refine ⟨k + 1, by omega, by go_num, Lib.hid ?_, Lib.hid ?_, ?_⟩
            · intro i hi
              rcases Nat.lt_or_ge i k with h | h
              · exact hal.out i h
              · have : i = k := by omega
                subst this
                rw [HO.out, hin]
            · have o3 := (hown.out.drewN nq).set_ HC.out (cur + y)
              have e3 : resK b ys (k + 1) = (resK b ys k).set (keptAt b k) (cur + y) := by rw [resK, getD_of HC.out, getD_of HYK.out]
              rw [e3]
              first | exact o3.drew | exact o3 | (repeat' (first | (with_reducible exact OwnI.madeAt _ _ _ (by first | omega | (simp; done) | (simp; omega) | (simp only [World.size_alloc, World.size_setCell, World.size_drew] at *; omega))) | (with_reducible refine OwnI.far ?_ (by first | omega | (simp; done) | (simp; omega) | (simp only [World.size_alloc, World.size_setCell, World.size_drew] at *; omega)) _) | (with_reducible refine OwnI.alloc ?_ _) | (with_reducible refine OwnI.drewN ?_ _) | (with_reducible refine OwnI.drew ?_) | (with_reducible assumption) | (refine Hid.out ?_; with_reducible assumption) | (apply OwnI.turn; (with_reducible assumption); exact (by first | omega | (simp; done) | (simp; omega) | (simp only [World.size_alloc, World.size_setCell, World.size_drew] at *; omega))) | (apply OwnI.belowD; (with_reducible assumption))))
            · (refine Lib.hid ?_; (repeat' (first | (with_reducible exact Below.refl _ _) | (with_reducible refine belS ?_ (by first | omega | (simp; done) | (simp; omega) | (simp only [World.size_alloc, World.size_setCell, World.size_drew] at *; omega))) | (with_reducible refine belA ?_ (by first | omega | (simp; done) | (simp; omega) | (simp only [World.size_alloc, World.size_setCell, World.size_drew] at *; omega))) | (with_reducible refine bel_drewN ?_ _) | (with_reducible refine Below.drew ?_) | (with_reducible assumption) | (refine Hid.out ?_; with_reducible assumption) | (apply belV; (with_reducible assumption); exact (by first | omega | (simp; done) | (simp; omega) | (simp only [World.size_alloc, World.size_setCell, World.size_drew] at *; omega))))))
          case measure => simp [intOf]; omega
    · have hke : k = (kept b).length := by omega
      subst hke
      have E := Lib.hid (res_4 (p := p) HV.out HLN.out (by
        rw [List.all_eq_true]
        intro i hi
        exact hal.out i (by have := List.mem_range.1 hi; have := HLN.out; omega)))
      have HR := Lib.hid (resK_I HS.out (kept b).length hkl hal.out)
      go_wp2_with fail
      go_ret2
      exact PairEnd.own E.out HLN.out hown.out (by omega) (by omega) HR.out (by omega) (by (repeat' (first | (with_reducible exact Below.refl _ _) | (with_reducible refine belS ?_ (by first | omega | (simp; done) | (simp; omega) | (simp only [World.size_alloc, World.size_setCell, World.size_drew] at *; omega))) | (with_reducible refine belA ?_ (by first | omega | (simp; done) | (simp; omega) | (simp only [World.size_alloc, World.size_setCell, World.size_drew] at *; omega))) | (with_reducible refine bel_drewN ?_ _) | (with_reducible refine Below.drew ?_) | (with_reducible assumption) | (refine Hid.out ?_; with_reducible assumption) | (apply belV; (with_reducible assumption); exact (by first | omega | (simp; done) | (simp; omega) | (simp only [World.size_alloc, World.size_setCell, World.size_drew] at *; omega))))))
end Go.Proofs.Ytejcloanmfkglab
