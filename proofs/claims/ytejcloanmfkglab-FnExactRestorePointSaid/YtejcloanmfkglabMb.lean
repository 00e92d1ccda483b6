
/-
  The marks of the exact laws on boxes.
-/
import Derived.Test.YtejcloanmfkglabMk
set_option linter.unusedSimpArgs false
set_option linter.unusedVariables false
namespace Go.Proofs.Ytejcloanmfkglab
open Go.RowKit

theorem eqBoxI (A0 A1 B0 B1 : Option Addr) (c0 c1 d0 d1 : Nat) (p : PBox) (w : World) (h0 : Ints w A0 p.low.length p.low) (h1 : Ints w A1 p.high.length p.high) (k0 : Ints w B0 p.low.length p.low) (k1 : Ints w B1 p.high.length p.high) (s0 : p.low.length ≤ 1048576) (s1 : p.high.length ≤ 1048576) :
    Calls Try.prog 41 #[.agg #[.slice A0 p.low.length c0, .slice A1 p.high.length c1], .agg #[.slice B0 p.low.length d0, .slice B1 p.high.length d1]] w fun e w' => e = .returned (.bool true) ∧ Below w.heap.size w w' := by
  have H0 := Lib.hid h0; clear h0
  have H1 := Lib.hid h1; clear h1
  have K0 := Lib.hid k0; clear k0
  have K1 := Lib.hid k1; clear k1
  go_enter Try.func41, Try.ntmps41
  go_wp2_with fail
  refine (laws_eqIntS _ _ _ _ _ p.low _ (H0.out.below (by (repeat' (first | (with_reducible exact Below.refl _ _) | (with_reducible refine belS ?_ (by first | omega | (simp; done) | (simp; omega) | (simp only [World.size_alloc, World.size_setCell, World.size_drew] at *; omega))) | (with_reducible refine belA ?_ (by first | omega | (simp; done) | (simp; omega) | (simp only [World.size_alloc, World.size_setCell, World.size_drew] at *; omega))) | (with_reducible refine bel_drewN ?_ _) | (with_reducible refine Below.drew ?_) | (with_reducible assumption) | (refine Hid.out ?_; with_reducible assumption) | (apply belV; (with_reducible assumption); exact (by first | omega | (simp; done) | (simp; omega) | (simp only [World.size_alloc, World.size_setCell, World.size_drew] at *; omega))))))) (K0.out.below (by (repeat' (first | (with_reducible exact Below.refl _ _) | (with_reducible refine belS ?_ (by first | omega | (simp; done) | (simp; omega) | (simp only [World.size_alloc, World.size_setCell, World.size_drew] at *; omega))) | (with_reducible refine belA ?_ (by first | omega | (simp; done) | (simp; omega) | (simp only [World.size_alloc, World.size_setCell, World.size_drew] at *; omega))) | (with_reducible refine bel_drewN ?_ _) | (with_reducible refine Below.drew ?_) | (with_reducible assumption) | (refine Hid.out ?_; with_reducible assumption) | (apply belV; (with_reducible assumption); exact (by first | omega | (simp; done) | (simp; omega) | (simp only [World.size_alloc, World.size_setCell, World.size_drew] at *; omega))))))) s0).mono ?_
  rintro e w1 ⟨rfl, m1, rfl⟩
  go_wp2_with fail
  refine (laws_eqIntS _ _ _ _ _ p.high _ (H1.out.below (by (repeat' (first | (with_reducible exact Below.refl _ _) | (with_reducible refine belS ?_ (by first | omega | (simp; done) | (simp; omega) | (simp only [World.size_alloc, World.size_setCell, World.size_drew] at *; omega))) | (with_reducible refine belA ?_ (by first | omega | (simp; done) | (simp; omega) | (simp only [World.size_alloc, World.size_setCell, World.size_drew] at *; omega))) | (with_reducible refine bel_drewN ?_ _) | (with_reducible refine Below.drew ?_) | (with_reducible assumption) | (refine Hid.out ?_; with_reducible assumption) | (apply belV; (with_reducible assumption); exact (by first | omega | (simp; done) | (simp; omega) | (simp only [World.size_alloc, World.size_setCell, World.size_drew] at *; omega))))))) (K1.out.below (by (repeat' (first | (with_reducible exact Below.refl _ _) | (with_reducible refine belS ?_ (by first | omega | (simp; done) | (simp; omega) | (simp only [World.size_alloc, World.size_setCell, World.size_drew] at *; omega))) | (with_reducible refine belA ?_ (by first | omega | (simp; done) | (simp; omega) | (simp only [World.size_alloc, World.size_setCell, World.size_drew] at *; omega))) | (with_reducible refine bel_drewN ?_ _) | (with_reducible refine Below.drew ?_) | (with_reducible assumption) | (refine Hid.out ?_; with_reducible assumption) | (apply belV; (with_reducible assumption); exact (by first | omega | (simp; done) | (simp; omega) | (simp only [World.size_alloc, World.size_setCell, World.size_drew] at *; omega))))))) s1).mono ?_
  rintro e w2 ⟨rfl, m2, rfl⟩
  go_wp2_with fail
  go_ret
  exact ⟨rfl, by (repeat' (first | (with_reducible exact Below.refl _ _) | (with_reducible refine belS ?_ (by first | omega | (simp; done) | (simp; omega) | (simp only [World.size_alloc, World.size_setCell, World.size_drew] at *; omega))) | (with_reducible refine belA ?_ (by first | omega | (simp; done) | (simp; omega) | (simp only [World.size_alloc, World.size_setCell, World.size_drew] at *; omega))) | (with_reducible refine bel_drewN ?_ _) | (with_reducible refine Below.drew ?_) | (with_reducible assumption) | (refine Hid.out ?_; with_reducible assumption) | (apply belV; (with_reducible assumption); exact (by first | omega | (simp; done) | (simp; omega) | (simp only [World.size_alloc, World.size_setCell, World.size_drew] at *; omega)))))⟩

set_option maxHeartbeats 1000000 in
theorem markBoxR (lo hi lo0 hi0 lo1 hi1 : Nat) (A0 A1 : Option Addr) (c0 c1 : Nat) (p : PBox) (k : Int) (w : World) (h0 : OwnS w lo0 hi0 A0 p.low) (h1 : OwnS w lo1 hi1 A1 p.high) (hd : hi0 ≤ lo1 ∨ hi1 ≤ lo0) (l0 : lo ≤ lo0) (l1 : lo ≤ lo1) (u0 : hi0 ≤ hi) (u1 : hi1 ≤ hi) (hw : hi ≤ w.heap.size) (k0 : 0 ≤ k) (k1 : k ≤ 1048576) :
    Calls Try.prog 42 #[.agg #[.slice A0 p.low.length c0, .slice A1 p.high.length c1], .int .i64 k] w
      fun e w' => e = .returned (.int .i64 (k + p.low.length + p.high.length)) ∧ OwnS w' lo0 hi0 A0 (marks k p.low.length) ∧ OwnS w' lo1 hi1 A1 (marks (k + p.low.length) p.high.length) ∧ Turn lo hi w w' := by
  have s0 := h0.small
  have s1 := h1.small
  have H0 := Lib.hid h0; clear h0
  have H1 := Lib.hid h1; clear h1
  go_enter Try.func42, Try.ntmps42
  go_wp2_with fail
  refine (markS lo0 hi0 _ _ p.low _ _ (H0.out.alloc _) k0 (by omega)).mono ?_
  rintro e w1 ⟨rfl, ho0, ht⟩
  have M0 := Lib.hid ho0; clear ho0
  have T1 := Lib.hid ht; clear ht
  have X1 : Hid (Box w1 w.heap.size _) := Lib.hid (Box.turn T1 (by omega) (Box.new w 59 _ rfl))
  obtain ⟨x0, x1⟩ := Box.facts2 X1.out
  have z1 := T1.out.size
  simp at z1
  have H1' : Hid (OwnS w1 lo1 hi1 A1 p.high) := OwnS.turn T1 (by omega) (H1.out.alloc _)
  go_wp2_with fail
  refine (markS lo1 hi1 _ _ p.high _ _ H1'.out (by omega) (by omega)).mono ?_
  rintro e w2 ⟨rfl, ho1, ht⟩
  have M1 := Lib.hid ho1; clear ho1
  have T2 := Lib.hid ht; clear ht
  have M0' : Hid (OwnS w2 lo0 hi0 A0 (marks k p.low.length)) := OwnS.turn T2 (by omega) M0.out
  go_wp2_with fail
  go_ret
  exact ⟨rfl, M0'.out, M1.out, (((Turn.refl lo hi w).alloc _).trans (T1.out.mono l0 u0)).trans (T2.out.mono l1 u1)⟩

set_option maxHeartbeats 1000000 in
theorem heldBoxR (lo0 hi0 lo1 hi1 : Nat) (A0 A1 : Option Addr) (c0 c1 : Nat) (k : Int) (n0 n1 : Nat) (w : World) (h0 : OwnS w lo0 hi0 A0 (marks k n0)) (h1 : OwnS w lo1 hi1 A1 (marks (k + n0) n1)) (k0 : 0 ≤ k) (k1 : k ≤ 1048576) :
    Calls Try.prog 43 #[.agg #[.slice A0 n0 c0, .slice A1 n1 c1], .int .i64 k] w fun e w' => e = .returned (.int .i64 (k + n0 + n1)) ∧ Below w.heap.size w w' := by
  have s0 := h0.small
  have s1 := h1.small
  rw [marks_len] at s0 s1
  have H0 := Lib.hid h0; clear h0
  have H1 := Lib.hid h1; clear h1
  go_enter Try.func43, Try.ntmps43
  go_wp2_with fail
  refine (heldS lo0 hi0 _ _ [] _ _ _ (OwnS.by_ H0 (by (repeat' (first | (with_reducible exact OwnS.madeAt _ _ _ (by first | omega | (simp; done) | (simp; omega) | (simp only [World.size_alloc, World.size_setCell, World.size_drew] at *; omega))) | (with_reducible refine OwnS.far ?_ (by first | omega | (simp; done) | (simp; omega) | (simp only [World.size_alloc, World.size_setCell, World.size_drew] at *; omega)) _) | (with_reducible refine OwnS.alloc ?_ _) | (with_reducible refine OwnS.drewN ?_ _) | (with_reducible refine OwnS.drew ?_) | (with_reducible assumption) | (refine Hid.out ?_; with_reducible assumption) | (apply OwnS.turn; (with_reducible assumption); exact (by first | omega | (simp; done) | (simp; omega) | (simp only [World.size_alloc, World.size_setCell, World.size_drew] at *; omega))) | (apply OwnS.belowD; (with_reducible assumption)))))) k0 (by omega)).mono ?_
  rintro e w1 ⟨rfl, hb⟩
  have G1 : Hid (Below w.heap.size w w1) := belU hb (by (repeat' (first | (with_reducible exact Below.refl _ _) | (with_reducible refine belS ?_ (by first | omega | (simp; done) | (simp; omega) | (simp only [World.size_alloc, World.size_setCell, World.size_drew] at *; omega))) | (with_reducible refine belA ?_ (by first | omega | (simp; done) | (simp; omega) | (simp only [World.size_alloc, World.size_setCell, World.size_drew] at *; omega))) | (with_reducible refine bel_drewN ?_ _) | (with_reducible refine Below.drew ?_) | (with_reducible assumption) | (refine Hid.out ?_; with_reducible assumption) | (apply belV; (with_reducible assumption); exact (by first | omega | (simp; done) | (simp; omega) | (simp only [World.size_alloc, World.size_setCell, World.size_drew] at *; omega)))))) (by first | omega | (simp; done) | (simp; omega) | (simp only [World.size_alloc, World.size_setCell, World.size_drew] at *; omega))
  have X_1 : Hid (Box w1 (w.heap.size) #[.slice A0 n0 c0, .slice A1 n1 c1]) := Lib.hid (Box.below (by (repeat' (first | (with_reducible exact Box.new _ _ _ (by first | omega | (simp; done) | (simp; omega) | (simp only [World.size_alloc, World.size_setCell, World.size_drew] at *; omega))) | (with_reducible refine Box.far ?_ (by first | omega | (simp; done) | (simp; omega) | (simp only [World.size_alloc, World.size_setCell, World.size_drew] at *; omega)) _) | (with_reducible refine Box.alloc ?_ _) | (with_reducible refine Box.drewN ?_ _) | (with_reducible refine Box.drew ?_) | (with_reducible assumption) | (refine Hid.out ?_; with_reducible assumption) | (apply Box.belowD; (with_reducible assumption))))) hb)
  have yX_1 : w.heap.size < w1.heap.size := X_1.out.1
  obtain ⟨X_1c0, X_1c1⟩ := Box.facts2 X_1.out
  have z1 := hb.size
  (try simp at z1)
  have D1 := Lib.hid hb; clear hb
  go_wp2_with fail
  refine (heldS lo1 hi1 _ _ [] _ _ _ (OwnS.by_ H1 (by (repeat' (first | (with_reducible exact OwnS.madeAt _ _ _ (by first | omega | (simp; done) | (simp; omega) | (simp only [World.size_alloc, World.size_setCell, World.size_drew] at *; omega))) | (with_reducible refine OwnS.far ?_ (by first | omega | (simp; done) | (simp; omega) | (simp only [World.size_alloc, World.size_setCell, World.size_drew] at *; omega)) _) | (with_reducible refine OwnS.alloc ?_ _) | (with_reducible refine OwnS.drewN ?_ _) | (with_reducible refine OwnS.drew ?_) | (with_reducible assumption) | (refine Hid.out ?_; with_reducible assumption) | (apply OwnS.turn; (with_reducible assumption); exact (by first | omega | (simp; done) | (simp; omega) | (simp only [World.size_alloc, World.size_setCell, World.size_drew] at *; omega))) | (apply OwnS.belowD; (with_reducible assumption)))))) (by omega) (by omega)).mono ?_
  rintro e w2 ⟨rfl, hb⟩
  have G2 : Hid (Below w.heap.size w w2) := belU hb (by (repeat' (first | (with_reducible exact Below.refl _ _) | (with_reducible refine belS ?_ (by first | omega | (simp; done) | (simp; omega) | (simp only [World.size_alloc, World.size_setCell, World.size_drew] at *; omega))) | (with_reducible refine belA ?_ (by first | omega | (simp; done) | (simp; omega) | (simp only [World.size_alloc, World.size_setCell, World.size_drew] at *; omega))) | (with_reducible refine bel_drewN ?_ _) | (with_reducible refine Below.drew ?_) | (with_reducible assumption) | (refine Hid.out ?_; with_reducible assumption) | (apply belV; (with_reducible assumption); exact (by first | omega | (simp; done) | (simp; omega) | (simp only [World.size_alloc, World.size_setCell, World.size_drew] at *; omega)))))) (by first | omega | (simp; done) | (simp; omega) | (simp only [World.size_alloc, World.size_setCell, World.size_drew] at *; omega))
  have X_2 : Hid (Box w2 (w.heap.size) #[.slice A0 n0 c0, .slice A1 n1 c1]) := Lib.hid (Box.below (by (repeat' (first | (with_reducible exact Box.new _ _ _ (by first | omega | (simp; done) | (simp; omega) | (simp only [World.size_alloc, World.size_setCell, World.size_drew] at *; omega))) | (with_reducible refine Box.far ?_ (by first | omega | (simp; done) | (simp; omega) | (simp only [World.size_alloc, World.size_setCell, World.size_drew] at *; omega)) _) | (with_reducible refine Box.alloc ?_ _) | (with_reducible refine Box.drewN ?_ _) | (with_reducible refine Box.drew ?_) | (with_reducible assumption) | (refine Hid.out ?_; with_reducible assumption) | (apply Box.belowD; (with_reducible assumption))))) hb)
  have yX_2 : w.heap.size < w2.heap.size := X_2.out.1
  obtain ⟨X_2c0, X_2c1⟩ := Box.facts2 X_2.out
  have z2 := hb.size
  (try simp at z2)
  have D2 := Lib.hid hb; clear hb
  go_wp2_with fail
  go_ret
  exact ⟨rfl, by (repeat' (first | (with_reducible exact Below.refl _ _) | (with_reducible refine belS ?_ (by first | omega | (simp; done) | (simp; omega) | (simp only [World.size_alloc, World.size_setCell, World.size_drew] at *; omega))) | (with_reducible refine belA ?_ (by first | omega | (simp; done) | (simp; omega) | (simp only [World.size_alloc, World.size_setCell, World.size_drew] at *; omega))) | (with_reducible refine bel_drewN ?_ _) | (with_reducible refine Below.drew ?_) | (with_reducible assumption) | (refine Hid.out ?_; with_reducible assumption) | (apply belV; (with_reducible assumption); exact (by first | omega | (simp; done) | (simp; omega) | (simp only [World.size_alloc, World.size_setCell, World.size_drew] at *; omega)))))⟩
end Go.Proofs.Ytejcloanmfkglab
