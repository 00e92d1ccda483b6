
/-
  The marks of the exact laws on boxes.
-/
import Derived.Test.YthfneghginanaaaMk
set_option linter.unusedSimpArgs false
set_option linter.unusedVariables false
namespace Go.Proofs.Ythfneghginanaaa
open Go.RowKit

theorem eqBoxI (A0 A1 B0 B1 : Option Addr) (c0 c1 d0 d1 : Nat) (p : PBox) (w : World) (h0 : Ints w A0 p.low.length p.low) (h1 : Ints w A1 p.high.length p.high) (k0 : Ints w B0 p.low.length p.low) (k1 : Ints w B1 p.high.length p.high) (s0 : p.low.length ≤ 1048576) (s1 : p.high.length ≤ 1048576) :
    Calls Try.prog 18 #[.agg #[.slice A0 p.low.length c0, .slice A1 p.high.length c1], .agg #[.slice B0 p.low.length d0, .slice B1 p.high.length d1]] w fun e w' => e = .returned (.bool true) ∧ Below w.heap.size w w' := by
  have H0 := Lib.hid h0; clear h0
  have H1 := Lib.hid h1; clear h1
  have K0 := Lib.hid k0; clear k0
  have K1 := Lib.hid k1; clear k1
  go_enter Try.func18, Try.ntmps18
  go_wp2_with fail
  refine (laws_eqIntS _ _ _ _ _ p.low _ (H0.out.below (by (repeat' (first | (with_reducible exact Below.refl _ _) | (with_reducible refine belS ?_ (by first | omega | (simp; done) | (simp; omega) | (simp only [World.size_alloc, World.size_setCell, World.size_drew] at *; omega))) | (with_reducible refine belA ?_ (by first | omega | (simp; done) | (simp; omega) | (simp only [World.size_alloc, World.size_setCell, World.size_drew] at *; omega))) | (with_reducible refine bel_drewN ?_ _) | (with_reducible refine Below.drew ?_) | (with_reducible assumption) | (refine Hid.out ?_; with_reducible assumption) | (apply belV; (with_reducible assumption); exact (by first | omega | (simp; done) | (simp; omega) | (simp only [World.size_alloc, World.size_setCell, World.size_drew] at *; omega))))))) (K0.out.below (by (repeat' (first | (with_reducible exact Below.refl _ _) | (with_reducible refine belS ?_ (by first | omega | (simp; done) | (simp; omega) | (simp only [World.size_alloc, World.size_setCell, World.size_drew] at *; omega))) | (with_reducible refine belA ?_ (by first | omega | (simp; done) | (simp; omega) | (simp only [World.size_alloc, World.size_setCell, World.size_drew] at *; omega))) | (with_reducible refine bel_drewN ?_ _) | (with_reducible refine Below.drew ?_) | (with_reducible assumption) | (refine Hid.out ?_; with_reducible assumption) | (apply belV; (with_reducible assumption); exact (by first | omega | (simp; done) | (simp; omega) | (simp only [World.size_alloc, World.size_setCell, World.size_drew] at *; omega))))))) s0).mono ?_
  rintro e w1 ⟨rfl, m1, rfl⟩
  go_wp2_with fail
  refine (laws_eqIntS _ _ _ _ _ p.high _ (H1.out.below (by (repeat' (first | (with_reducible exact Below.refl _ _) | (with_reducible refine belS ?_ (by first | omega | (simp; done) | (simp; omega) | (simp only [World.size_alloc, World.size_setCell, World.size_drew] at *; omega))) | (with_reducible refine belA ?_ (by first | omega | (simp; done) | (simp; omega) | (simp only [World.size_alloc, World.size_setCell, World.size_drew] at *; omega))) | (with_reducible refine bel_drewN ?_ _) | (with_reducible refine Below.drew ?_) | (with_reducible assumption) | (refine Hid.out ?_; with_reducible assumption) | (apply belV; (with_reducible assumption); exact (by first | omega | (simp; done) | (simp; omega) | (simp only [World.size_alloc, World.size_setCell, World.size_drew] at *; omega))))))) (K1.out.below (by (repeat' (first | (with_reducible exact Below.refl _ _) | (with_reducible refine belS ?_ (by first | omega | (simp; done) | (simp; omega) | (simp only [World.size_alloc, World.size_setCell, World.size_drew] at *; omega))) | (with_reducible refine belA ?_ (by first | omega | (simp; done) | (simp; omega) | (simp only [World.size_alloc, World.size_setCell, World.size_drew] at *; omega))) | (with_reducible refine bel_drewN ?_ _) | (with_reducible refine Below.drew ?_) | (with_reducible assumption) | (refine Hid.out ?_; with_reducible assumption) | (apply belV; (with_reducible assumption); exact (by first | omega | (simp; done) | (simp; omega) | (simp only [World.size_alloc, World.size_setCell, World.size_drew] at *; omega))))))) s1).mono ?_
  rintro e w2 ⟨rfl, m2, rfl⟩
  go_wp2_with fail
  go_ret
  exact ⟨rfl, by (repeat' (first | (with_reducible exact Below.refl _ _) | (with_reducible refine belS ?_ (by first | omega | (simp; done) | (simp; omega) | (simp only [World.size_alloc, World.size_setCell, World.size_drew] at *; omega))) | (with_reducible refine belA ?_ (by first | omega | (simp; done) | (simp; omega) | (simp only [World.size_alloc, World.size_setCell, World.size_drew] at *; omega))) | (with_reducible refine bel_drewN ?_ _) | (with_reducible refine Below.drew ?_) | (with_reducible assumption) | (refine Hid.out ?_; with_reducible assumption) | (apply belV; (with_reducible assumption); exact (by first | omega | (simp; done) | (simp; omega) | (simp only [World.size_alloc, World.size_setCell, World.size_drew] at *; omega)))))⟩

set_option maxHeartbeats 1000000 in
theorem markBoxR (lo hi lo0 hi0 lo1 hi1 : Nat) (A0 A1 : Option Addr) (c0 c1 : Nat) (p : PBox) (k : Int) (w : World) (h0 : OwnS w lo0 hi0 A0 p.low) (h1 : OwnS w lo1 hi1 A1 p.high) (hd : hi0 ≤ lo1 ∨ hi1 ≤ lo0) (l0 : lo ≤ lo0) (l1 : lo ≤ lo1) (u0 : hi0 ≤ hi) (u1 : hi1 ≤ hi) (hw : hi ≤ w.heap.size) (k0 : 0 ≤ k) (k1 : k ≤ 1048576) :
    Calls Try.prog 20 #[.agg #[.slice A0 p.low.length c0, .slice A1 p.high.length c1], .int .i64 k] w
      fun e w' => e = .returned (.int .i64 (k + p.low.length + p.high.length)) ∧ OwnS w' lo0 hi0 A0 (marks k p.low.length) ∧ OwnS w' lo1 hi1 A1 (marks (k + p.low.length) p.high.length) ∧ Turn lo hi w w' := by
  have s0 := h0.small
  have s1 := h1.small
  have H0 := Lib.hid h0; clear h0
  have H1 := Lib.hid h1; clear h1
  go_enter Try.func20, Try.ntmps20
  go_wp2_with fail
  refine (markS lo0 hi0 _ _ p.low _ _ (H0.out.alloc _) k0 (by omega)).mono ?_
  rintro e w1 ⟨rfl, ho0, ht⟩
  have M0 := Lib.hid ho0; clear ho0
  have T1 := Lib.hid ht; clear ht
  have X1 : Hid (Box w1 w.heap.size _) := Lib.hid (Box.turn T1 (by omega) (Box.new w 45 _ rfl))
  obtain ⟨x0, x1⟩ := Box.facts2 X1.out
  have z1 := T1.out.size
  simp at z1
  have H1' : Hid (OwnS w1 lo1 hi1 A1 p.high) := OwnS.turn T1 (by omega) (H1.out.alloc _)
  go_wp2_with fail
  refine (markS lo1 hi1 _ _ p.high _ _ H1'.out (by omega) (by omega)).mono ?_
  rintro e w2 ⟨rfl, ho1, ht⟩
  have M1 := Lib.hid ho1; clear ho1
  have T2 := Lib.hid ht; clear ht
  have M0' : Hid (OwnS w2 lo0 hi0 A0 (marks k p.low.length)) := OwnS.turn T2 (by omega) M0.out
  go_wp2_with fail
  go_ret
  exact ⟨rfl, M0'.out, M1.out, (((Turn.refl lo hi w).alloc _).trans (T1.out.mono l0 u0)).trans (T2.out.mono l1 u1)⟩

end Go.Proofs.Ythfneghginanaaa
