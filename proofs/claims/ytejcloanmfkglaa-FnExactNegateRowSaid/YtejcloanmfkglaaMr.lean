
/-
  The marks of the exact laws on rows.
-/
import Derived.Test.YtejcloanmfkglaaMk
set_option linter.unusedSimpArgs false
set_option linter.unusedVariables false
namespace Go.Proofs.Ytejcloanmfkglaa
open Go.RowKit

theorem eqRowI (A0 B0 : Option Addr) (c0 d0 : Nat) (r : PRow) (w : World) (h0 : Ints w A0 r.cs.length r.cs) (k0 : Ints w B0 r.cs.length r.cs) (s0 : r.cs.length ≤ 1048576) :
    Calls Try.prog 30 #[.agg #[.slice A0 r.cs.length c0, .int .i64 r.s, .int .i64 r.b], .agg #[.slice B0 r.cs.length d0, .int .i64 r.s, .int .i64 r.b]] w fun e w' => e = .returned (.bool true) ∧ Below w.heap.size w w' := by
  have H0 := Lib.hid h0; clear h0
  have K0 := Lib.hid k0; clear k0
  go_enter Try.func30, Try.ntmps30
  go_wp2_with fail
  refine (laws_eqIntS _ _ _ _ _ r.cs _ (H0.out.below (by (repeat' (first | (with_reducible exact Below.refl _ _) | (with_reducible refine belS ?_ (by first | omega | (simp; done) | (simp; omega) | (simp only [World.size_alloc, World.size_setCell, World.size_drew] at *; omega))) | (with_reducible refine belA ?_ (by first | omega | (simp; done) | (simp; omega) | (simp only [World.size_alloc, World.size_setCell, World.size_drew] at *; omega))) | (with_reducible refine bel_drewN ?_ _) | (with_reducible refine Below.drew ?_) | (with_reducible assumption) | (refine Hid.out ?_; with_reducible assumption) | (apply belV; (with_reducible assumption); exact (by first | omega | (simp; done) | (simp; omega) | (simp only [World.size_alloc, World.size_setCell, World.size_drew] at *; omega))))))) (K0.out.below (by (repeat' (first | (with_reducible exact Below.refl _ _) | (with_reducible refine belS ?_ (by first | omega | (simp; done) | (simp; omega) | (simp only [World.size_alloc, World.size_setCell, World.size_drew] at *; omega))) | (with_reducible refine belA ?_ (by first | omega | (simp; done) | (simp; omega) | (simp only [World.size_alloc, World.size_setCell, World.size_drew] at *; omega))) | (with_reducible refine bel_drewN ?_ _) | (with_reducible refine Below.drew ?_) | (with_reducible assumption) | (refine Hid.out ?_; with_reducible assumption) | (apply belV; (with_reducible assumption); exact (by first | omega | (simp; done) | (simp; omega) | (simp only [World.size_alloc, World.size_setCell, World.size_drew] at *; omega))))))) s0).mono ?_
  rintro e w1 ⟨rfl, m1, rfl⟩
  go_wp2_with fail
  go_ret
  exact ⟨rfl, by (repeat' (first | (with_reducible exact Below.refl _ _) | (with_reducible refine belS ?_ (by first | omega | (simp; done) | (simp; omega) | (simp only [World.size_alloc, World.size_setCell, World.size_drew] at *; omega))) | (with_reducible refine belA ?_ (by first | omega | (simp; done) | (simp; omega) | (simp only [World.size_alloc, World.size_setCell, World.size_drew] at *; omega))) | (with_reducible refine bel_drewN ?_ _) | (with_reducible refine Below.drew ?_) | (with_reducible assumption) | (refine Hid.out ?_; with_reducible assumption) | (apply belV; (with_reducible assumption); exact (by first | omega | (simp; done) | (simp; omega) | (simp only [World.size_alloc, World.size_setCell, World.size_drew] at *; omega)))))⟩

theorem markRowI (lo hi : Nat) (A0 : Option Addr) (c0 : Nat) (r : PRow) (k : Int) (w : World) (h0 : OwnS w lo hi A0 r.cs) (k0 : 0 ≤ k) (k1 : k ≤ 1048576) :
    Calls Try.prog 37 #[.agg #[.slice A0 r.cs.length c0, .int .i64 r.s, .int .i64 r.b], .int .i64 k] w
      fun e w' => e = .returned (.int .i64 (k + r.cs.length)) ∧ OwnS w' lo hi A0 (marks k r.cs.length) ∧ Turn lo hi w w' := by
  have s0 := h0.small
  have H0 := Lib.hid h0; clear h0
  go_enter Try.func37, Try.ntmps37
  go_wp2_with fail
  refine (markS lo hi _ _ r.cs _ _ (H0.out.alloc _) k0 (by omega)).mono ?_
  rintro e w1 ⟨rfl, ho0, ht⟩
  have M0 := Lib.hid ho0; clear ho0
  have T1 := Lib.hid ht; clear ht
  go_wp2_with fail
  go_ret
  exact ⟨rfl, M0.out, ((Turn.refl lo hi w).alloc _).trans T1.out⟩
theorem markRowA (g c0 : Nat) (r : PRow) (k : Int) (w : World) (h0 : OwnI w g r.cs) (hI : Ints w (some ⟨g, 0, none⟩) r.cs.length r.cs) (s0 : r.cs.length ≤ 1048576) (k0 : 0 ≤ k) (k1 : k ≤ 1048576) :
    Calls Try.prog 37 #[.agg #[.slice (some ⟨g, 0, none⟩) r.cs.length c0, .int .i64 r.s, .int .i64 r.b], .int .i64 k] w
      fun e w' => e = .returned (.int .i64 (k + r.cs.length)) ∧ Turn g (g + 1) w w' :=
  (markRowI g (g + 1) _ c0 r k w ⟨.inr ⟨g, rfl, Nat.le_refl _, Nat.lt_succ_self _, h0⟩, hI.2.1, s0⟩ k0 k1).mono fun _ _ ⟨he, _, ht⟩ => ⟨he, ht⟩

theorem heldRowI (lo hi : Nat) (A0 : Option Addr) (c0 : Nat) (s b k : Int) (n : Nat) (w : World) (h0 : OwnS w lo hi A0 (marks k n)) (k0 : 0 ≤ k) (k1 : k ≤ 1048576) :
    Calls Try.prog 38 #[.agg #[.slice A0 n c0, .int .i64 s, .int .i64 b], .int .i64 k] w fun e w' => e = .returned (.int .i64 (k + n)) ∧ Below w.heap.size w w' := by
  have s0 := h0.small
  rw [marks_len] at s0
  have H0 := Lib.hid h0; clear h0
  go_enter Try.func38, Try.ntmps38
  go_wp2_with fail
  refine (heldS lo hi _ _ [] _ _ _ (OwnS.by_ H0 (by (repeat' (first | (with_reducible exact OwnS.madeAt _ _ _ (by first | omega | (simp; done) | (simp; omega) | (simp only [World.size_alloc, World.size_setCell, World.size_drew] at *; omega))) | (with_reducible refine OwnS.far ?_ (by first | omega | (simp; done) | (simp; omega) | (simp only [World.size_alloc, World.size_setCell, World.size_drew] at *; omega)) _) | (with_reducible refine OwnS.alloc ?_ _) | (with_reducible refine OwnS.drewN ?_ _) | (with_reducible refine OwnS.drew ?_) | (with_reducible assumption) | (refine Hid.out ?_; with_reducible assumption) | (apply OwnS.turn; (with_reducible assumption); exact (by first | omega | (simp; done) | (simp; omega) | (simp only [World.size_alloc, World.size_setCell, World.size_drew] at *; omega))) | (apply OwnS.belowD; (with_reducible assumption)))))) k0 (by omega)).mono ?_
  rintro e w1 ⟨rfl, hb⟩
  have G1 : Hid (Below w.heap.size w w1) := belU hb (by (repeat' (first | (with_reducible exact Below.refl _ _) | (with_reducible refine belS ?_ (by first | omega | (simp; done) | (simp; omega) | (simp only [World.size_alloc, World.size_setCell, World.size_drew] at *; omega))) | (with_reducible refine belA ?_ (by first | omega | (simp; done) | (simp; omega) | (simp only [World.size_alloc, World.size_setCell, World.size_drew] at *; omega))) | (with_reducible refine bel_drewN ?_ _) | (with_reducible refine Below.drew ?_) | (with_reducible assumption) | (refine Hid.out ?_; with_reducible assumption) | (apply belV; (with_reducible assumption); exact (by first | omega | (simp; done) | (simp; omega) | (simp only [World.size_alloc, World.size_setCell, World.size_drew] at *; omega)))))) (by first | omega | (simp; done) | (simp; omega) | (simp only [World.size_alloc, World.size_setCell, World.size_drew] at *; omega))
  have z1 := hb.size
  (try simp at z1)
  have D1 := Lib.hid hb; clear hb
  go_wp2_with fail
  go_ret
  exact ⟨rfl, by (repeat' (first | (with_reducible exact Below.refl _ _) | (with_reducible refine belS ?_ (by first | omega | (simp; done) | (simp; omega) | (simp only [World.size_alloc, World.size_setCell, World.size_drew] at *; omega))) | (with_reducible refine belA ?_ (by first | omega | (simp; done) | (simp; omega) | (simp only [World.size_alloc, World.size_setCell, World.size_drew] at *; omega))) | (with_reducible refine bel_drewN ?_ _) | (with_reducible refine Below.drew ?_) | (with_reducible assumption) | (refine Hid.out ?_; with_reducible assumption) | (apply belV; (with_reducible assumption); exact (by first | omega | (simp; done) | (simp; omega) | (simp only [World.size_alloc, World.size_setCell, World.size_drew] at *; omega)))))⟩
end Go.Proofs.Ytejcloanmfkglaa
