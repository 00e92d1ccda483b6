
/-
  Labels: the closure of the program's function, and the library's searches in slices of labels.
-/
import Derived.Test.YtjbgjljcgdligabYa
set_option linter.unusedSimpArgs false
set_option linter.unusedVariables false
namespace Go.Proofs.Ytjbgjljcgdligab
open Go.RowKit

set_option maxHeartbeats 4000000 in
set_option maxRecDepth 100000 in
theorem impl_isBetter (xa xm xt xo xc ya ym yt yo yc : Int) (b : Nat) (w : World) (hx : I64 xm) (hb : Box w b #[.int .i64 ya, .int .i64 ym, .int .i64 yt, .int .i64 yo, .int .i64 yc]) :
    Calls Try.prog 101 #[.agg #[.int .i64 xa, .int .i64 xm, .int .i64 xt, .int .i64 xo, .int .i64 xc], .pointer (some ⟨b, 0, none⟩)] w fun e w' => e = .returned (.bool (betB ⟨xa, xm, xt, xo, xc⟩ ⟨ya, ym, yt, yo, yc⟩)) ∧ Below w.heap.size w w' := by
  have HB := Lib.hid hb
  have hbl := hb.1
  obtain ⟨k0, k1, k2, k3, k4⟩ := Box.facts5 hb
  clear hb
  cases he : eqLB ⟨xa, xm, xt, xo, xc⟩ ⟨ya, ym, yt, yo, yc⟩
  · have E : Hid (betB ⟨xa, xm, xt, xo, xc⟩ ⟨ya, ym, yt, yo, yc⟩ = domB ⟨xa, xm, xt, xo, xc⟩ ⟨ya, ym, yt, yo, yc⟩) := Lib.hid (by unfold betB; rw [he]; rfl)
    rcases differ he with e0 | ⟨e0, e1⟩ | ⟨e0, e1, e2⟩ | ⟨e0, e1, e2, e3⟩ | ⟨e0, e1, e2, e3, e4⟩
    · simp only at e0
      clear he
      go_enter Try.func101, Try.ntmps101
      go_wp2_with fail
      refine (impl_Dominates ⟨_, _, _, _, _⟩ ⟨_, _, _, _, _⟩ _ hx).mono ?_
      rintro e w1 ⟨rfl, hb1⟩
      have G1 : Hid (Below w.heap.size w w1) := belU hb1 (by (repeat' (first | (with_reducible exact Below.refl _ _) | (with_reducible refine belS ?_ (by first | omega | (simp; done) | (simp; omega) | (simp only [World.size_alloc, World.size_setCell, World.size_drew] at *; omega))) | (with_reducible refine belA ?_ (by first | omega | (simp; done) | (simp; omega) | (simp only [World.size_alloc, World.size_setCell, World.size_drew] at *; omega))) | (with_reducible refine bel_drewN ?_ _) | (with_reducible refine Below.drew ?_) | (with_reducible assumption) | (refine Hid.out ?_; with_reducible assumption) | (apply belV; (with_reducible assumption); exact (by first | omega | (simp; done) | (simp; omega) | (simp only [World.size_alloc, World.size_setCell, World.size_drew] at *; omega)))))) (by first | omega | (simp; done) | (simp; omega) | (simp only [World.size_alloc, World.size_setCell, World.size_drew] at *; omega))
      clear hb1
      go_wp2_with fail
      go_ret
      exact ⟨ret_b E.out.symm, by (repeat' (first | (with_reducible exact Below.refl _ _) | (with_reducible refine belS ?_ (by first | omega | (simp; done) | (simp; omega) | (simp only [World.size_alloc, World.size_setCell, World.size_drew] at *; omega))) | (with_reducible refine belA ?_ (by first | omega | (simp; done) | (simp; omega) | (simp only [World.size_alloc, World.size_setCell, World.size_drew] at *; omega))) | (with_reducible refine bel_drewN ?_ _) | (with_reducible refine Below.drew ?_) | (with_reducible assumption) | (refine Hid.out ?_; with_reducible assumption) | (apply belV; (with_reducible assumption); exact (by first | omega | (simp; done) | (simp; omega) | (simp only [World.size_alloc, World.size_setCell, World.size_drew] at *; omega)))))⟩
    · simp only at e0; subst e0
      simp only at e1
      clear he
      go_enter Try.func101, Try.ntmps101
      go_wp2_with fail
      refine (impl_Dominates ⟨_, _, _, _, _⟩ ⟨_, _, _, _, _⟩ _ hx).mono ?_
      rintro e w1 ⟨rfl, hb1⟩
      have G1 : Hid (Below w.heap.size w w1) := belU hb1 (by (repeat' (first | (with_reducible exact Below.refl _ _) | (with_reducible refine belS ?_ (by first | omega | (simp; done) | (simp; omega) | (simp only [World.size_alloc, World.size_setCell, World.size_drew] at *; omega))) | (with_reducible refine belA ?_ (by first | omega | (simp; done) | (simp; omega) | (simp only [World.size_alloc, World.size_setCell, World.size_drew] at *; omega))) | (with_reducible refine bel_drewN ?_ _) | (with_reducible refine Below.drew ?_) | (with_reducible assumption) | (refine Hid.out ?_; with_reducible assumption) | (apply belV; (with_reducible assumption); exact (by first | omega | (simp; done) | (simp; omega) | (simp only [World.size_alloc, World.size_setCell, World.size_drew] at *; omega)))))) (by first | omega | (simp; done) | (simp; omega) | (simp only [World.size_alloc, World.size_setCell, World.size_drew] at *; omega))
      clear hb1
      go_wp2_with fail
      go_ret
      exact ⟨ret_b E.out.symm, by (repeat' (first | (with_reducible exact Below.refl _ _) | (with_reducible refine belS ?_ (by first | omega | (simp; done) | (simp; omega) | (simp only [World.size_alloc, World.size_setCell, World.size_drew] at *; omega))) | (with_reducible refine belA ?_ (by first | omega | (simp; done) | (simp; omega) | (simp only [World.size_alloc, World.size_setCell, World.size_drew] at *; omega))) | (with_reducible refine bel_drewN ?_ _) | (with_reducible refine Below.drew ?_) | (with_reducible assumption) | (refine Hid.out ?_; with_reducible assumption) | (apply belV; (with_reducible assumption); exact (by first | omega | (simp; done) | (simp; omega) | (simp only [World.size_alloc, World.size_setCell, World.size_drew] at *; omega)))))⟩
    · simp only at e0; subst e0
      simp only at e1; subst e1
      simp only at e2
      clear he
      go_enter Try.func101, Try.ntmps101
      go_wp2_with fail
      refine (impl_Dominates ⟨_, _, _, _, _⟩ ⟨_, _, _, _, _⟩ _ hx).mono ?_
      rintro e w1 ⟨rfl, hb1⟩
      have G1 : Hid (Below w.heap.size w w1) := belU hb1 (by (repeat' (first | (with_reducible exact Below.refl _ _) | (with_reducible refine belS ?_ (by first | omega | (simp; done) | (simp; omega) | (simp only [World.size_alloc, World.size_setCell, World.size_drew] at *; omega))) | (with_reducible refine belA ?_ (by first | omega | (simp; done) | (simp; omega) | (simp only [World.size_alloc, World.size_setCell, World.size_drew] at *; omega))) | (with_reducible refine bel_drewN ?_ _) | (with_reducible refine Below.drew ?_) | (with_reducible assumption) | (refine Hid.out ?_; with_reducible assumption) | (apply belV; (with_reducible assumption); exact (by first | omega | (simp; done) | (simp; omega) | (simp only [World.size_alloc, World.size_setCell, World.size_drew] at *; omega)))))) (by first | omega | (simp; done) | (simp; omega) | (simp only [World.size_alloc, World.size_setCell, World.size_drew] at *; omega))
      clear hb1
      go_wp2_with fail
      go_ret
      exact ⟨ret_b E.out.symm, by (repeat' (first | (with_reducible exact Below.refl _ _) | (with_reducible refine belS ?_ (by first | omega | (simp; done) | (simp; omega) | (simp only [World.size_alloc, World.size_setCell, World.size_drew] at *; omega))) | (with_reducible refine belA ?_ (by first | omega | (simp; done) | (simp; omega) | (simp only [World.size_alloc, World.size_setCell, World.size_drew] at *; omega))) | (with_reducible refine bel_drewN ?_ _) | (with_reducible refine Below.drew ?_) | (with_reducible assumption) | (refine Hid.out ?_; with_reducible assumption) | (apply belV; (with_reducible assumption); exact (by first | omega | (simp; done) | (simp; omega) | (simp only [World.size_alloc, World.size_setCell, World.size_drew] at *; omega)))))⟩
    · simp only at e0; subst e0
      simp only at e1; subst e1
      simp only at e2; subst e2
      simp only at e3
      clear he
      go_enter Try.func101, Try.ntmps101
      go_wp2_with fail
      refine (impl_Dominates ⟨_, _, _, _, _⟩ ⟨_, _, _, _, _⟩ _ hx).mono ?_
      rintro e w1 ⟨rfl, hb1⟩
      have G1 : Hid (Below w.heap.size w w1) := belU hb1 (by (repeat' (first | (with_reducible exact Below.refl _ _) | (with_reducible refine belS ?_ (by first | omega | (simp; done) | (simp; omega) | (simp only [World.size_alloc, World.size_setCell, World.size_drew] at *; omega))) | (with_reducible refine belA ?_ (by first | omega | (simp; done) | (simp; omega) | (simp only [World.size_alloc, World.size_setCell, World.size_drew] at *; omega))) | (with_reducible refine bel_drewN ?_ _) | (with_reducible refine Below.drew ?_) | (with_reducible assumption) | (refine Hid.out ?_; with_reducible assumption) | (apply belV; (with_reducible assumption); exact (by first | omega | (simp; done) | (simp; omega) | (simp only [World.size_alloc, World.size_setCell, World.size_drew] at *; omega)))))) (by first | omega | (simp; done) | (simp; omega) | (simp only [World.size_alloc, World.size_setCell, World.size_drew] at *; omega))
      clear hb1
      go_wp2_with fail
      go_ret
      exact ⟨ret_b E.out.symm, by (repeat' (first | (with_reducible exact Below.refl _ _) | (with_reducible refine belS ?_ (by first | omega | (simp; done) | (simp; omega) | (simp only [World.size_alloc, World.size_setCell, World.size_drew] at *; omega))) | (with_reducible refine belA ?_ (by first | omega | (simp; done) | (simp; omega) | (simp only [World.size_alloc, World.size_setCell, World.size_drew] at *; omega))) | (with_reducible refine bel_drewN ?_ _) | (with_reducible refine Below.drew ?_) | (with_reducible assumption) | (refine Hid.out ?_; with_reducible assumption) | (apply belV; (with_reducible assumption); exact (by first | omega | (simp; done) | (simp; omega) | (simp only [World.size_alloc, World.size_setCell, World.size_drew] at *; omega)))))⟩
    · simp only at e0; subst e0
      simp only at e1; subst e1
      simp only at e2; subst e2
      simp only at e3; subst e3
      simp only at e4
      clear he
      go_enter Try.func101, Try.ntmps101
      go_wp2_with fail
      refine (impl_Dominates ⟨_, _, _, _, _⟩ ⟨_, _, _, _, _⟩ _ hx).mono ?_
      rintro e w1 ⟨rfl, hb1⟩
      have G1 : Hid (Below w.heap.size w w1) := belU hb1 (by (repeat' (first | (with_reducible exact Below.refl _ _) | (with_reducible refine belS ?_ (by first | omega | (simp; done) | (simp; omega) | (simp only [World.size_alloc, World.size_setCell, World.size_drew] at *; omega))) | (with_reducible refine belA ?_ (by first | omega | (simp; done) | (simp; omega) | (simp only [World.size_alloc, World.size_setCell, World.size_drew] at *; omega))) | (with_reducible refine bel_drewN ?_ _) | (with_reducible refine Below.drew ?_) | (with_reducible assumption) | (refine Hid.out ?_; with_reducible assumption) | (apply belV; (with_reducible assumption); exact (by first | omega | (simp; done) | (simp; omega) | (simp only [World.size_alloc, World.size_setCell, World.size_drew] at *; omega)))))) (by first | omega | (simp; done) | (simp; omega) | (simp only [World.size_alloc, World.size_setCell, World.size_drew] at *; omega))
      clear hb1
      go_wp2_with fail
      go_ret
      exact ⟨ret_b E.out.symm, by (repeat' (first | (with_reducible exact Below.refl _ _) | (with_reducible refine belS ?_ (by first | omega | (simp; done) | (simp; omega) | (simp only [World.size_alloc, World.size_setCell, World.size_drew] at *; omega))) | (with_reducible refine belA ?_ (by first | omega | (simp; done) | (simp; omega) | (simp only [World.size_alloc, World.size_setCell, World.size_drew] at *; omega))) | (with_reducible refine bel_drewN ?_ _) | (with_reducible refine Below.drew ?_) | (with_reducible assumption) | (refine Hid.out ?_; with_reducible assumption) | (apply belV; (with_reducible assumption); exact (by first | omega | (simp; done) | (simp; omega) | (simp only [World.size_alloc, World.size_setCell, World.size_drew] at *; omega)))))⟩
  · have h := eqLB_iff.1 he
    injection h with h0 h1 h2 h3 h4
    subst h0 h1 h2 h3 h4
    have E : Hid (betB ⟨xa, xm, xt, xo, xc⟩ ⟨xa, xm, xt, xo, xc⟩ = false) := Lib.hid (by unfold betB; rw [he]; rfl)
    clear he
    go_enter Try.func101, Try.ntmps101
    go_wp2_with fail
    go_ret
    exact ⟨ret_b E.out.symm, by (repeat' (first | (with_reducible exact Below.refl _ _) | (with_reducible refine belS ?_ (by first | omega | (simp; done) | (simp; omega) | (simp only [World.size_alloc, World.size_setCell, World.size_drew] at *; omega))) | (with_reducible refine belA ?_ (by first | omega | (simp; done) | (simp; omega) | (simp only [World.size_alloc, World.size_setCell, World.size_drew] at *; omega))) | (with_reducible refine bel_drewN ?_ _) | (with_reducible refine Below.drew ?_) | (with_reducible assumption) | (refine Hid.out ?_; with_reducible assumption) | (apply belV; (with_reducible assumption); exact (by first | omega | (simp; done) | (simp; omega) | (simp only [World.size_alloc, World.size_setCell, World.size_drew] at *; omega)))))⟩

set_option maxHeartbeats 4000000 in
set_option maxRecDepth 100000 in
theorem lib_IndexFuncL (A : Option Addr) (n c b : Nat) (ls : List PLab) (x : PLab) (w : World) (hI : LabS w A n ls) (hn : n ≤ 1000) (hb : Box w b #[.int .i64 x.a, .int .i64 x.m, .int .i64 x.t, .int .i64 x.o, .int .i64 x.c]) :
    Calls Try.prog 142 #[.slice A n c, .func (.func 101) #[] #[.pointer (some ⟨b, 0, none⟩)]] w fun e w' => ∃ v : Int, e = .returned (.int .i64 v) ∧ -1 ≤ v ∧ v ≤ 1000 ∧ decide (0 ≤ v) = (ls.any fun y => betB y x) ∧ Below w.heap.size w w' := by
  have HL := Lib.hid hI.len
  have HI := Lib.hid hI; clear hI
  have HB := Lib.hid hb; clear hb
  go_enter Try.func142, Try.ntmps142
  go_wp2_with fail
  go_loopw [5, 8] (fun s5 s8 wr => ∃ (k : Nat) (u5 : Value), k ≤ n ∧ u5 = s5 ∧ s8 = .int .i64 k ∧ Hid (((ls.take k).any fun y => betB y x) = false) ∧ Hid (Below w.heap.size w wr)) (fun _ s8 _ => n - (intOf s8).toNat)
  case atStart => exact ⟨0, _, by omega, rfl, rfl, Lib.hid (by simp), by (refine Lib.hid ?_; (repeat' (first | (with_reducible exact Below.refl _ _) | (with_reducible refine belS ?_ (by first | omega | (simp; done) | (simp; omega) | (simp only [World.size_alloc, World.size_setCell, World.size_drew] at *; omega))) | (with_reducible refine belA ?_ (by first | omega | (simp; done) | (simp; omega) | (simp only [World.size_alloc, World.size_setCell, World.size_drew] at *; omega))) | (with_reducible refine bel_drewN ?_ _) | (with_reducible refine Below.drew ?_) | (with_reducible assumption) | (refine Hid.out ?_; with_reducible assumption) | (apply belV; (with_reducible assumption); exact (by first | omega | (simp; done) | (simp; omega) | (simp only [World.size_alloc, World.size_setCell, World.size_drew] at *; omega))))))⟩
  case round =>
    obtain ⟨k, u5, hk, rfl, rfl, hal, hbel⟩ := hrel
    have z0 := hbel.out.size
    by_cases hlt : k < n
    · obtain ⟨b2, off, y, rfl, hb2, hy, hok, c0, c1, c2, c3, c4⟩ := (HI.out.below hbel.out).at_ hlt
      have HY := Lib.hid hy; clear hy
      have OK := Lib.hid hok; clear hok
      have HB1 : Hid (Box wr b #[.int .i64 x.a, .int .i64 x.m, .int .i64 x.t, .int .i64 x.o, .int .i64 x.c]) := Lib.hid (Box.below HB.out hbel.out)
      cases hbt : betB y x
      · go_wp2_with fail
        refine (impl_isBetter _ _ _ _ _ _ _ _ _ _ b _ OK.out.2.1 (by (repeat' (first | (with_reducible exact Box.new _ _ _ (by first | omega | (simp; done) | (simp; omega) | (simp only [World.size_alloc, World.size_setCell, World.size_drew] at *; omega))) | (with_reducible refine Box.far ?_ (by first | omega | (simp; done) | (simp; omega) | (simp only [World.size_alloc, World.size_setCell, World.size_drew] at *; omega)) _) | (apply Box.put3_0) | (apply Box.put3_1) | (apply Box.put3_2) | (apply Box.put2_0) | (apply Box.put2_1) | (with_reducible refine Box.alloc ?_ _) | (with_reducible refine Box.drewN ?_ _) | (with_reducible refine Box.drew ?_) | (with_reducible assumption) | (refine Hid.out ?_; with_reducible assumption) | (apply Box.only; (with_reducible assumption); exact (by first | omega | (simp; done) | (simp; omega) | (simp only [World.size_alloc, World.size_setCell, World.size_drew] at *; omega))) | (apply Box.belowD; (with_reducible assumption)))))).mono ?_
        rintro e w1 ⟨rfl, hb1⟩
        have G1 : Hid (Below w.heap.size w w1) := belU hb1 (by (repeat' (first | (with_reducible exact Below.refl _ _) | (with_reducible refine belS ?_ (by first | omega | (simp; done) | (simp; omega) | (simp only [World.size_alloc, World.size_setCell, World.size_drew] at *; omega))) | (with_reducible refine belA ?_ (by first | omega | (simp; done) | (simp; omega) | (simp only [World.size_alloc, World.size_setCell, World.size_drew] at *; omega))) | (with_reducible refine bel_drewN ?_ _) | (with_reducible refine Below.drew ?_) | (with_reducible assumption) | (refine Hid.out ?_; with_reducible assumption) | (apply belV; (with_reducible assumption); exact (by first | omega | (simp; done) | (simp; omega) | (simp only [World.size_alloc, World.size_setCell, World.size_drew] at *; omega)))))) (by first | omega | (simp; done) | (simp; omega) | (simp only [World.size_alloc, World.size_setCell, World.size_drew] at *; omega))
        clear hb1
        have hbt' : betB ⟨y.a, y.m, y.t, y.o, y.c⟩ ⟨x.a, x.m, x.t, x.o, x.c⟩ = false := hbt
        rw [hbt']
        go_wp2_with fail
        go_roundw
        case rel => exact ⟨k + 1, _, by omega, rfl, by go_num, Lib.hid (any_step HY.out hal.out hbt), G1⟩
        case measure => simp [intOf]; omega
      · go_wp2_with fail
        refine (impl_isBetter _ _ _ _ _ _ _ _ _ _ b _ OK.out.2.1 (by (repeat' (first | (with_reducible exact Box.new _ _ _ (by first | omega | (simp; done) | (simp; omega) | (simp only [World.size_alloc, World.size_setCell, World.size_drew] at *; omega))) | (with_reducible refine Box.far ?_ (by first | omega | (simp; done) | (simp; omega) | (simp only [World.size_alloc, World.size_setCell, World.size_drew] at *; omega)) _) | (apply Box.put3_0) | (apply Box.put3_1) | (apply Box.put3_2) | (apply Box.put2_0) | (apply Box.put2_1) | (with_reducible refine Box.alloc ?_ _) | (with_reducible refine Box.drewN ?_ _) | (with_reducible refine Box.drew ?_) | (with_reducible assumption) | (refine Hid.out ?_; with_reducible assumption) | (apply Box.only; (with_reducible assumption); exact (by first | omega | (simp; done) | (simp; omega) | (simp only [World.size_alloc, World.size_setCell, World.size_drew] at *; omega))) | (apply Box.belowD; (with_reducible assumption)))))).mono ?_
        rintro e w1 ⟨rfl, hb1⟩
        have G1 : Hid (Below w.heap.size w w1) := belU hb1 (by (repeat' (first | (with_reducible exact Below.refl _ _) | (with_reducible refine belS ?_ (by first | omega | (simp; done) | (simp; omega) | (simp only [World.size_alloc, World.size_setCell, World.size_drew] at *; omega))) | (with_reducible refine belA ?_ (by first | omega | (simp; done) | (simp; omega) | (simp only [World.size_alloc, World.size_setCell, World.size_drew] at *; omega))) | (with_reducible refine bel_drewN ?_ _) | (with_reducible refine Below.drew ?_) | (with_reducible assumption) | (refine Hid.out ?_; with_reducible assumption) | (apply belV; (with_reducible assumption); exact (by first | omega | (simp; done) | (simp; omega) | (simp only [World.size_alloc, World.size_setCell, World.size_drew] at *; omega)))))) (by first | omega | (simp; done) | (simp; omega) | (simp only [World.size_alloc, World.size_setCell, World.size_drew] at *; omega))
        clear hb1
        have hbt' : betB ⟨y.a, y.m, y.t, y.o, y.c⟩ ⟨x.a, x.m, x.t, x.o, x.c⟩ = true := hbt
        rw [hbt']
        go_wp2_with fail
        go_ret
        exact ⟨(k : Int), rfl, by omega, by omega, by rw [any_yes HY.out hbt]; simp; try omega, by (repeat' (first | (with_reducible exact Below.refl _ _) | (with_reducible refine belS ?_ (by first | omega | (simp; done) | (simp; omega) | (simp only [World.size_alloc, World.size_setCell, World.size_drew] at *; omega))) | (with_reducible refine belA ?_ (by first | omega | (simp; done) | (simp; omega) | (simp only [World.size_alloc, World.size_setCell, World.size_drew] at *; omega))) | (with_reducible refine bel_drewN ?_ _) | (with_reducible refine Below.drew ?_) | (with_reducible assumption) | (refine Hid.out ?_; with_reducible assumption) | (apply belV; (with_reducible assumption); exact (by first | omega | (simp; done) | (simp; omega) | (simp only [World.size_alloc, World.size_setCell, World.size_drew] at *; omega)))))⟩
    · go_wp2_with fail
      go_ret
      exact ⟨-1, rfl, by omega, by omega, by rw [any_end (by rw [HL.out]; omega) hal.out]; rfl, hbel.out⟩
theorem lib_ContainsFuncL (A : Option Addr) (n c b : Nat) (ls : List PLab) (x : PLab) (w : World) (hI : LabS w A n ls) (hn : n ≤ 1000) (hb : Box w b #[.int .i64 x.a, .int .i64 x.m, .int .i64 x.t, .int .i64 x.o, .int .i64 x.c]) :
    Calls Try.prog 102 #[.slice A n c, .func (.func 101) #[] #[.pointer (some ⟨b, 0, none⟩)]] w fun e w' => e = .returned (.bool (ls.any fun y => betB y x)) ∧ Below w.heap.size w w' := by
  have HI := Lib.hid hI; clear hI
  have HB := Lib.hid hb; clear hb
  go_enter Try.func102, Try.ntmps102
  go_wp2_with fail
  refine (lib_IndexFuncL _ _ _ b ls x _ (HI.out.below (by (repeat' (first | (with_reducible exact Below.refl _ _) | (with_reducible refine belS ?_ (by first | omega | (simp; done) | (simp; omega) | (simp only [World.size_alloc, World.size_setCell, World.size_drew] at *; omega))) | (with_reducible refine belA ?_ (by first | omega | (simp; done) | (simp; omega) | (simp only [World.size_alloc, World.size_setCell, World.size_drew] at *; omega))) | (with_reducible refine bel_drewN ?_ _) | (with_reducible refine Below.drew ?_) | (with_reducible assumption) | (refine Hid.out ?_; with_reducible assumption) | (apply belV; (with_reducible assumption); exact (by first | omega | (simp; done) | (simp; omega) | (simp only [World.size_alloc, World.size_setCell, World.size_drew] at *; omega))))))) hn (by (repeat' (first | (with_reducible exact Box.new _ _ _ (by first | omega | (simp; done) | (simp; omega) | (simp only [World.size_alloc, World.size_setCell, World.size_drew] at *; omega))) | (with_reducible refine Box.far ?_ (by first | omega | (simp; done) | (simp; omega) | (simp only [World.size_alloc, World.size_setCell, World.size_drew] at *; omega)) _) | (apply Box.put3_0) | (apply Box.put3_1) | (apply Box.put3_2) | (apply Box.put2_0) | (apply Box.put2_1) | (with_reducible refine Box.alloc ?_ _) | (with_reducible refine Box.drewN ?_ _) | (with_reducible refine Box.drew ?_) | (with_reducible assumption) | (refine Hid.out ?_; with_reducible assumption) | (apply Box.only; (with_reducible assumption); exact (by first | omega | (simp; done) | (simp; omega) | (simp only [World.size_alloc, World.size_setCell, World.size_drew] at *; omega))) | (apply Box.belowD; (with_reducible assumption)))))).mono ?_
  rintro e w1 ⟨v, rfl, v0, v1, hv, hb1⟩
  have G1 := Lib.hid hb1; clear hb1
  have HV := Lib.hid hv; clear hv
  go_wp2_with fail
  go_ret
  exact ⟨ret_b HV.out, G1.out⟩
end Go.Proofs.Ytjbgjljcgdligab
