
/-
  The walk of the law on gains.
-/
import Derived.Test.YtpcfnlffamgdaabDgn
set_option linter.unusedSimpArgs false
set_option linter.unusedVariables false
namespace Go.Proofs.Ytpcfnlffamgdaab
open Go.RowKit

theorem add_parts {a b c d : Int} {up : Bool} {x : Int} {p q r s : Int} (hg : addG ⟨a, b, c, d⟩ up x = ⟨p, q, r, s⟩) (ho : addOk ⟨a, b, c, d⟩ up x = true) :
    (up = true → a + 1 = p ∧ b + x = q ∧ c = r ∧ d = s) ∧ (up = false → a = p ∧ b = q ∧ c + 1 = r ∧ d + x = s) ∧ (0 ≤ p ∧ p ≤ 999) ∧ (0 ≤ q ∧ q ≤ 998001) ∧ (0 ≤ r ∧ r ≤ 999) ∧ (0 ≤ s ∧ s ≤ 998001) := by
  rw [addG_yes ho] at hg
  simp only [addOk, Bool.and_eq_true] at ho
  have hb := vGain_bd ho.2
  rw [hg] at hb
  refine ⟨?_, ?_, hb⟩
  · rintro rfl
    simp only [oneMore, if_true] at hg
    injection hg with h1 h2 h3 h4
    exact ⟨h1, h2, h3, h4⟩
  · rintro rfl
    simp only [oneMore, Bool.false_eq_true, if_false] at hg
    injection hg with h1 h2 h3 h4
    exact ⟨h1, h2, h3, h4⟩

set_option maxHeartbeats 8000000 in
set_option maxRecDepth 100000 in
theorem FnAddGain_walk (a : Option Addr) (len cap : Nat) (w : World) (h : By w.heap.size w a len cap) :
    Calls Try.prog 3 #[.slice a len cap] w fun e w' => e = .returned (.bool true) ∧ Below w.heap.size w w' := by
  have hl := h.1
  have hl2 := h.2.1
  unfold maxLen at hl2
  have H := Lib.hid h; clear h
  by_cases hbig : 1048576 < len
  · go_enter Try.func3, Try.ntmps3
    go_wp2_with fail
    go_ret
    exact ⟨rfl, Below.refl _ _⟩
  · go_enter Try.func3, Try.ntmps3
    go_wp2_with fail
    refine (DrawAddGain_any _ _ _ _ H.out).mono ?_
    rintro e wdr ⟨g0, g1, g2, g3, up, x, rfl, hb⟩
    have Gdr : Hid (Below w.heap.size w wdr) := belU hb (by (repeat' (first | (with_reducible exact Below.refl _ _) | (with_reducible refine belS ?_ (by first | omega | (simp; done) | (simp; omega) | (simp only [World.size_alloc, World.size_setCell, World.size_drew] at *; omega))) | (with_reducible refine belA ?_ (by first | omega | (simp; done) | (simp; omega) | (simp only [World.size_alloc, World.size_setCell, World.size_drew] at *; omega))) | (with_reducible refine bel_drewN ?_ _) | (with_reducible refine Below.drew ?_) | (with_reducible assumption) | (refine Hid.out ?_; with_reducible assumption) | (apply belV; (with_reducible assumption); exact (by first | omega | (simp; done) | (simp; omega) | (simp only [World.size_alloc, World.size_setCell, World.size_drew] at *; omega)))))) (by first | omega | (simp; done) | (simp; omega) | (simp only [World.size_alloc, World.size_setCell, World.size_drew] at *; omega))
    have zdr := hb.size
    (try simp at zdr)
    have Ddr := Lib.hid hb; clear hb
    obtain ⟨⟨p, q, r, s⟩, hg⟩ : ∃ G : PGain, addG ⟨g0, g1, g2, g3⟩ up x = G := ⟨_, rfl⟩
    obtain ⟨o, ho⟩ : ∃ o, addOk ⟨g0, g1, g2, g3⟩ up x = o := ⟨_, rfl⟩
    have hi := fun (W : World) => impl_AddGain ⟨g0, g1, g2, g3⟩ up x W
    have hs := fun (W : World) => spec_AddGain ⟨g0, g1, g2, g3⟩ up x W
    unfold AddEnd at hi hs
    simp only [hg, ho, PGain.val] at hi hs
    have HI := Lib.hid hi; clear hi
    have HS := Lib.hid hs; clear hs
    cases o
    · clear hg ho
      go_wp2_with fail
      refine (HI.out _).mono ?_
      rintro e wim ⟨rfl, hb⟩
      have Gim : Hid (Below w.heap.size w wim) := belU hb (by (repeat' (first | (with_reducible exact Below.refl _ _) | (with_reducible refine belS ?_ (by first | omega | (simp; done) | (simp; omega) | (simp only [World.size_alloc, World.size_setCell, World.size_drew] at *; omega))) | (with_reducible refine belA ?_ (by first | omega | (simp; done) | (simp; omega) | (simp only [World.size_alloc, World.size_setCell, World.size_drew] at *; omega))) | (with_reducible refine bel_drewN ?_ _) | (with_reducible refine Below.drew ?_) | (with_reducible assumption) | (refine Hid.out ?_; with_reducible assumption) | (apply belV; (with_reducible assumption); exact (by first | omega | (simp; done) | (simp; omega) | (simp only [World.size_alloc, World.size_setCell, World.size_drew] at *; omega)))))) (by first | omega | (simp; done) | (simp; omega) | (simp only [World.size_alloc, World.size_setCell, World.size_drew] at *; omega))
      have X_im : Hid (Box wim (wdr.heap.size) #[.int .i64 g0, .int .i64 g1, .int .i64 g2, .int .i64 g3]) := Lib.hid (Box.below (by (repeat' (first | (with_reducible exact Box.new _ _ _ (by first | omega | (simp; done) | (simp; omega) | (simp only [World.size_alloc, World.size_setCell, World.size_drew] at *; omega))) | (with_reducible refine Box.far ?_ (by first | omega | (simp; done) | (simp; omega) | (simp only [World.size_alloc, World.size_setCell, World.size_drew] at *; omega)) _) | (apply Box.put3_0) | (apply Box.put3_1) | (apply Box.put3_2) | (apply Box.put4_0) | (apply Box.put4_1) | (apply Box.put4_2) | (apply Box.put4_3) | (apply Box.put2_0) | (apply Box.put2_1) | (with_reducible refine Box.alloc ?_ _) | (with_reducible refine Box.drewN ?_ _) | (with_reducible refine Box.drew ?_) | (with_reducible assumption) | (refine Hid.out ?_; with_reducible assumption) | (apply Box.only; (with_reducible assumption); exact (by first | omega | (simp; done) | (simp; omega) | (simp only [World.size_alloc, World.size_setCell, World.size_drew] at *; omega))) | (apply Box.belowD; (with_reducible assumption))))) hb)
      have yX_im : wdr.heap.size < wim.heap.size := X_im.out.1
      obtain ⟨X_imc0, X_imc1, X_imc2, X_imc3⟩ := Box.facts4 X_im.out
      have zim := hb.size
      (try simp at zim)
      have Dim := Lib.hid hb; clear hb
      go_wp2_with fail
      refine (HS.out _).mono ?_
      rintro e wsp ⟨rfl, hb⟩
      have Gsp : Hid (Below w.heap.size w wsp) := belU hb (by (repeat' (first | (with_reducible exact Below.refl _ _) | (with_reducible refine belS ?_ (by first | omega | (simp; done) | (simp; omega) | (simp only [World.size_alloc, World.size_setCell, World.size_drew] at *; omega))) | (with_reducible refine belA ?_ (by first | omega | (simp; done) | (simp; omega) | (simp only [World.size_alloc, World.size_setCell, World.size_drew] at *; omega))) | (with_reducible refine bel_drewN ?_ _) | (with_reducible refine Below.drew ?_) | (with_reducible assumption) | (refine Hid.out ?_; with_reducible assumption) | (apply belV; (with_reducible assumption); exact (by first | omega | (simp; done) | (simp; omega) | (simp only [World.size_alloc, World.size_setCell, World.size_drew] at *; omega)))))) (by first | omega | (simp; done) | (simp; omega) | (simp only [World.size_alloc, World.size_setCell, World.size_drew] at *; omega))
      have X_sp : Hid (Box wsp (wdr.heap.size) #[.int .i64 g0, .int .i64 g1, .int .i64 g2, .int .i64 g3]) := Lib.hid (Box.below (by (repeat' (first | (with_reducible exact Box.new _ _ _ (by first | omega | (simp; done) | (simp; omega) | (simp only [World.size_alloc, World.size_setCell, World.size_drew] at *; omega))) | (with_reducible refine Box.far ?_ (by first | omega | (simp; done) | (simp; omega) | (simp only [World.size_alloc, World.size_setCell, World.size_drew] at *; omega)) _) | (apply Box.put3_0) | (apply Box.put3_1) | (apply Box.put3_2) | (apply Box.put4_0) | (apply Box.put4_1) | (apply Box.put4_2) | (apply Box.put4_3) | (apply Box.put2_0) | (apply Box.put2_1) | (with_reducible refine Box.alloc ?_ _) | (with_reducible refine Box.drewN ?_ _) | (with_reducible refine Box.drew ?_) | (with_reducible assumption) | (refine Hid.out ?_; with_reducible assumption) | (apply Box.only; (with_reducible assumption); exact (by first | omega | (simp; done) | (simp; omega) | (simp only [World.size_alloc, World.size_setCell, World.size_drew] at *; omega))) | (apply Box.belowD; (with_reducible assumption))))) hb)
      have yX_sp : wdr.heap.size < wsp.heap.size := X_sp.out.1
      obtain ⟨X_spc0, X_spc1, X_spc2, X_spc3⟩ := Box.facts4 X_sp.out
      have I_sp : Hid (Box wsp (wim.heap.size) #[.int .i64 p, .int .i64 q, .int .i64 r, .int .i64 s]) := Lib.hid (Box.below (by (repeat' (first | (with_reducible exact Box.new _ _ _ (by first | omega | (simp; done) | (simp; omega) | (simp only [World.size_alloc, World.size_setCell, World.size_drew] at *; omega))) | (with_reducible refine Box.far ?_ (by first | omega | (simp; done) | (simp; omega) | (simp only [World.size_alloc, World.size_setCell, World.size_drew] at *; omega)) _) | (apply Box.put3_0) | (apply Box.put3_1) | (apply Box.put3_2) | (apply Box.put4_0) | (apply Box.put4_1) | (apply Box.put4_2) | (apply Box.put4_3) | (apply Box.put2_0) | (apply Box.put2_1) | (with_reducible refine Box.alloc ?_ _) | (with_reducible refine Box.drewN ?_ _) | (with_reducible refine Box.drew ?_) | (with_reducible assumption) | (refine Hid.out ?_; with_reducible assumption) | (apply Box.only; (with_reducible assumption); exact (by first | omega | (simp; done) | (simp; omega) | (simp only [World.size_alloc, World.size_setCell, World.size_drew] at *; omega))) | (apply Box.belowD; (with_reducible assumption))))) hb)
      have yI_sp : wim.heap.size < wsp.heap.size := I_sp.out.1
      obtain ⟨I_spc0, I_spc1, I_spc2, I_spc3⟩ := Box.facts4 I_sp.out
      have zsp := hb.size
      (try simp at zsp)
      have Dsp := Lib.hid hb; clear hb
      go_wp2_with fail
      go_ret
      exact ⟨by simp, by (repeat' (first | (with_reducible exact Below.refl _ _) | (with_reducible refine belS ?_ (by first | omega | (simp; done) | (simp; omega) | (simp only [World.size_alloc, World.size_setCell, World.size_drew] at *; omega))) | (with_reducible refine belA ?_ (by first | omega | (simp; done) | (simp; omega) | (simp only [World.size_alloc, World.size_setCell, World.size_drew] at *; omega))) | (with_reducible refine bel_drewN ?_ _) | (with_reducible refine Below.drew ?_) | (with_reducible assumption) | (refine Hid.out ?_; with_reducible assumption) | (apply belV; (with_reducible assumption); exact (by first | omega | (simp; done) | (simp; omega) | (simp only [World.size_alloc, World.size_setCell, World.size_drew] at *; omega)))))⟩
    · obtain ⟨k1, k2, kp, kq, kr, ks⟩ := add_parts hg ho
      clear hg ho
      cases up
      · obtain ⟨rfl, rfl, rfl, rfl⟩ := k2 rfl
        clear k1 k2
        have h1 : IntKind.i64.wrap (g2 + 1) = g2 + 1 := IntWalk.i64_in _ ⟨by omega, by omega⟩
        have h2 : IntKind.i64.wrap (g3 + x) = g3 + x := IntWalk.i64_in _ ⟨by omega, by omega⟩
        have h3 : wrap64 (g2 + 1) = g2 + 1 := IntWalk.wrap64_in _ ⟨by omega, by omega⟩
        have h4 : wrap64 (g3 + x) = g3 + x := IntWalk.wrap64_in _ ⟨by omega, by omega⟩
        go_wp2_with fail
        refine (HI.out _).mono ?_
        rintro e wim ⟨rfl, hb⟩
        have Gim : Hid (Below w.heap.size w wim) := belU hb (by (repeat' (first | (with_reducible exact Below.refl _ _) | (with_reducible refine belS ?_ (by first | omega | (simp; done) | (simp; omega) | (simp only [World.size_alloc, World.size_setCell, World.size_drew] at *; omega))) | (with_reducible refine belA ?_ (by first | omega | (simp; done) | (simp; omega) | (simp only [World.size_alloc, World.size_setCell, World.size_drew] at *; omega))) | (with_reducible refine bel_drewN ?_ _) | (with_reducible refine Below.drew ?_) | (with_reducible assumption) | (refine Hid.out ?_; with_reducible assumption) | (apply belV; (with_reducible assumption); exact (by first | omega | (simp; done) | (simp; omega) | (simp only [World.size_alloc, World.size_setCell, World.size_drew] at *; omega)))))) (by first | omega | (simp; done) | (simp; omega) | (simp only [World.size_alloc, World.size_setCell, World.size_drew] at *; omega))
        have X_im : Hid (Box wim (wdr.heap.size) #[.int .i64 g0, .int .i64 g1, .int .i64 g2, .int .i64 g3]) := Lib.hid (Box.below (by (repeat' (first | (with_reducible exact Box.new _ _ _ (by first | omega | (simp; done) | (simp; omega) | (simp only [World.size_alloc, World.size_setCell, World.size_drew] at *; omega))) | (with_reducible refine Box.far ?_ (by first | omega | (simp; done) | (simp; omega) | (simp only [World.size_alloc, World.size_setCell, World.size_drew] at *; omega)) _) | (apply Box.put3_0) | (apply Box.put3_1) | (apply Box.put3_2) | (apply Box.put4_0) | (apply Box.put4_1) | (apply Box.put4_2) | (apply Box.put4_3) | (apply Box.put2_0) | (apply Box.put2_1) | (with_reducible refine Box.alloc ?_ _) | (with_reducible refine Box.drewN ?_ _) | (with_reducible refine Box.drew ?_) | (with_reducible assumption) | (refine Hid.out ?_; with_reducible assumption) | (apply Box.only; (with_reducible assumption); exact (by first | omega | (simp; done) | (simp; omega) | (simp only [World.size_alloc, World.size_setCell, World.size_drew] at *; omega))) | (apply Box.belowD; (with_reducible assumption))))) hb)
        have yX_im : wdr.heap.size < wim.heap.size := X_im.out.1
        obtain ⟨X_imc0, X_imc1, X_imc2, X_imc3⟩ := Box.facts4 X_im.out
        have zim := hb.size
        (try simp at zim)
        have Dim := Lib.hid hb; clear hb
        go_wp2_with fail
        refine (HS.out _).mono ?_
        rintro e wsp ⟨rfl, hb⟩
        have Gsp : Hid (Below w.heap.size w wsp) := belU hb (by (repeat' (first | (with_reducible exact Below.refl _ _) | (with_reducible refine belS ?_ (by first | omega | (simp; done) | (simp; omega) | (simp only [World.size_alloc, World.size_setCell, World.size_drew] at *; omega))) | (with_reducible refine belA ?_ (by first | omega | (simp; done) | (simp; omega) | (simp only [World.size_alloc, World.size_setCell, World.size_drew] at *; omega))) | (with_reducible refine bel_drewN ?_ _) | (with_reducible refine Below.drew ?_) | (with_reducible assumption) | (refine Hid.out ?_; with_reducible assumption) | (apply belV; (with_reducible assumption); exact (by first | omega | (simp; done) | (simp; omega) | (simp only [World.size_alloc, World.size_setCell, World.size_drew] at *; omega)))))) (by first | omega | (simp; done) | (simp; omega) | (simp only [World.size_alloc, World.size_setCell, World.size_drew] at *; omega))
        have X_sp : Hid (Box wsp (wdr.heap.size) #[.int .i64 g0, .int .i64 g1, .int .i64 g2, .int .i64 g3]) := Lib.hid (Box.below (by (repeat' (first | (with_reducible exact Box.new _ _ _ (by first | omega | (simp; done) | (simp; omega) | (simp only [World.size_alloc, World.size_setCell, World.size_drew] at *; omega))) | (with_reducible refine Box.far ?_ (by first | omega | (simp; done) | (simp; omega) | (simp only [World.size_alloc, World.size_setCell, World.size_drew] at *; omega)) _) | (apply Box.put3_0) | (apply Box.put3_1) | (apply Box.put3_2) | (apply Box.put4_0) | (apply Box.put4_1) | (apply Box.put4_2) | (apply Box.put4_3) | (apply Box.put2_0) | (apply Box.put2_1) | (with_reducible refine Box.alloc ?_ _) | (with_reducible refine Box.drewN ?_ _) | (with_reducible refine Box.drew ?_) | (with_reducible assumption) | (refine Hid.out ?_; with_reducible assumption) | (apply Box.only; (with_reducible assumption); exact (by first | omega | (simp; done) | (simp; omega) | (simp only [World.size_alloc, World.size_setCell, World.size_drew] at *; omega))) | (apply Box.belowD; (with_reducible assumption))))) hb)
        have yX_sp : wdr.heap.size < wsp.heap.size := X_sp.out.1
        obtain ⟨X_spc0, X_spc1, X_spc2, X_spc3⟩ := Box.facts4 X_sp.out
        have I_sp : Hid (Box wsp (wim.heap.size) #[.int .i64 g0, .int .i64 g1, .int .i64 (g2 + 1), .int .i64 (g3 + x)]) := Lib.hid (Box.below (by (repeat' (first | (with_reducible exact Box.new _ _ _ (by first | omega | (simp; done) | (simp; omega) | (simp only [World.size_alloc, World.size_setCell, World.size_drew] at *; omega))) | (with_reducible refine Box.far ?_ (by first | omega | (simp; done) | (simp; omega) | (simp only [World.size_alloc, World.size_setCell, World.size_drew] at *; omega)) _) | (apply Box.put3_0) | (apply Box.put3_1) | (apply Box.put3_2) | (apply Box.put4_0) | (apply Box.put4_1) | (apply Box.put4_2) | (apply Box.put4_3) | (apply Box.put2_0) | (apply Box.put2_1) | (with_reducible refine Box.alloc ?_ _) | (with_reducible refine Box.drewN ?_ _) | (with_reducible refine Box.drew ?_) | (with_reducible assumption) | (refine Hid.out ?_; with_reducible assumption) | (apply Box.only; (with_reducible assumption); exact (by first | omega | (simp; done) | (simp; omega) | (simp only [World.size_alloc, World.size_setCell, World.size_drew] at *; omega))) | (apply Box.belowD; (with_reducible assumption))))) hb)
        have yI_sp : wim.heap.size < wsp.heap.size := I_sp.out.1
        obtain ⟨I_spc0, I_spc1, I_spc2, I_spc3⟩ := Box.facts4 I_sp.out
        have zsp := hb.size
        (try simp at zsp)
        have Dsp := Lib.hid hb; clear hb
        go_wp2_with fail
        go_ret
        exact ⟨by simp, by (repeat' (first | (with_reducible exact Below.refl _ _) | (with_reducible refine belS ?_ (by first | omega | (simp; done) | (simp; omega) | (simp only [World.size_alloc, World.size_setCell, World.size_drew] at *; omega))) | (with_reducible refine belA ?_ (by first | omega | (simp; done) | (simp; omega) | (simp only [World.size_alloc, World.size_setCell, World.size_drew] at *; omega))) | (with_reducible refine bel_drewN ?_ _) | (with_reducible refine Below.drew ?_) | (with_reducible assumption) | (refine Hid.out ?_; with_reducible assumption) | (apply belV; (with_reducible assumption); exact (by first | omega | (simp; done) | (simp; omega) | (simp only [World.size_alloc, World.size_setCell, World.size_drew] at *; omega)))))⟩
      · obtain ⟨rfl, rfl, rfl, rfl⟩ := k1 rfl
        clear k1 k2
        have h1 : IntKind.i64.wrap (g0 + 1) = g0 + 1 := IntWalk.i64_in _ ⟨by omega, by omega⟩
        have h2 : IntKind.i64.wrap (g1 + x) = g1 + x := IntWalk.i64_in _ ⟨by omega, by omega⟩
        have h3 : wrap64 (g0 + 1) = g0 + 1 := IntWalk.wrap64_in _ ⟨by omega, by omega⟩
        have h4 : wrap64 (g1 + x) = g1 + x := IntWalk.wrap64_in _ ⟨by omega, by omega⟩
        go_wp2_with fail
        refine (HI.out _).mono ?_
        rintro e wim ⟨rfl, hb⟩
        have Gim : Hid (Below w.heap.size w wim) := belU hb (by (repeat' (first | (with_reducible exact Below.refl _ _) | (with_reducible refine belS ?_ (by first | omega | (simp; done) | (simp; omega) | (simp only [World.size_alloc, World.size_setCell, World.size_drew] at *; omega))) | (with_reducible refine belA ?_ (by first | omega | (simp; done) | (simp; omega) | (simp only [World.size_alloc, World.size_setCell, World.size_drew] at *; omega))) | (with_reducible refine bel_drewN ?_ _) | (with_reducible refine Below.drew ?_) | (with_reducible assumption) | (refine Hid.out ?_; with_reducible assumption) | (apply belV; (with_reducible assumption); exact (by first | omega | (simp; done) | (simp; omega) | (simp only [World.size_alloc, World.size_setCell, World.size_drew] at *; omega)))))) (by first | omega | (simp; done) | (simp; omega) | (simp only [World.size_alloc, World.size_setCell, World.size_drew] at *; omega))
        have X_im : Hid (Box wim (wdr.heap.size) #[.int .i64 g0, .int .i64 g1, .int .i64 g2, .int .i64 g3]) := Lib.hid (Box.below (by (repeat' (first | (with_reducible exact Box.new _ _ _ (by first | omega | (simp; done) | (simp; omega) | (simp only [World.size_alloc, World.size_setCell, World.size_drew] at *; omega))) | (with_reducible refine Box.far ?_ (by first | omega | (simp; done) | (simp; omega) | (simp only [World.size_alloc, World.size_setCell, World.size_drew] at *; omega)) _) | (apply Box.put3_0) | (apply Box.put3_1) | (apply Box.put3_2) | (apply Box.put4_0) | (apply Box.put4_1) | (apply Box.put4_2) | (apply Box.put4_3) | (apply Box.put2_0) | (apply Box.put2_1) | (with_reducible refine Box.alloc ?_ _) | (with_reducible refine Box.drewN ?_ _) | (with_reducible refine Box.drew ?_) | (with_reducible assumption) | (refine Hid.out ?_; with_reducible assumption) | (apply Box.only; (with_reducible assumption); exact (by first | omega | (simp; done) | (simp; omega) | (simp only [World.size_alloc, World.size_setCell, World.size_drew] at *; omega))) | (apply Box.belowD; (with_reducible assumption))))) hb)
        have yX_im : wdr.heap.size < wim.heap.size := X_im.out.1
        obtain ⟨X_imc0, X_imc1, X_imc2, X_imc3⟩ := Box.facts4 X_im.out
        have zim := hb.size
        (try simp at zim)
        have Dim := Lib.hid hb; clear hb
        go_wp2_with fail
        refine (HS.out _).mono ?_
        rintro e wsp ⟨rfl, hb⟩
        have Gsp : Hid (Below w.heap.size w wsp) := belU hb (by (repeat' (first | (with_reducible exact Below.refl _ _) | (with_reducible refine belS ?_ (by first | omega | (simp; done) | (simp; omega) | (simp only [World.size_alloc, World.size_setCell, World.size_drew] at *; omega))) | (with_reducible refine belA ?_ (by first | omega | (simp; done) | (simp; omega) | (simp only [World.size_alloc, World.size_setCell, World.size_drew] at *; omega))) | (with_reducible refine bel_drewN ?_ _) | (with_reducible refine Below.drew ?_) | (with_reducible assumption) | (refine Hid.out ?_; with_reducible assumption) | (apply belV; (with_reducible assumption); exact (by first | omega | (simp; done) | (simp; omega) | (simp only [World.size_alloc, World.size_setCell, World.size_drew] at *; omega)))))) (by first | omega | (simp; done) | (simp; omega) | (simp only [World.size_alloc, World.size_setCell, World.size_drew] at *; omega))
        have X_sp : Hid (Box wsp (wdr.heap.size) #[.int .i64 g0, .int .i64 g1, .int .i64 g2, .int .i64 g3]) := Lib.hid (Box.below (by (repeat' (first | (with_reducible exact Box.new _ _ _ (by first | omega | (simp; done) | (simp; omega) | (simp only [World.size_alloc, World.size_setCell, World.size_drew] at *; omega))) | (with_reducible refine Box.far ?_ (by first | omega | (simp; done) | (simp; omega) | (simp only [World.size_alloc, World.size_setCell, World.size_drew] at *; omega)) _) | (apply Box.put3_0) | (apply Box.put3_1) | (apply Box.put3_2) | (apply Box.put4_0) | (apply Box.put4_1) | (apply Box.put4_2) | (apply Box.put4_3) | (apply Box.put2_0) | (apply Box.put2_1) | (with_reducible refine Box.alloc ?_ _) | (with_reducible refine Box.drewN ?_ _) | (with_reducible refine Box.drew ?_) | (with_reducible assumption) | (refine Hid.out ?_; with_reducible assumption) | (apply Box.only; (with_reducible assumption); exact (by first | omega | (simp; done) | (simp; omega) | (simp only [World.size_alloc, World.size_setCell, World.size_drew] at *; omega))) | (apply Box.belowD; (with_reducible assumption))))) hb)
        have yX_sp : wdr.heap.size < wsp.heap.size := X_sp.out.1
        obtain ⟨X_spc0, X_spc1, X_spc2, X_spc3⟩ := Box.facts4 X_sp.out
        have I_sp : Hid (Box wsp (wim.heap.size) #[.int .i64 (g0 + 1), .int .i64 (g1 + x), .int .i64 g2, .int .i64 g3]) := Lib.hid (Box.below (by (repeat' (first | (with_reducible exact Box.new _ _ _ (by first | omega | (simp; done) | (simp; omega) | (simp only [World.size_alloc, World.size_setCell, World.size_drew] at *; omega))) | (with_reducible refine Box.far ?_ (by first | omega | (simp; done) | (simp; omega) | (simp only [World.size_alloc, World.size_setCell, World.size_drew] at *; omega)) _) | (apply Box.put3_0) | (apply Box.put3_1) | (apply Box.put3_2) | (apply Box.put4_0) | (apply Box.put4_1) | (apply Box.put4_2) | (apply Box.put4_3) | (apply Box.put2_0) | (apply Box.put2_1) | (with_reducible refine Box.alloc ?_ _) | (with_reducible refine Box.drewN ?_ _) | (with_reducible refine Box.drew ?_) | (with_reducible assumption) | (refine Hid.out ?_; with_reducible assumption) | (apply Box.only; (with_reducible assumption); exact (by first | omega | (simp; done) | (simp; omega) | (simp only [World.size_alloc, World.size_setCell, World.size_drew] at *; omega))) | (apply Box.belowD; (with_reducible assumption))))) hb)
        have yI_sp : wim.heap.size < wsp.heap.size := I_sp.out.1
        obtain ⟨I_spc0, I_spc1, I_spc2, I_spc3⟩ := Box.facts4 I_sp.out
        have zsp := hb.size
        (try simp at zsp)
        have Dsp := Lib.hid hb; clear hb
        go_wp2_with fail
        go_ret
        exact ⟨by simp, by (repeat' (first | (with_reducible exact Below.refl _ _) | (with_reducible refine belS ?_ (by first | omega | (simp; done) | (simp; omega) | (simp only [World.size_alloc, World.size_setCell, World.size_drew] at *; omega))) | (with_reducible refine belA ?_ (by first | omega | (simp; done) | (simp; omega) | (simp only [World.size_alloc, World.size_setCell, World.size_drew] at *; omega))) | (with_reducible refine bel_drewN ?_ _) | (with_reducible refine Below.drew ?_) | (with_reducible assumption) | (refine Hid.out ?_; with_reducible assumption) | (apply belV; (with_reducible assumption); exact (by first | omega | (simp; done) | (simp; omega) | (simp only [World.size_alloc, World.size_setCell, World.size_drew] at *; omega)))))⟩
end Go.Proofs.Ytpcfnlffamgdaab
