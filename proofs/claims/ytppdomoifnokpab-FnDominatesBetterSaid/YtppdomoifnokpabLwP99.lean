
/-
  The walks of the laws on dominance.
-/
import Derived.Test.YtppdomoifnokpabLe
import Derived.Test.YtppdomoifnokpabLb
set_option linter.unusedSimpArgs false
set_option linter.unusedVariables false
namespace Go.Proofs.Ytppdomoifnokpab
open Go.RowKit


theorem PLab.near.i {x : PLab} (h : x.near) : I64 x.m := ⟨by have := h.2.1; omega, by have := h.2.1; omega⟩
set_option maxHeartbeats 8000000 in
set_option maxRecDepth 100000 in
theorem FnDominates_walk (a : Option Addr) (len cap : Nat) (w : World) (h : By w.heap.size w a len cap) :
    Calls Try.prog 4 #[.slice a len cap] w fun e w' => e = .returned (.bool true) ∧ Below w.heap.size w w' := by
  have hl := h.1
  have hl2 := h.2.1
  unfold maxLen at hl2
  have H := Lib.hid h; clear h
  by_cases hbig : 1048576 < len
  · go_enter Try.func4, Try.ntmps4
    go_wp2_with fail
    go_ret
    exact ⟨rfl, Below.refl _ _⟩
  go_enter Try.func4, Try.ntmps4
  go_wp2_with fail
  refine (DrawDominates_any _ _ _ _ H.out).mono ?_
  rintro e wdr ⟨x, y, nx, ny, rfl, hb⟩
  have Gdr : Hid (Below w.heap.size w wdr) := belU hb (by (repeat' (first | (with_reducible exact Below.refl _ _) | (with_reducible refine belS ?_ (by first | omega | (simp; done) | (simp; omega) | (simp only [World.size_alloc, World.size_setCell, World.size_drew] at *; omega))) | (with_reducible refine belA ?_ (by first | omega | (simp; done) | (simp; omega) | (simp only [World.size_alloc, World.size_setCell, World.size_drew] at *; omega))) | (with_reducible refine bel_drewN ?_ _) | (with_reducible refine Below.drew ?_) | (with_reducible assumption) | (refine Hid.out ?_; with_reducible assumption) | (apply belV; (with_reducible assumption); exact (by first | omega | (simp; done) | (simp; omega) | (simp only [World.size_alloc, World.size_setCell, World.size_drew] at *; omega)))))) (by first | omega | (simp; done) | (simp; omega) | (simp only [World.size_alloc, World.size_setCell, World.size_drew] at *; omega))
  have NX := Lib.hid nx; clear nx
  have NY := Lib.hid ny; clear ny
  have zdr := hb.size
  (try simp at zdr)
  have Ddr := Lib.hid hb; clear hb
  go_wp2_with fail
  refine (impl_Dominates x y _ NX.out.i).mono ?_
  rintro e wim ⟨rfl, hb⟩
  have Gim : Hid (Below w.heap.size w wim) := belU hb (by (repeat' (first | (with_reducible exact Below.refl _ _) | (with_reducible refine belS ?_ (by first | omega | (simp; done) | (simp; omega) | (simp only [World.size_alloc, World.size_setCell, World.size_drew] at *; omega))) | (with_reducible refine belA ?_ (by first | omega | (simp; done) | (simp; omega) | (simp only [World.size_alloc, World.size_setCell, World.size_drew] at *; omega))) | (with_reducible refine bel_drewN ?_ _) | (with_reducible refine Below.drew ?_) | (with_reducible assumption) | (refine Hid.out ?_; with_reducible assumption) | (apply belV; (with_reducible assumption); exact (by first | omega | (simp; done) | (simp; omega) | (simp only [World.size_alloc, World.size_setCell, World.size_drew] at *; omega)))))) (by first | omega | (simp; done) | (simp; omega) | (simp only [World.size_alloc, World.size_setCell, World.size_drew] at *; omega))
  have X_im : Hid (Box wim (wdr.heap.size) #[.int .i64 x.a, .int .i64 x.m, .int .i64 x.t, .int .i64 x.o, .int .i64 x.c]) := Lib.hid (Box.below (by (repeat' (first | (with_reducible exact Box.new _ _ _ (by first | omega | (simp; done) | (simp; omega) | (simp only [World.size_alloc, World.size_setCell, World.size_drew] at *; omega))) | (with_reducible refine Box.far ?_ (by first | omega | (simp; done) | (simp; omega) | (simp only [World.size_alloc, World.size_setCell, World.size_drew] at *; omega)) _) | (apply Box.put3_0) | (apply Box.put3_1) | (apply Box.put3_2) | (apply Box.put5_0) | (apply Box.put5_1) | (apply Box.put5_2) | (apply Box.put5_3) | (apply Box.put5_4) | (apply Box.put2_0) | (apply Box.put2_1) | (with_reducible refine Box.alloc ?_ _) | (with_reducible refine Box.drewN ?_ _) | (with_reducible refine Box.drew ?_) | (with_reducible assumption) | (refine Hid.out ?_; with_reducible assumption) | (apply Box.only; (with_reducible assumption); exact (by first | omega | (simp; done) | (simp; omega) | (simp only [World.size_alloc, World.size_setCell, World.size_drew] at *; omega))) | (apply Box.belowD; (with_reducible assumption))))) hb)
  have yX_im : wdr.heap.size < wim.heap.size := X_im.out.1
  obtain ⟨X_imc0, X_imc1, X_imc2, X_imc3, X_imc4⟩ := Box.facts5 X_im.out
  have Y_im : Hid (Box wim (wdr.heap.size + 1) #[.int .i64 y.a, .int .i64 y.m, .int .i64 y.t, .int .i64 y.o, .int .i64 y.c]) := Lib.hid (Box.below (by (repeat' (first | (with_reducible exact Box.new _ _ _ (by first | omega | (simp; done) | (simp; omega) | (simp only [World.size_alloc, World.size_setCell, World.size_drew] at *; omega))) | (with_reducible refine Box.far ?_ (by first | omega | (simp; done) | (simp; omega) | (simp only [World.size_alloc, World.size_setCell, World.size_drew] at *; omega)) _) | (apply Box.put3_0) | (apply Box.put3_1) | (apply Box.put3_2) | (apply Box.put5_0) | (apply Box.put5_1) | (apply Box.put5_2) | (apply Box.put5_3) | (apply Box.put5_4) | (apply Box.put2_0) | (apply Box.put2_1) | (with_reducible refine Box.alloc ?_ _) | (with_reducible refine Box.drewN ?_ _) | (with_reducible refine Box.drew ?_) | (with_reducible assumption) | (refine Hid.out ?_; with_reducible assumption) | (apply Box.only; (with_reducible assumption); exact (by first | omega | (simp; done) | (simp; omega) | (simp only [World.size_alloc, World.size_setCell, World.size_drew] at *; omega))) | (apply Box.belowD; (with_reducible assumption))))) hb)
  have yY_im : wdr.heap.size + 1 < wim.heap.size := Y_im.out.1
  obtain ⟨Y_imc0, Y_imc1, Y_imc2, Y_imc3, Y_imc4⟩ := Box.facts5 Y_im.out
  have zim := hb.size
  (try simp at zim)
  have Dim := Lib.hid hb; clear hb
  go_wp2_with fail
  refine (spec_Dominates x y _).mono ?_
  rintro e wsp ⟨rfl, hb⟩
  have Gsp : Hid (Below w.heap.size w wsp) := belU hb (by (repeat' (first | (with_reducible exact Below.refl _ _) | (with_reducible refine belS ?_ (by first | omega | (simp; done) | (simp; omega) | (simp only [World.size_alloc, World.size_setCell, World.size_drew] at *; omega))) | (with_reducible refine belA ?_ (by first | omega | (simp; done) | (simp; omega) | (simp only [World.size_alloc, World.size_setCell, World.size_drew] at *; omega))) | (with_reducible refine bel_drewN ?_ _) | (with_reducible refine Below.drew ?_) | (with_reducible assumption) | (refine Hid.out ?_; with_reducible assumption) | (apply belV; (with_reducible assumption); exact (by first | omega | (simp; done) | (simp; omega) | (simp only [World.size_alloc, World.size_setCell, World.size_drew] at *; omega)))))) (by first | omega | (simp; done) | (simp; omega) | (simp only [World.size_alloc, World.size_setCell, World.size_drew] at *; omega))
  have X_sp : Hid (Box wsp (wdr.heap.size) #[.int .i64 x.a, .int .i64 x.m, .int .i64 x.t, .int .i64 x.o, .int .i64 x.c]) := Lib.hid (Box.below (by (repeat' (first | (with_reducible exact Box.new _ _ _ (by first | omega | (simp; done) | (simp; omega) | (simp only [World.size_alloc, World.size_setCell, World.size_drew] at *; omega))) | (with_reducible refine Box.far ?_ (by first | omega | (simp; done) | (simp; omega) | (simp only [World.size_alloc, World.size_setCell, World.size_drew] at *; omega)) _) | (apply Box.put3_0) | (apply Box.put3_1) | (apply Box.put3_2) | (apply Box.put5_0) | (apply Box.put5_1) | (apply Box.put5_2) | (apply Box.put5_3) | (apply Box.put5_4) | (apply Box.put2_0) | (apply Box.put2_1) | (with_reducible refine Box.alloc ?_ _) | (with_reducible refine Box.drewN ?_ _) | (with_reducible refine Box.drew ?_) | (with_reducible assumption) | (refine Hid.out ?_; with_reducible assumption) | (apply Box.only; (with_reducible assumption); exact (by first | omega | (simp; done) | (simp; omega) | (simp only [World.size_alloc, World.size_setCell, World.size_drew] at *; omega))) | (apply Box.belowD; (with_reducible assumption))))) hb)
  have yX_sp : wdr.heap.size < wsp.heap.size := X_sp.out.1
  obtain ⟨X_spc0, X_spc1, X_spc2, X_spc3, X_spc4⟩ := Box.facts5 X_sp.out
  have Y_sp : Hid (Box wsp (wdr.heap.size + 1) #[.int .i64 y.a, .int .i64 y.m, .int .i64 y.t, .int .i64 y.o, .int .i64 y.c]) := Lib.hid (Box.below (by (repeat' (first | (with_reducible exact Box.new _ _ _ (by first | omega | (simp; done) | (simp; omega) | (simp only [World.size_alloc, World.size_setCell, World.size_drew] at *; omega))) | (with_reducible refine Box.far ?_ (by first | omega | (simp; done) | (simp; omega) | (simp only [World.size_alloc, World.size_setCell, World.size_drew] at *; omega)) _) | (apply Box.put3_0) | (apply Box.put3_1) | (apply Box.put3_2) | (apply Box.put5_0) | (apply Box.put5_1) | (apply Box.put5_2) | (apply Box.put5_3) | (apply Box.put5_4) | (apply Box.put2_0) | (apply Box.put2_1) | (with_reducible refine Box.alloc ?_ _) | (with_reducible refine Box.drewN ?_ _) | (with_reducible refine Box.drew ?_) | (with_reducible assumption) | (refine Hid.out ?_; with_reducible assumption) | (apply Box.only; (with_reducible assumption); exact (by first | omega | (simp; done) | (simp; omega) | (simp only [World.size_alloc, World.size_setCell, World.size_drew] at *; omega))) | (apply Box.belowD; (with_reducible assumption))))) hb)
  have yY_sp : wdr.heap.size + 1 < wsp.heap.size := Y_sp.out.1
  obtain ⟨Y_spc0, Y_spc1, Y_spc2, Y_spc3, Y_spc4⟩ := Box.facts5 Y_sp.out
  have zsp := hb.size
  (try simp at zsp)
  have Dsp := Lib.hid hb; clear hb
  go_wp2_with fail
  refine (impl_Dominates y x _ NY.out.i).mono ?_
  rintro e wbk ⟨rfl, hb⟩
  have Gbk : Hid (Below w.heap.size w wbk) := belU hb (by (repeat' (first | (with_reducible exact Below.refl _ _) | (with_reducible refine belS ?_ (by first | omega | (simp; done) | (simp; omega) | (simp only [World.size_alloc, World.size_setCell, World.size_drew] at *; omega))) | (with_reducible refine belA ?_ (by first | omega | (simp; done) | (simp; omega) | (simp only [World.size_alloc, World.size_setCell, World.size_drew] at *; omega))) | (with_reducible refine bel_drewN ?_ _) | (with_reducible refine Below.drew ?_) | (with_reducible assumption) | (refine Hid.out ?_; with_reducible assumption) | (apply belV; (with_reducible assumption); exact (by first | omega | (simp; done) | (simp; omega) | (simp only [World.size_alloc, World.size_setCell, World.size_drew] at *; omega)))))) (by first | omega | (simp; done) | (simp; omega) | (simp only [World.size_alloc, World.size_setCell, World.size_drew] at *; omega))
  have X_bk : Hid (Box wbk (wdr.heap.size) #[.int .i64 x.a, .int .i64 x.m, .int .i64 x.t, .int .i64 x.o, .int .i64 x.c]) := Lib.hid (Box.below (by (repeat' (first | (with_reducible exact Box.new _ _ _ (by first | omega | (simp; done) | (simp; omega) | (simp only [World.size_alloc, World.size_setCell, World.size_drew] at *; omega))) | (with_reducible refine Box.far ?_ (by first | omega | (simp; done) | (simp; omega) | (simp only [World.size_alloc, World.size_setCell, World.size_drew] at *; omega)) _) | (apply Box.put3_0) | (apply Box.put3_1) | (apply Box.put3_2) | (apply Box.put5_0) | (apply Box.put5_1) | (apply Box.put5_2) | (apply Box.put5_3) | (apply Box.put5_4) | (apply Box.put2_0) | (apply Box.put2_1) | (with_reducible refine Box.alloc ?_ _) | (with_reducible refine Box.drewN ?_ _) | (with_reducible refine Box.drew ?_) | (with_reducible assumption) | (refine Hid.out ?_; with_reducible assumption) | (apply Box.only; (with_reducible assumption); exact (by first | omega | (simp; done) | (simp; omega) | (simp only [World.size_alloc, World.size_setCell, World.size_drew] at *; omega))) | (apply Box.belowD; (with_reducible assumption))))) hb)
  have yX_bk : wdr.heap.size < wbk.heap.size := X_bk.out.1
  obtain ⟨X_bkc0, X_bkc1, X_bkc2, X_bkc3, X_bkc4⟩ := Box.facts5 X_bk.out
  have Y_bk : Hid (Box wbk (wdr.heap.size + 1) #[.int .i64 y.a, .int .i64 y.m, .int .i64 y.t, .int .i64 y.o, .int .i64 y.c]) := Lib.hid (Box.below (by (repeat' (first | (with_reducible exact Box.new _ _ _ (by first | omega | (simp; done) | (simp; omega) | (simp only [World.size_alloc, World.size_setCell, World.size_drew] at *; omega))) | (with_reducible refine Box.far ?_ (by first | omega | (simp; done) | (simp; omega) | (simp only [World.size_alloc, World.size_setCell, World.size_drew] at *; omega)) _) | (apply Box.put3_0) | (apply Box.put3_1) | (apply Box.put3_2) | (apply Box.put5_0) | (apply Box.put5_1) | (apply Box.put5_2) | (apply Box.put5_3) | (apply Box.put5_4) | (apply Box.put2_0) | (apply Box.put2_1) | (with_reducible refine Box.alloc ?_ _) | (with_reducible refine Box.drewN ?_ _) | (with_reducible refine Box.drew ?_) | (with_reducible assumption) | (refine Hid.out ?_; with_reducible assumption) | (apply Box.only; (with_reducible assumption); exact (by first | omega | (simp; done) | (simp; omega) | (simp only [World.size_alloc, World.size_setCell, World.size_drew] at *; omega))) | (apply Box.belowD; (with_reducible assumption))))) hb)
  have yY_bk : wdr.heap.size + 1 < wbk.heap.size := Y_bk.out.1
  obtain ⟨Y_bkc0, Y_bkc1, Y_bkc2, Y_bkc3, Y_bkc4⟩ := Box.facts5 Y_bk.out
  have zbk := hb.size
  (try simp at zbk)
  have Dbk := Lib.hid hb; clear hb
  go_wp2_with fail
  refine (impl_Dominates x x _ NX.out.i).mono ?_
  rintro e wse ⟨rfl, hb⟩
  have Gse : Hid (Below w.heap.size w wse) := belU hb (by (repeat' (first | (with_reducible exact Below.refl _ _) | (with_reducible refine belS ?_ (by first | omega | (simp; done) | (simp; omega) | (simp only [World.size_alloc, World.size_setCell, World.size_drew] at *; omega))) | (with_reducible refine belA ?_ (by first | omega | (simp; done) | (simp; omega) | (simp only [World.size_alloc, World.size_setCell, World.size_drew] at *; omega))) | (with_reducible refine bel_drewN ?_ _) | (with_reducible refine Below.drew ?_) | (with_reducible assumption) | (refine Hid.out ?_; with_reducible assumption) | (apply belV; (with_reducible assumption); exact (by first | omega | (simp; done) | (simp; omega) | (simp only [World.size_alloc, World.size_setCell, World.size_drew] at *; omega)))))) (by first | omega | (simp; done) | (simp; omega) | (simp only [World.size_alloc, World.size_setCell, World.size_drew] at *; omega))
  have X_se : Hid (Box wse (wdr.heap.size) #[.int .i64 x.a, .int .i64 x.m, .int .i64 x.t, .int .i64 x.o, .int .i64 x.c]) := Lib.hid (Box.below (by (repeat' (first | (with_reducible exact Box.new _ _ _ (by first | omega | (simp; done) | (simp; omega) | (simp only [World.size_alloc, World.size_setCell, World.size_drew] at *; omega))) | (with_reducible refine Box.far ?_ (by first | omega | (simp; done) | (simp; omega) | (simp only [World.size_alloc, World.size_setCell, World.size_drew] at *; omega)) _) | (apply Box.put3_0) | (apply Box.put3_1) | (apply Box.put3_2) | (apply Box.put5_0) | (apply Box.put5_1) | (apply Box.put5_2) | (apply Box.put5_3) | (apply Box.put5_4) | (apply Box.put2_0) | (apply Box.put2_1) | (with_reducible refine Box.alloc ?_ _) | (with_reducible refine Box.drewN ?_ _) | (with_reducible refine Box.drew ?_) | (with_reducible assumption) | (refine Hid.out ?_; with_reducible assumption) | (apply Box.only; (with_reducible assumption); exact (by first | omega | (simp; done) | (simp; omega) | (simp only [World.size_alloc, World.size_setCell, World.size_drew] at *; omega))) | (apply Box.belowD; (with_reducible assumption))))) hb)
  have yX_se : wdr.heap.size < wse.heap.size := X_se.out.1
  obtain ⟨X_sec0, X_sec1, X_sec2, X_sec3, X_sec4⟩ := Box.facts5 X_se.out
  have Y_se : Hid (Box wse (wdr.heap.size + 1) #[.int .i64 y.a, .int .i64 y.m, .int .i64 y.t, .int .i64 y.o, .int .i64 y.c]) := Lib.hid (Box.below (by (repeat' (first | (with_reducible exact Box.new _ _ _ (by first | omega | (simp; done) | (simp; omega) | (simp only [World.size_alloc, World.size_setCell, World.size_drew] at *; omega))) | (with_reducible refine Box.far ?_ (by first | omega | (simp; done) | (simp; omega) | (simp only [World.size_alloc, World.size_setCell, World.size_drew] at *; omega)) _) | (apply Box.put3_0) | (apply Box.put3_1) | (apply Box.put3_2) | (apply Box.put5_0) | (apply Box.put5_1) | (apply Box.put5_2) | (apply Box.put5_3) | (apply Box.put5_4) | (apply Box.put2_0) | (apply Box.put2_1) | (with_reducible refine Box.alloc ?_ _) | (with_reducible refine Box.drewN ?_ _) | (with_reducible refine Box.drew ?_) | (with_reducible assumption) | (refine Hid.out ?_; with_reducible assumption) | (apply Box.only; (with_reducible assumption); exact (by first | omega | (simp; done) | (simp; omega) | (simp only [World.size_alloc, World.size_setCell, World.size_drew] at *; omega))) | (apply Box.belowD; (with_reducible assumption))))) hb)
  have yY_se : wdr.heap.size + 1 < wse.heap.size := Y_se.out.1
  obtain ⟨Y_sec0, Y_sec1, Y_sec2, Y_sec3, Y_sec4⟩ := Box.facts5 Y_se.out
  have zse := hb.size
  (try simp at zse)
  have Dse := Lib.hid hb; clear hb
  have hs := dom_self x
  have hm : domB x x = true ∧ 0 ≤ x.m ∧ x.m ≤ 31 ∨ domB x x = false ∧ 0 ≤ x.m ∧ ¬ x.m ≤ 31 ∨ domB x x = false ∧ ¬ 0 ≤ x.m := by
    rw [hs]
    cases hc : inB x.m 0 31
    · have := inB_not.1 hc
      by_cases h0 : 0 ≤ x.m
      · exact .inr (.inl ⟨rfl, h0, by omega⟩)
      · exact .inr (.inr ⟨rfl, h0⟩)
    · exact .inl ⟨rfl, inB_iff.1 hc⟩
  clear hs
  cases e1 : domB x y
  · rcases hm with ⟨m1, m2, m3⟩ | ⟨m1, m2, m3⟩ | ⟨m1, m2⟩
    all_goals
      simp only [m1]
      go_wp2_with fail
      go_ret
      exact ⟨ret_b (by simp; try omega), by (repeat' (first | (with_reducible exact Below.refl _ _) | (with_reducible refine belS ?_ (by first | omega | (simp; done) | (simp; omega) | (simp only [World.size_alloc, World.size_setCell, World.size_drew] at *; omega))) | (with_reducible refine belA ?_ (by first | omega | (simp; done) | (simp; omega) | (simp only [World.size_alloc, World.size_setCell, World.size_drew] at *; omega))) | (with_reducible refine bel_drewN ?_ _) | (with_reducible refine Below.drew ?_) | (with_reducible assumption) | (refine Hid.out ?_; with_reducible assumption) | (apply belV; (with_reducible assumption); exact (by first | omega | (simp; done) | (simp; omega) | (simp only [World.size_alloc, World.size_setCell, World.size_drew] at *; omega)))))⟩
  · cases e2 : domB y x
    · rcases hm with ⟨m1, m2, m3⟩ | ⟨m1, m2, m3⟩ | ⟨m1, m2⟩
      all_goals
        simp only [m1]
        go_wp2_with fail
        go_ret
        exact ⟨ret_b (by simp; try omega), by (repeat' (first | (with_reducible exact Below.refl _ _) | (with_reducible refine belS ?_ (by first | omega | (simp; done) | (simp; omega) | (simp only [World.size_alloc, World.size_setCell, World.size_drew] at *; omega))) | (with_reducible refine belA ?_ (by first | omega | (simp; done) | (simp; omega) | (simp only [World.size_alloc, World.size_setCell, World.size_drew] at *; omega))) | (with_reducible refine bel_drewN ?_ _) | (with_reducible refine Below.drew ?_) | (with_reducible assumption) | (refine Hid.out ?_; with_reducible assumption) | (apply belV; (with_reducible assumption); exact (by first | omega | (simp; done) | (simp; omega) | (simp only [World.size_alloc, World.size_setCell, World.size_drew] at *; omega)))))⟩
    · obtain rfl := dom_anti e1 e2
      rcases hm with ⟨m1, m2, m3⟩ | ⟨m1, m2, m3⟩ | ⟨m1, m2⟩
      · go_wp2_with fail
        go_ret
        exact ⟨ret_b (by simp; try omega), by (repeat' (first | (with_reducible exact Below.refl _ _) | (with_reducible refine belS ?_ (by first | omega | (simp; done) | (simp; omega) | (simp only [World.size_alloc, World.size_setCell, World.size_drew] at *; omega))) | (with_reducible refine belA ?_ (by first | omega | (simp; done) | (simp; omega) | (simp only [World.size_alloc, World.size_setCell, World.size_drew] at *; omega))) | (with_reducible refine bel_drewN ?_ _) | (with_reducible refine Below.drew ?_) | (with_reducible assumption) | (refine Hid.out ?_; with_reducible assumption) | (apply belV; (with_reducible assumption); exact (by first | omega | (simp; done) | (simp; omega) | (simp only [World.size_alloc, World.size_setCell, World.size_drew] at *; omega)))))⟩
      · rw [m1] at e1; cases e1
      · rw [m1] at e1; cases e1
end Go.Proofs.Ytppdomoifnokpab
