
/-
  The walk of the law that no feasible point before the solution costs as little.
-/
import Derived.Test.YtangfmmjpomlgaaNp
import Derived.Test.YtangfmmjpomlgaaNl
import Derived.Test.YtangfmmjpomlgaaPh
import Derived.Test.YtangfmmjpomlgaaIj
set_option linter.unusedSimpArgs false
set_option linter.unusedVariables false
namespace Go.Proofs.Ytangfmmjpomlgaa
open Go.RowKit

theorem get_of'' {xs : List Int} {k : Nat} (h : k < xs.length) : ∃ x, xs[k]? = some x := ⟨_, List.getElem?_eq_getElem h⟩

theorem impl_SEt (A0 A1 A2 : Option Addr) (c0 c1 c2 : Nat) (p : PProb) (u : Int) (L : List Int) (v : Int) (w : World) (h0 : Ints w A0 p.costs.length p.costs) (h1 : Ints w A1 p.uppers.length (p.uppers.set 0 u)) (h2 : RowS w A2 p.rows.length p.rows)
    (k0 : p.costs.length ≤ c0) (k1 : p.uppers.length ≤ c1) (k2 : p.rows.length ≤ c2) (m0 : c0 ≤ maxLen) (m1 : c1 ≤ maxLen) (m2 : c2 ≤ maxLen) (hL : solL (topP p u) = L) (hv : solC (topP p u) = v) :
    Calls Try.prog 10 #[.agg #[.slice A0 p.costs.length c0, .slice A1 p.uppers.length c1, .slice A2 p.rows.length c2]] w (PairJ L v w) := by
  have e : (topP p u).uppers.length = p.uppers.length := by simp [topP]
  have := impl_SE A0 A1 A2 c0 c1 c2 (topP p u) L v w ⟨h0, by rw [e]; exact h1, h2, k0, by rw [e]; exact k1, k2, m0, m1, m2⟩ hL hv
  rw [e] at this
  exact this
theorem spec_SEv (A0 A1 A2 : Option Addr) (c0 c1 c2 : Nat) (p : PProb) (L : List Int) (v : Int) (w : World) (hp : ProbV w A0 A1 A2 c0 c1 c2 p) (hL : solL p = L) (hv : solC p = v) :
    Calls Try.prog 11 #[.agg #[.slice A0 p.costs.length c0, .slice A1 p.uppers.length c1, .slice A2 p.rows.length c2]] w (PairJ L v w) := by
  subst hL hv; exact spec_SolveExact A0 A1 A2 c0 c1 c2 p w hp

set_option maxHeartbeats 8000000 in
set_option maxRecDepth 100000 in
theorem FnSolveExactFirst_walk (a : Option Addr) (len cap : Nat) (w : World) (h : By w.heap.size w a len cap) :
    Calls Try.prog 3 #[.slice a len cap] w fun e w' => e = .returned (.bool true) ∧ Below w.heap.size w w' := by
  obtain ⟨i0, hi0, hz0, hz1, hz2⟩ := info_parts info_int
  have hl := h.1
  have hl2 := h.2.1
  unfold maxLen at hl2
  have H := Lib.hid h; clear h
  by_cases hbig : 1048576 < len
  · go_enter Try.func3, Try.ntmps3
    go_wp2_with fail
    go_ret
    exact ⟨rfl, Below.refl _ _⟩
  · go_enter Try.func3, Try.ntmps3
    go_wp2_with fail
    refine (DrawSolveExact_p _ _ _ _ H.out).mono ?_
    rintro e wdr ⟨A0, A1, A2, d0, d1, d2, p, rfl, hpv, h1000, hb⟩
    have Gdr : Hid (Below w.heap.size w wdr) := belU hb (by (repeat' (first | (with_reducible exact Below.refl _ _) | (with_reducible refine belS ?_ (by first | omega | (simp; done) | (simp; omega) | (simp only [World.size_alloc, World.size_setCell, World.size_drew] at *; omega))) | (with_reducible refine belA ?_ (by first | omega | (simp; done) | (simp; omega) | (simp only [World.size_alloc, World.size_setCell, World.size_drew] at *; omega))) | (with_reducible refine bel_drewN ?_ _) | (with_reducible refine Below.drew ?_) | (with_reducible assumption) | (refine Hid.out ?_; with_reducible assumption) | (apply belV; (with_reducible assumption); exact (by first | omega | (simp; done) | (simp; omega) | (simp only [World.size_alloc, World.size_setCell, World.size_drew] at *; omega)))))) (by first | omega | (simp; done) | (simp; omega) | (simp only [World.size_alloc, World.size_setCell, World.size_drew] at *; omega))
    have PV := Lib.hid hpv; clear hpv
    have H1000 := Lib.hid h1000; clear h1000
    have zdr := hb.size
    (try simp at zdr)
    have Ddr := Lib.hid hb; clear hb
    obtain ⟨L, hL⟩ : ∃ L, solL p = L := ⟨_, rfl⟩
    obtain ⟨v, hv⟩ : ∃ v, solC p = v := ⟨_, rfl⟩
    have HL := Lib.hid hL
    have HC := Lib.hid hv
    have hvb := Lib.hid (solC_lo (p := p))
    rw [hv] at hvb
    clear hL hv
    have hvb := hvb.out
    have hvv : (v != v) = false := by simp
    go_wp2_with fail
    refine (impl_SE _ _ _ _ _ _ p L v _ (PV.out.below (by (repeat' (first | (with_reducible exact Below.refl _ _) | (with_reducible refine belS ?_ (by first | omega | (simp; done) | (simp; omega) | (simp only [World.size_alloc, World.size_setCell, World.size_drew] at *; omega))) | (with_reducible refine belA ?_ (by first | omega | (simp; done) | (simp; omega) | (simp only [World.size_alloc, World.size_setCell, World.size_drew] at *; omega))) | (with_reducible refine bel_drewN ?_ _) | (with_reducible refine Below.drew ?_) | (with_reducible assumption) | (refine Hid.out ?_; with_reducible assumption) | (apply belV; (with_reducible assumption); exact (by first | omega | (simp; done) | (simp; omega) | (simp only [World.size_alloc, World.size_setCell, World.size_drew] at *; omega))))))) HL.out HC.out).mono ?_
    rintro e wim ⟨A1', c1', rfl, ho, hb⟩
    have Gim : Hid (Below w.heap.size w wim) := belU hb (by (repeat' (first | (with_reducible exact Below.refl _ _) | (with_reducible refine belS ?_ (by first | omega | (simp; done) | (simp; omega) | (simp only [World.size_alloc, World.size_setCell, World.size_drew] at *; omega))) | (with_reducible refine belA ?_ (by first | omega | (simp; done) | (simp; omega) | (simp only [World.size_alloc, World.size_setCell, World.size_drew] at *; omega))) | (with_reducible refine bel_drewN ?_ _) | (with_reducible refine Below.drew ?_) | (with_reducible assumption) | (refine Hid.out ?_; with_reducible assumption) | (apply belV; (with_reducible assumption); exact (by first | omega | (simp; done) | (simp; omega) | (simp only [World.size_alloc, World.size_setCell, World.size_drew] at *; omega)))))) (by first | omega | (simp; done) | (simp; omega) | (simp only [World.size_alloc, World.size_setCell, World.size_drew] at *; omega))
    (try simp only [World.size_alloc, World.size_setCell, World.size_drew, World.heap_drewN] at ho)
    have W1 := Lib.hid ho; clear ho
    have X_im : Hid (Box wim (wdr.heap.size) #[.slice A0 p.costs.length d0, .slice A1 p.uppers.length d1, .slice A2 p.rows.length d2]) := Lib.hid (Box.below (by (repeat' (first | (with_reducible exact Box.new _ _ _ (by first | omega | (simp; done) | (simp; omega) | (simp only [World.size_alloc, World.size_setCell, World.size_drew] at *; omega))) | (with_reducible refine Box.far ?_ (by first | omega | (simp; done) | (simp; omega) | (simp only [World.size_alloc, World.size_setCell, World.size_drew] at *; omega)) _) | (apply Box.put3_0) | (apply Box.put3_1) | (apply Box.put3_2) | (apply Box.put2_0) | (apply Box.put2_1) | (with_reducible refine Box.alloc ?_ _) | (with_reducible refine Box.drewN ?_ _) | (with_reducible refine Box.drew ?_) | (with_reducible assumption) | (refine Hid.out ?_; with_reducible assumption) | (apply Box.only; (with_reducible assumption); exact (by first | omega | (simp; done) | (simp; omega) | (simp only [World.size_alloc, World.size_setCell, World.size_drew] at *; omega))) | (apply Box.belowD; (with_reducible assumption))))) hb)
    have yX_im : wdr.heap.size < wim.heap.size := X_im.out.1
    obtain ⟨X_imc0, X_imc1, X_imc2⟩ := Box.facts3 X_im.out
    have zim := hb.size
    (try simp at zim)
    have Dim := Lib.hid hb; clear hb
    go_wp2_with fail
    refine (spec_SEv _ _ _ _ _ _ p L v _ (PV.out.below (by (repeat' (first | (with_reducible exact Below.refl _ _) | (with_reducible refine belS ?_ (by first | omega | (simp; done) | (simp; omega) | (simp only [World.size_alloc, World.size_setCell, World.size_drew] at *; omega))) | (with_reducible refine belA ?_ (by first | omega | (simp; done) | (simp; omega) | (simp only [World.size_alloc, World.size_setCell, World.size_drew] at *; omega))) | (with_reducible refine bel_drewN ?_ _) | (with_reducible refine Below.drew ?_) | (with_reducible assumption) | (refine Hid.out ?_; with_reducible assumption) | (apply belV; (with_reducible assumption); exact (by first | omega | (simp; done) | (simp; omega) | (simp only [World.size_alloc, World.size_setCell, World.size_drew] at *; omega))))))) HL.out HC.out).mono ?_
    rintro e wsp ⟨A2', c2', rfl, ho, hb⟩
    have Gsp : Hid (Below w.heap.size w wsp) := belU hb (by (repeat' (first | (with_reducible exact Below.refl _ _) | (with_reducible refine belS ?_ (by first | omega | (simp; done) | (simp; omega) | (simp only [World.size_alloc, World.size_setCell, World.size_drew] at *; omega))) | (with_reducible refine belA ?_ (by first | omega | (simp; done) | (simp; omega) | (simp only [World.size_alloc, World.size_setCell, World.size_drew] at *; omega))) | (with_reducible refine bel_drewN ?_ _) | (with_reducible refine Below.drew ?_) | (with_reducible assumption) | (refine Hid.out ?_; with_reducible assumption) | (apply belV; (with_reducible assumption); exact (by first | omega | (simp; done) | (simp; omega) | (simp only [World.size_alloc, World.size_setCell, World.size_drew] at *; omega)))))) (by first | omega | (simp; done) | (simp; omega) | (simp only [World.size_alloc, World.size_setCell, World.size_drew] at *; omega))
    (try simp only [World.size_alloc, World.size_setCell, World.size_drew, World.heap_drewN] at ho)
    have W2 := Lib.hid ho; clear ho
    have X_sp : Hid (Box wsp (wdr.heap.size) #[.slice A0 p.costs.length d0, .slice A1 p.uppers.length d1, .slice A2 p.rows.length d2]) := Lib.hid (Box.below (by (repeat' (first | (with_reducible exact Box.new _ _ _ (by first | omega | (simp; done) | (simp; omega) | (simp only [World.size_alloc, World.size_setCell, World.size_drew] at *; omega))) | (with_reducible refine Box.far ?_ (by first | omega | (simp; done) | (simp; omega) | (simp only [World.size_alloc, World.size_setCell, World.size_drew] at *; omega)) _) | (apply Box.put3_0) | (apply Box.put3_1) | (apply Box.put3_2) | (apply Box.put2_0) | (apply Box.put2_1) | (with_reducible refine Box.alloc ?_ _) | (with_reducible refine Box.drewN ?_ _) | (with_reducible refine Box.drew ?_) | (with_reducible assumption) | (refine Hid.out ?_; with_reducible assumption) | (apply Box.only; (with_reducible assumption); exact (by first | omega | (simp; done) | (simp; omega) | (simp only [World.size_alloc, World.size_setCell, World.size_drew] at *; omega))) | (apply Box.belowD; (with_reducible assumption))))) hb)
    have yX_sp : wdr.heap.size < wsp.heap.size := X_sp.out.1
    obtain ⟨X_spc0, X_spc1, X_spc2⟩ := Box.facts3 X_sp.out
    have zsp := hb.size
    (try simp at zsp)
    have Dsp := Lib.hid hb; clear hb
    have hsm := W1.out.small
    go_wp2_with fail
    refine (laws_equalInts _ _ _ _ _ L _ (OwnS.ints (OwnS.by_ W1 (by (repeat' (first | (with_reducible exact OwnS.madeAt _ _ _ (by first | omega | (simp; done) | (simp; omega) | (simp only [World.size_alloc, World.size_setCell, World.size_drew] at *; omega))) | (with_reducible refine OwnS.far ?_ (by first | omega | (simp; done) | (simp; omega) | (simp only [World.size_alloc, World.size_setCell, World.size_drew] at *; omega)) _) | (with_reducible refine OwnS.alloc ?_ _) | (with_reducible refine OwnS.drewN ?_ _) | (with_reducible refine OwnS.drew ?_) | (with_reducible assumption) | (refine Hid.out ?_; with_reducible assumption) | (apply OwnS.turn; (with_reducible assumption); exact (by first | omega | (simp; done) | (simp; omega) | (simp only [World.size_alloc, World.size_setCell, World.size_drew] at *; omega))) | (apply OwnS.only; (with_reducible assumption); exact (by first | omega | (simp; done) | (simp; omega) | (simp only [World.size_alloc, World.size_setCell, World.size_drew] at *; omega))) | (apply OwnS.belowD; (with_reducible assumption))))))) (OwnS.ints (OwnS.by_ W2 (by (repeat' (first | (with_reducible exact OwnS.madeAt _ _ _ (by first | omega | (simp; done) | (simp; omega) | (simp only [World.size_alloc, World.size_setCell, World.size_drew] at *; omega))) | (with_reducible refine OwnS.far ?_ (by first | omega | (simp; done) | (simp; omega) | (simp only [World.size_alloc, World.size_setCell, World.size_drew] at *; omega)) _) | (with_reducible refine OwnS.alloc ?_ _) | (with_reducible refine OwnS.drewN ?_ _) | (with_reducible refine OwnS.drew ?_) | (with_reducible assumption) | (refine Hid.out ?_; with_reducible assumption) | (apply OwnS.turn; (with_reducible assumption); exact (by first | omega | (simp; done) | (simp; omega) | (simp only [World.size_alloc, World.size_setCell, World.size_drew] at *; omega))) | (apply OwnS.only; (with_reducible assumption); exact (by first | omega | (simp; done) | (simp; omega) | (simp only [World.size_alloc, World.size_setCell, World.size_drew] at *; omega))) | (apply OwnS.belowD; (with_reducible assumption))))))) hsm).mono ?_
    rintro e we1 ⟨rfl, hb⟩
    have Ge1 : Hid (Below w.heap.size w we1) := belU hb (by (repeat' (first | (with_reducible exact Below.refl _ _) | (with_reducible refine belS ?_ (by first | omega | (simp; done) | (simp; omega) | (simp only [World.size_alloc, World.size_setCell, World.size_drew] at *; omega))) | (with_reducible refine belA ?_ (by first | omega | (simp; done) | (simp; omega) | (simp only [World.size_alloc, World.size_setCell, World.size_drew] at *; omega))) | (with_reducible refine bel_drewN ?_ _) | (with_reducible refine Below.drew ?_) | (with_reducible assumption) | (refine Hid.out ?_; with_reducible assumption) | (apply belV; (with_reducible assumption); exact (by first | omega | (simp; done) | (simp; omega) | (simp only [World.size_alloc, World.size_setCell, World.size_drew] at *; omega)))))) (by first | omega | (simp; done) | (simp; omega) | (simp only [World.size_alloc, World.size_setCell, World.size_drew] at *; omega))
    have X_e1 : Hid (Box we1 (wdr.heap.size) #[.slice A0 p.costs.length d0, .slice A1 p.uppers.length d1, .slice A2 p.rows.length d2]) := Lib.hid (Box.below (by (repeat' (first | (with_reducible exact Box.new _ _ _ (by first | omega | (simp; done) | (simp; omega) | (simp only [World.size_alloc, World.size_setCell, World.size_drew] at *; omega))) | (with_reducible refine Box.far ?_ (by first | omega | (simp; done) | (simp; omega) | (simp only [World.size_alloc, World.size_setCell, World.size_drew] at *; omega)) _) | (apply Box.put3_0) | (apply Box.put3_1) | (apply Box.put3_2) | (apply Box.put2_0) | (apply Box.put2_1) | (with_reducible refine Box.alloc ?_ _) | (with_reducible refine Box.drewN ?_ _) | (with_reducible refine Box.drew ?_) | (with_reducible assumption) | (refine Hid.out ?_; with_reducible assumption) | (apply Box.only; (with_reducible assumption); exact (by first | omega | (simp; done) | (simp; omega) | (simp only [World.size_alloc, World.size_setCell, World.size_drew] at *; omega))) | (apply Box.belowD; (with_reducible assumption))))) hb)
    have yX_e1 : wdr.heap.size < we1.heap.size := X_e1.out.1
    obtain ⟨X_e1c0, X_e1c1, X_e1c2⟩ := Box.facts3 X_e1.out
    have ze1 := hb.size
    (try simp at ze1)
    have De1 := Lib.hid hb; clear hb
    by_cases hneg : v < 0
    · go_wp2_with fail
      refine (laws_equalInts _ _ _ _ _ L _ (OwnS.ints (OwnS.by_ W1 (by (repeat' (first | (with_reducible exact OwnS.madeAt _ _ _ (by first | omega | (simp; done) | (simp; omega) | (simp only [World.size_alloc, World.size_setCell, World.size_drew] at *; omega))) | (with_reducible refine OwnS.far ?_ (by first | omega | (simp; done) | (simp; omega) | (simp only [World.size_alloc, World.size_setCell, World.size_drew] at *; omega)) _) | (with_reducible refine OwnS.alloc ?_ _) | (with_reducible refine OwnS.drewN ?_ _) | (with_reducible refine OwnS.drew ?_) | (with_reducible assumption) | (refine Hid.out ?_; with_reducible assumption) | (apply OwnS.turn; (with_reducible assumption); exact (by first | omega | (simp; done) | (simp; omega) | (simp only [World.size_alloc, World.size_setCell, World.size_drew] at *; omega))) | (apply OwnS.only; (with_reducible assumption); exact (by first | omega | (simp; done) | (simp; omega) | (simp only [World.size_alloc, World.size_setCell, World.size_drew] at *; omega))) | (apply OwnS.belowD; (with_reducible assumption))))))) (OwnS.ints (OwnS.by_ W2 (by (repeat' (first | (with_reducible exact OwnS.madeAt _ _ _ (by first | omega | (simp; done) | (simp; omega) | (simp only [World.size_alloc, World.size_setCell, World.size_drew] at *; omega))) | (with_reducible refine OwnS.far ?_ (by first | omega | (simp; done) | (simp; omega) | (simp only [World.size_alloc, World.size_setCell, World.size_drew] at *; omega)) _) | (with_reducible refine OwnS.alloc ?_ _) | (with_reducible refine OwnS.drewN ?_ _) | (with_reducible refine OwnS.drew ?_) | (with_reducible assumption) | (refine Hid.out ?_; with_reducible assumption) | (apply OwnS.turn; (with_reducible assumption); exact (by first | omega | (simp; done) | (simp; omega) | (simp only [World.size_alloc, World.size_setCell, World.size_drew] at *; omega))) | (apply OwnS.only; (with_reducible assumption); exact (by first | omega | (simp; done) | (simp; omega) | (simp only [World.size_alloc, World.size_setCell, World.size_drew] at *; omega))) | (apply OwnS.belowD; (with_reducible assumption))))))) hsm).mono ?_
      rintro e we2 ⟨rfl, hb⟩
      have Ge2 : Hid (Below w.heap.size w we2) := belU hb (by (repeat' (first | (with_reducible exact Below.refl _ _) | (with_reducible refine belS ?_ (by first | omega | (simp; done) | (simp; omega) | (simp only [World.size_alloc, World.size_setCell, World.size_drew] at *; omega))) | (with_reducible refine belA ?_ (by first | omega | (simp; done) | (simp; omega) | (simp only [World.size_alloc, World.size_setCell, World.size_drew] at *; omega))) | (with_reducible refine bel_drewN ?_ _) | (with_reducible refine Below.drew ?_) | (with_reducible assumption) | (refine Hid.out ?_; with_reducible assumption) | (apply belV; (with_reducible assumption); exact (by first | omega | (simp; done) | (simp; omega) | (simp only [World.size_alloc, World.size_setCell, World.size_drew] at *; omega)))))) (by first | omega | (simp; done) | (simp; omega) | (simp only [World.size_alloc, World.size_setCell, World.size_drew] at *; omega))
      have X_e2 : Hid (Box we2 (wdr.heap.size) #[.slice A0 p.costs.length d0, .slice A1 p.uppers.length d1, .slice A2 p.rows.length d2]) := Lib.hid (Box.below (by (repeat' (first | (with_reducible exact Box.new _ _ _ (by first | omega | (simp; done) | (simp; omega) | (simp only [World.size_alloc, World.size_setCell, World.size_drew] at *; omega))) | (with_reducible refine Box.far ?_ (by first | omega | (simp; done) | (simp; omega) | (simp only [World.size_alloc, World.size_setCell, World.size_drew] at *; omega)) _) | (apply Box.put3_0) | (apply Box.put3_1) | (apply Box.put3_2) | (apply Box.put2_0) | (apply Box.put2_1) | (with_reducible refine Box.alloc ?_ _) | (with_reducible refine Box.drewN ?_ _) | (with_reducible refine Box.drew ?_) | (with_reducible assumption) | (refine Hid.out ?_; with_reducible assumption) | (apply Box.only; (with_reducible assumption); exact (by first | omega | (simp; done) | (simp; omega) | (simp only [World.size_alloc, World.size_setCell, World.size_drew] at *; omega))) | (apply Box.belowD; (with_reducible assumption))))) hb)
      have yX_e2 : wdr.heap.size < we2.heap.size := X_e2.out.1
      obtain ⟨X_e2c0, X_e2c1, X_e2c2⟩ := Box.facts3 X_e2.out
      have ze2 := hb.size
      (try simp at ze2)
      have De2 := Lib.hid hb; clear hb
      go_wp2_with fail
      go_ret
      exact ⟨by simp, by (repeat' (first | (with_reducible exact Below.refl _ _) | (with_reducible refine belS ?_ (by first | omega | (simp; done) | (simp; omega) | (simp only [World.size_alloc, World.size_setCell, World.size_drew] at *; omega))) | (with_reducible refine belA ?_ (by first | omega | (simp; done) | (simp; omega) | (simp only [World.size_alloc, World.size_setCell, World.size_drew] at *; omega))) | (with_reducible refine bel_drewN ?_ _) | (with_reducible refine Below.drew ?_) | (with_reducible assumption) | (refine Hid.out ?_; with_reducible assumption) | (apply belV; (with_reducible assumption); exact (by first | omega | (simp; done) | (simp; omega) | (simp only [World.size_alloc, World.size_setCell, World.size_drew] at *; omega)))))⟩
    · have hvp : vProb p = true := by
        cases hh : vProb p
        · have := solC_1 hh; rw [HC.out] at this; omega
        · rfl
      have HFS := Lib.hid (first_same hvp (by rw [HC.out]; exact hneg))
      rw [HL.out, HC.out] at HFS
      obtain ⟨g1, rfl⟩ : ∃ g1 : Nat, A1 = some ⟨g1, 0, none⟩ := by
        rcases H1000.out.2 with ⟨_, _, h⟩ | h
        · have := (vProb_N5 hvp).2; rw [h] at this; simp at this
        · exact h
      have hpos := sol_pos hvp (by rw [HC.out]; exact hneg)
      rw [HL.out] at hpos
      have hL0 : 0 < L.length := by rw [pts_len (vProb_us hvp) hpos.1]; exact (vProb_N5 hvp).2
      have hLb := pts_bd (vProb_us hvp) hpos.1
      have hund := under_at (isPt_under.1 (pts_isPt (vProb_us hvp) hpos.1)) 0 (vProb_N5 hvp).2
      have hN5 : p.uppers.length ≤ 5 := (vProb_N5 hvp).1
      have hN1 : 1 ≤ p.uppers.length := (vProb_N5 hvp).2
      have hub := vProb_us hvp
      obtain ⟨u0, hu0⟩ := get_of'' (xs := p.uppers) (k := 0) (by omega)
      have HU0 := Lib.hid hu0
      have hu09 := hub u0 (List.mem_of_getElem? hu0)
      have hub' := Lib.hid hub
      obtain ⟨s, hs⟩ := get_of'' (xs := L) (k := 0) hL0
      have HS0 := Lib.hid hs
      have hsd := getD_of hs
      rw [hsd] at hund
      rw [hsd] at HFS
      have hs9 : 0 ≤ s ∧ s ≤ 9 := by rw [getD_of hu0] at hund; omega
      obtain ⟨gl, rfl, hgl1, hgl2, hogl⟩ := OwnS.getJ W1.out hL0
      have HOG := Lib.hid hogl
      have IU : Hid (Ints wdr (some ⟨g1, 0, none⟩) p.uppers.length p.uppers) := Lib.hid PV.out.i1
      have hse1 : Hid (OwnI we1 gl L) := Lib.hid (by (repeat' (first | (with_reducible exact OwnI.madeAt _ _ _ (by first | omega | (simp; done) | (simp; omega) | (simp only [World.size_alloc, World.size_setCell, World.size_drew] at *; omega))) | (with_reducible refine OwnI.far ?_ (by first | omega | (simp; done) | (simp; omega) | (simp only [World.size_alloc, World.size_setCell, World.size_drew] at *; omega)) _) | (with_reducible refine OwnI.alloc ?_ _) | (with_reducible refine OwnI.drewN ?_ _) | (with_reducible refine OwnI.drew ?_) | (with_reducible assumption) | (refine Hid.out ?_; with_reducible assumption) | (apply OwnI.turn; (with_reducible assumption); exact (by first | omega | (simp; done) | (simp; omega) | (simp only [World.size_alloc, World.size_setCell, World.size_drew] at *; omega))) | (apply OwnI.only; (with_reducible assumption); exact (by first | omega | (simp; done) | (simp; omega) | (simp only [World.size_alloc, World.size_setCell, World.size_drew] at *; omega))) | (apply OwnI.belowD; (with_reducible assumption)))))
      have hsc : we1.cell? ⟨gl, 0, none⟩ = some (.int .i64 s) := (hse1.out.2 0 s hs).1
      have hgle := hse1.out.1
      have hwk : IntKind.i64.wrap (s - 1) = s - 1 := IntWalk.i64_in _ ⟨by omega, by omega⟩
      have hN1' : (0 : Int) < (p.uppers.length : Int) := by omega
      have hL0' : (0 : Int) < (L.length : Int) := by omega
      obtain ⟨vm, hvm⟩ : ∃ vm, solC (topP p (s - 1)) = vm := ⟨_, rfl⟩
      rw [hvm] at HFS
      have HV2 := Lib.hid hvm
      have HLb := Lib.hid hLb
      clear hvm hs hu0 hsd hund hpos hub hLb hogl
      have IU1 : Hid (Ints we1 (some ⟨g1, 0, none⟩) p.uppers.length p.uppers) := Lib.hid (IU.out.below (by (repeat' (first | (with_reducible exact Below.refl _ _) | (with_reducible refine belS ?_ (by first | omega | (simp; done) | (simp; omega) | (simp only [World.size_alloc, World.size_setCell, World.size_drew] at *; omega))) | (with_reducible refine belA ?_ (by first | omega | (simp; done) | (simp; omega) | (simp only [World.size_alloc, World.size_setCell, World.size_drew] at *; omega))) | (with_reducible refine bel_drewN ?_ _) | (with_reducible refine Below.drew ?_) | (with_reducible assumption) | (refine Hid.out ?_; with_reducible assumption) | (apply belV; (with_reducible assumption); exact (by first | omega | (simp; done) | (simp; omega) | (simp only [World.size_alloc, World.size_setCell, World.size_drew] at *; omega)))))))
      have HX1 : Hid (Box we1 wdr.heap.size #[.slice A0 p.costs.length d0, .slice (some ⟨g1, 0, none⟩) p.uppers.length d1, .slice A2 p.rows.length d2]) := Lib.hid (by (repeat' (first | (with_reducible exact Box.new _ _ _ (by first | omega | (simp; done) | (simp; omega) | (simp only [World.size_alloc, World.size_setCell, World.size_drew] at *; omega))) | (with_reducible refine Box.far ?_ (by first | omega | (simp; done) | (simp; omega) | (simp only [World.size_alloc, World.size_setCell, World.size_drew] at *; omega)) _) | (apply Box.put3_0) | (apply Box.put3_1) | (apply Box.put3_2) | (apply Box.put2_0) | (apply Box.put2_1) | (with_reducible refine Box.alloc ?_ _) | (with_reducible refine Box.drewN ?_ _) | (with_reducible refine Box.drew ?_) | (with_reducible assumption) | (refine Hid.out ?_; with_reducible assumption) | (apply Box.only; (with_reducible assumption); exact (by first | omega | (simp; done) | (simp; omega) | (simp only [World.size_alloc, World.size_setCell, World.size_drew] at *; omega))) | (apply Box.belowD; (with_reducible assumption)))))
      have HO1 : Hid (OwnI we1 gl L) := Lib.hid (by (repeat' (first | (with_reducible exact OwnI.madeAt _ _ _ (by first | omega | (simp; done) | (simp; omega) | (simp only [World.size_alloc, World.size_setCell, World.size_drew] at *; omega))) | (with_reducible refine OwnI.far ?_ (by first | omega | (simp; done) | (simp; omega) | (simp only [World.size_alloc, World.size_setCell, World.size_drew] at *; omega)) _) | (with_reducible refine OwnI.alloc ?_ _) | (with_reducible refine OwnI.drewN ?_ _) | (with_reducible refine OwnI.drew ?_) | (with_reducible assumption) | (refine Hid.out ?_; with_reducible assumption) | (apply OwnI.turn; (with_reducible assumption); exact (by first | omega | (simp; done) | (simp; omega) | (simp only [World.size_alloc, World.size_setCell, World.size_drew] at *; omega))) | (apply OwnI.only; (with_reducible assumption); exact (by first | omega | (simp; done) | (simp; omega) | (simp only [World.size_alloc, World.size_setCell, World.size_drew] at *; omega))) | (apply OwnI.belowD; (with_reducible assumption)))))
      go_wp2_with (
        at_builtin
        refine wpList_copy we1 rfl (.tmp 50) (.tmp 52) rfl rfl rfl IU1.out (by omega) ?_
        intro q1 cq1 v1 hq1 og hcq1 hb1
        have hqc1 := (og.2 0 u0 HU0.out).1
        have hqf1 := (og.2 0 u0 HU0.out).2
        have hql1 := og.1
        have hsz1 := hb1.size
        have hgl1 := HO1.out.1
        have hLc1 : v1.cell? ⟨gl, 0, none⟩ = some (.int .i64 s) := (hb1.cell (p := ⟨gl, 0, none⟩) hgl1).trans (HO1.out.2 0 s HS0.out).1
        have XX1 := HX1.out.below hb1
        obtain ⟨xx10, xx11, xx12⟩ := Box.facts3 XX1
        have zz1 := XX1.1
        have hd1 : ¬ gl = q1 := by omega
        have hd1' : ¬ q1 = gl := by omega
        have he1 : ¬ wdr.heap.size = q1 := by have := HX1.out.1; omega
        have he1' : ¬ q1 = wdr.heap.size := fun h => he1 h.symm
        have hN1x := hcq1.1
        have OG1 := Lib.hid og
        have HB1 := Lib.hid hb1
        have XY1 := Lib.hid XX1
        clear og hb1 XX1)
      obtain ⟨U1, hU1⟩ : ∃ U, v1.setCell ⟨q1, 0, none⟩ (.int .i64 (s)) = U := ⟨_, rfl⟩
      rw [hU1]
      have OS1 : Hid (OwnI U1 q1 (p.uppers.set 0 (s))) := Lib.hid (by rw [← hU1]; exact OG1.out.set_ HU0.out _)
      have BU1 : Hid (Below we1.heap.size we1 U1) := Lib.hid (by rw [← hU1]; exact belS HB1.out hq1)
      have XU1 : Hid (Box U1 wdr.heap.size #[.slice A0 p.costs.length d0, .slice (some ⟨g1, 0, none⟩) p.uppers.length d1, .slice A2 p.rows.length d2]) := Lib.hid (HX1.out.below BU1.out)
      have HP1' : Hid (OwnI U1 gl L) := Lib.hid (HO1.out.below BU1.out)
      have IS1 : Hid (Ints U1 (some ⟨q1, 0, none⟩) p.uppers.length (p.uppers.set 0 (s))) := Lib.hid (by
        have := OS1.out.ints (fun y hy => (List.mem_or_eq_of_mem_set hy).elim (fun h => by have := hub'.out y h; exact ⟨by omega, by omega⟩) (fun e => by subst e; exact ⟨by omega, by omega⟩))
        rwa [List.length_set] at this)
      have GU1 : Hid (Below w.heap.size w U1) := Lib.hid (belU BU1.out (by (repeat' (first | (with_reducible exact Below.refl _ _) | (with_reducible refine belS ?_ (by first | omega | (simp; done) | (simp; omega) | (simp only [World.size_alloc, World.size_setCell, World.size_drew] at *; omega))) | (with_reducible refine belA ?_ (by first | omega | (simp; done) | (simp; omega) | (simp only [World.size_alloc, World.size_setCell, World.size_drew] at *; omega))) | (with_reducible refine bel_drewN ?_ _) | (with_reducible refine Below.drew ?_) | (with_reducible assumption) | (refine Hid.out ?_; with_reducible assumption) | (apply belV; (with_reducible assumption); exact (by first | omega | (simp; done) | (simp; omega) | (simp only [World.size_alloc, World.size_setCell, World.size_drew] at *; omega)))))) (by omega))
      have DU1 : Hid (Below wdr.heap.size wdr U1) := Lib.hid (Below.trans (b := we1) (by (repeat' (first | (with_reducible exact Below.refl _ _) | (with_reducible refine belS ?_ (by first | omega | (simp; done) | (simp; omega) | (simp only [World.size_alloc, World.size_setCell, World.size_drew] at *; omega))) | (with_reducible refine belA ?_ (by first | omega | (simp; done) | (simp; omega) | (simp only [World.size_alloc, World.size_setCell, World.size_drew] at *; omega))) | (with_reducible refine bel_drewN ?_ _) | (with_reducible refine Below.drew ?_) | (with_reducible assumption) | (refine Hid.out ?_; with_reducible assumption) | (apply belV; (with_reducible assumption); exact (by first | omega | (simp; done) | (simp; omega) | (simp only [World.size_alloc, World.size_setCell, World.size_drew] at *; omega)))))) (BU1.out.mono (by omega)))
      have zU1 := BU1.out.size
      have xb1 := XU1.out.1
      obtain ⟨y10, y11, y12⟩ := Box.facts3 XU1.out
      clear hU1 OG1 HB1 XY1
      go_wp2_with fail
      refine (impl_SEt _ _ _ _ _ _ p (s) L v _ (PV.out.i0.below (by (repeat' (first | (with_reducible exact Below.refl _ _) | (with_reducible refine belS ?_ (by first | omega | (simp; done) | (simp; omega) | (simp only [World.size_alloc, World.size_setCell, World.size_drew] at *; omega))) | (with_reducible refine belA ?_ (by first | omega | (simp; done) | (simp; omega) | (simp only [World.size_alloc, World.size_setCell, World.size_drew] at *; omega))) | (with_reducible refine bel_drewN ?_ _) | (with_reducible refine Below.drew ?_) | (with_reducible assumption) | (refine Hid.out ?_; with_reducible assumption) | (apply belV; (with_reducible assumption); exact (by first | omega | (simp; done) | (simp; omega) | (simp only [World.size_alloc, World.size_setCell, World.size_drew] at *; omega))))))) (IS1.out.below (by (repeat' (first | (with_reducible exact Below.refl _ _) | (with_reducible refine belS ?_ (by first | omega | (simp; done) | (simp; omega) | (simp only [World.size_alloc, World.size_setCell, World.size_drew] at *; omega))) | (with_reducible refine belA ?_ (by first | omega | (simp; done) | (simp; omega) | (simp only [World.size_alloc, World.size_setCell, World.size_drew] at *; omega))) | (with_reducible refine bel_drewN ?_ _) | (with_reducible refine Below.drew ?_) | (with_reducible assumption) | (refine Hid.out ?_; with_reducible assumption) | (apply belV; (with_reducible assumption); exact (by first | omega | (simp; done) | (simp; omega) | (simp only [World.size_alloc, World.size_setCell, World.size_drew] at *; omega))))))) (PV.out.rs.below (by (repeat' (first | (with_reducible exact Below.refl _ _) | (with_reducible refine belS ?_ (by first | omega | (simp; done) | (simp; omega) | (simp only [World.size_alloc, World.size_setCell, World.size_drew] at *; omega))) | (with_reducible refine belA ?_ (by first | omega | (simp; done) | (simp; omega) | (simp only [World.size_alloc, World.size_setCell, World.size_drew] at *; omega))) | (with_reducible refine bel_drewN ?_ _) | (with_reducible refine Below.drew ?_) | (with_reducible assumption) | (refine Hid.out ?_; with_reducible assumption) | (apply belV; (with_reducible assumption); exact (by first | omega | (simp; done) | (simp; omega) | (simp only [World.size_alloc, World.size_setCell, World.size_drew] at *; omega))))))) PV.out.2.2.2.1 hN1x PV.out.2.2.2.2.2.1 PV.out.2.2.2.2.2.2.1 hcq1.2 PV.out.2.2.2.2.2.2.2.2 HFS.out.1 HFS.out.2.1).mono ?_
      rintro e wsa ⟨Asa, csa, rfl, ho, hb⟩
      have Gsa : Hid (Below w.heap.size w wsa) := belU hb (by (repeat' (first | (with_reducible exact Below.refl _ _) | (with_reducible refine belS ?_ (by first | omega | (simp; done) | (simp; omega) | (simp only [World.size_alloc, World.size_setCell, World.size_drew] at *; omega))) | (with_reducible refine belA ?_ (by first | omega | (simp; done) | (simp; omega) | (simp only [World.size_alloc, World.size_setCell, World.size_drew] at *; omega))) | (with_reducible refine bel_drewN ?_ _) | (with_reducible refine Below.drew ?_) | (with_reducible assumption) | (refine Hid.out ?_; with_reducible assumption) | (apply belV; (with_reducible assumption); exact (by first | omega | (simp; done) | (simp; omega) | (simp only [World.size_alloc, World.size_setCell, World.size_drew] at *; omega)))))) (by first | omega | (simp; done) | (simp; omega) | (simp only [World.size_alloc, World.size_setCell, World.size_drew] at *; omega))
      have Wsa := Lib.hid ho; clear ho
      have X_sa : Hid (Box wsa (wdr.heap.size) #[.slice A0 p.costs.length d0, .slice (some ⟨g1, 0, none⟩) p.uppers.length d1, .slice A2 p.rows.length d2]) := Lib.hid (Box.below (by (repeat' (first | (with_reducible exact Box.new _ _ _ (by first | omega | (simp; done) | (simp; omega) | (simp only [World.size_alloc, World.size_setCell, World.size_drew] at *; omega))) | (with_reducible refine Box.far ?_ (by first | omega | (simp; done) | (simp; omega) | (simp only [World.size_alloc, World.size_setCell, World.size_drew] at *; omega)) _) | (apply Box.put3_0) | (apply Box.put3_1) | (apply Box.put3_2) | (apply Box.put2_0) | (apply Box.put2_1) | (with_reducible refine Box.alloc ?_ _) | (with_reducible refine Box.drewN ?_ _) | (with_reducible refine Box.drew ?_) | (with_reducible assumption) | (refine Hid.out ?_; with_reducible assumption) | (apply Box.only; (with_reducible assumption); exact (by first | omega | (simp; done) | (simp; omega) | (simp only [World.size_alloc, World.size_setCell, World.size_drew] at *; omega))) | (apply Box.belowD; (with_reducible assumption))))) hb)
      have yX_sa : wdr.heap.size < wsa.heap.size := X_sa.out.1
      obtain ⟨X_sac0, X_sac1, X_sac2⟩ := Box.facts3 X_sa.out
      have zsa := hb.size
      (try simp at zsa)
      have Dsa := Lib.hid hb; clear hb
      have IU2 : Hid (Ints wsa (some ⟨g1, 0, none⟩) p.uppers.length p.uppers) := Lib.hid (IU.out.below (by (repeat' (first | (with_reducible exact Below.refl _ _) | (with_reducible refine belS ?_ (by first | omega | (simp; done) | (simp; omega) | (simp only [World.size_alloc, World.size_setCell, World.size_drew] at *; omega))) | (with_reducible refine belA ?_ (by first | omega | (simp; done) | (simp; omega) | (simp only [World.size_alloc, World.size_setCell, World.size_drew] at *; omega))) | (with_reducible refine bel_drewN ?_ _) | (with_reducible refine Below.drew ?_) | (with_reducible assumption) | (refine Hid.out ?_; with_reducible assumption) | (apply belV; (with_reducible assumption); exact (by first | omega | (simp; done) | (simp; omega) | (simp only [World.size_alloc, World.size_setCell, World.size_drew] at *; omega)))))))
      have HX2 : Hid (Box wsa wdr.heap.size #[.slice A0 p.costs.length d0, .slice (some ⟨g1, 0, none⟩) p.uppers.length d1, .slice A2 p.rows.length d2]) := Lib.hid (by (repeat' (first | (with_reducible exact Box.new _ _ _ (by first | omega | (simp; done) | (simp; omega) | (simp only [World.size_alloc, World.size_setCell, World.size_drew] at *; omega))) | (with_reducible refine Box.far ?_ (by first | omega | (simp; done) | (simp; omega) | (simp only [World.size_alloc, World.size_setCell, World.size_drew] at *; omega)) _) | (apply Box.put3_0) | (apply Box.put3_1) | (apply Box.put3_2) | (apply Box.put2_0) | (apply Box.put2_1) | (with_reducible refine Box.alloc ?_ _) | (with_reducible refine Box.drewN ?_ _) | (with_reducible refine Box.drew ?_) | (with_reducible assumption) | (refine Hid.out ?_; with_reducible assumption) | (apply Box.only; (with_reducible assumption); exact (by first | omega | (simp; done) | (simp; omega) | (simp only [World.size_alloc, World.size_setCell, World.size_drew] at *; omega))) | (apply Box.belowD; (with_reducible assumption)))))
      have HO2 : Hid (OwnI wsa gl L) := Lib.hid (by (repeat' (first | (with_reducible exact OwnI.madeAt _ _ _ (by first | omega | (simp; done) | (simp; omega) | (simp only [World.size_alloc, World.size_setCell, World.size_drew] at *; omega))) | (with_reducible refine OwnI.far ?_ (by first | omega | (simp; done) | (simp; omega) | (simp only [World.size_alloc, World.size_setCell, World.size_drew] at *; omega)) _) | (with_reducible refine OwnI.alloc ?_ _) | (with_reducible refine OwnI.drewN ?_ _) | (with_reducible refine OwnI.drew ?_) | (with_reducible assumption) | (refine Hid.out ?_; with_reducible assumption) | (apply OwnI.turn; (with_reducible assumption); exact (by first | omega | (simp; done) | (simp; omega) | (simp only [World.size_alloc, World.size_setCell, World.size_drew] at *; omega))) | (apply OwnI.only; (with_reducible assumption); exact (by first | omega | (simp; done) | (simp; omega) | (simp only [World.size_alloc, World.size_setCell, World.size_drew] at *; omega))) | (apply OwnI.belowD; (with_reducible assumption)))))
      go_wp2_with (
        at_builtin
        refine wpList_copy wsa rfl (.tmp 69) (.tmp 71) rfl rfl rfl IU2.out (by omega) ?_
        intro q2 cq2 v2 hq2 og hcq2 hb2
        have hqc2 := (og.2 0 u0 HU0.out).1
        have hqf2 := (og.2 0 u0 HU0.out).2
        have hql2 := og.1
        have hsz2 := hb2.size
        have hgl2 := HO2.out.1
        have hLc2 : v2.cell? ⟨gl, 0, none⟩ = some (.int .i64 s) := (hb2.cell (p := ⟨gl, 0, none⟩) hgl2).trans (HO2.out.2 0 s HS0.out).1
        have XX2 := HX2.out.below hb2
        obtain ⟨xx20, xx21, xx22⟩ := Box.facts3 XX2
        have zz2 := XX2.1
        have hd2 : ¬ gl = q2 := by omega
        have hd2' : ¬ q2 = gl := by omega
        have he2 : ¬ wdr.heap.size = q2 := by have := HX2.out.1; omega
        have he2' : ¬ q2 = wdr.heap.size := fun h => he2 h.symm
        have hN2x := hcq2.1
        have OG2 := Lib.hid og
        have HB2 := Lib.hid hb2
        have XY2 := Lib.hid XX2
        clear og hb2 XX2)
      obtain ⟨U2, hU2⟩ : ∃ U, v2.setCell ⟨q2, 0, none⟩ (.int .i64 (s - 1)) = U := ⟨_, rfl⟩
      rw [hU2]
      have OS2 : Hid (OwnI U2 q2 (p.uppers.set 0 (s - 1))) := Lib.hid (by rw [← hU2]; exact OG2.out.set_ HU0.out _)
      have BU2 : Hid (Below wsa.heap.size wsa U2) := Lib.hid (by rw [← hU2]; exact belS HB2.out hq2)
      have XU2 : Hid (Box U2 wdr.heap.size #[.slice A0 p.costs.length d0, .slice (some ⟨g1, 0, none⟩) p.uppers.length d1, .slice A2 p.rows.length d2]) := Lib.hid (HX2.out.below BU2.out)
      have HP2' : Hid (OwnI U2 gl L) := Lib.hid (HO2.out.below BU2.out)
      have IS2 : Hid (Ints U2 (some ⟨q2, 0, none⟩) p.uppers.length (p.uppers.set 0 (s - 1))) := Lib.hid (by
        have := OS2.out.ints (fun y hy => (List.mem_or_eq_of_mem_set hy).elim (fun h => by have := hub'.out y h; exact ⟨by omega, by omega⟩) (fun e => by subst e; exact ⟨by omega, by omega⟩))
        rwa [List.length_set] at this)
      have GU2 : Hid (Below w.heap.size w U2) := Lib.hid (belU BU2.out (by (repeat' (first | (with_reducible exact Below.refl _ _) | (with_reducible refine belS ?_ (by first | omega | (simp; done) | (simp; omega) | (simp only [World.size_alloc, World.size_setCell, World.size_drew] at *; omega))) | (with_reducible refine belA ?_ (by first | omega | (simp; done) | (simp; omega) | (simp only [World.size_alloc, World.size_setCell, World.size_drew] at *; omega))) | (with_reducible refine bel_drewN ?_ _) | (with_reducible refine Below.drew ?_) | (with_reducible assumption) | (refine Hid.out ?_; with_reducible assumption) | (apply belV; (with_reducible assumption); exact (by first | omega | (simp; done) | (simp; omega) | (simp only [World.size_alloc, World.size_setCell, World.size_drew] at *; omega)))))) (by omega))
      have DU2 : Hid (Below wdr.heap.size wdr U2) := Lib.hid (Below.trans (b := wsa) (by (repeat' (first | (with_reducible exact Below.refl _ _) | (with_reducible refine belS ?_ (by first | omega | (simp; done) | (simp; omega) | (simp only [World.size_alloc, World.size_setCell, World.size_drew] at *; omega))) | (with_reducible refine belA ?_ (by first | omega | (simp; done) | (simp; omega) | (simp only [World.size_alloc, World.size_setCell, World.size_drew] at *; omega))) | (with_reducible refine bel_drewN ?_ _) | (with_reducible refine Below.drew ?_) | (with_reducible assumption) | (refine Hid.out ?_; with_reducible assumption) | (apply belV; (with_reducible assumption); exact (by first | omega | (simp; done) | (simp; omega) | (simp only [World.size_alloc, World.size_setCell, World.size_drew] at *; omega)))))) (BU2.out.mono (by omega)))
      have zU2 := BU2.out.size
      have xb2 := XU2.out.1
      obtain ⟨y20, y21, y22⟩ := Box.facts3 XU2.out
      clear hU2 OG2 HB2 XY2
      go_wp2_with fail
      refine (impl_SEt _ _ _ _ _ _ p (s - 1) _ vm _ (PV.out.i0.below (by (repeat' (first | (with_reducible exact Below.refl _ _) | (with_reducible refine belS ?_ (by first | omega | (simp; done) | (simp; omega) | (simp only [World.size_alloc, World.size_setCell, World.size_drew] at *; omega))) | (with_reducible refine belA ?_ (by first | omega | (simp; done) | (simp; omega) | (simp only [World.size_alloc, World.size_setCell, World.size_drew] at *; omega))) | (with_reducible refine bel_drewN ?_ _) | (with_reducible refine Below.drew ?_) | (with_reducible assumption) | (refine Hid.out ?_; with_reducible assumption) | (apply belV; (with_reducible assumption); exact (by first | omega | (simp; done) | (simp; omega) | (simp only [World.size_alloc, World.size_setCell, World.size_drew] at *; omega))))))) (IS2.out.below (by (repeat' (first | (with_reducible exact Below.refl _ _) | (with_reducible refine belS ?_ (by first | omega | (simp; done) | (simp; omega) | (simp only [World.size_alloc, World.size_setCell, World.size_drew] at *; omega))) | (with_reducible refine belA ?_ (by first | omega | (simp; done) | (simp; omega) | (simp only [World.size_alloc, World.size_setCell, World.size_drew] at *; omega))) | (with_reducible refine bel_drewN ?_ _) | (with_reducible refine Below.drew ?_) | (with_reducible assumption) | (refine Hid.out ?_; with_reducible assumption) | (apply belV; (with_reducible assumption); exact (by first | omega | (simp; done) | (simp; omega) | (simp only [World.size_alloc, World.size_setCell, World.size_drew] at *; omega))))))) (PV.out.rs.below (by (repeat' (first | (with_reducible exact Below.refl _ _) | (with_reducible refine belS ?_ (by first | omega | (simp; done) | (simp; omega) | (simp only [World.size_alloc, World.size_setCell, World.size_drew] at *; omega))) | (with_reducible refine belA ?_ (by first | omega | (simp; done) | (simp; omega) | (simp only [World.size_alloc, World.size_setCell, World.size_drew] at *; omega))) | (with_reducible refine bel_drewN ?_ _) | (with_reducible refine Below.drew ?_) | (with_reducible assumption) | (refine Hid.out ?_; with_reducible assumption) | (apply belV; (with_reducible assumption); exact (by first | omega | (simp; done) | (simp; omega) | (simp only [World.size_alloc, World.size_setCell, World.size_drew] at *; omega))))))) PV.out.2.2.2.1 hN2x PV.out.2.2.2.2.2.1 PV.out.2.2.2.2.2.2.1 hcq2.2 PV.out.2.2.2.2.2.2.2.2 rfl HV2.out).mono ?_
      rintro e wsb ⟨Asb, csb, rfl, ho, hb⟩
      have Gsb : Hid (Below w.heap.size w wsb) := belU hb (by (repeat' (first | (with_reducible exact Below.refl _ _) | (with_reducible refine belS ?_ (by first | omega | (simp; done) | (simp; omega) | (simp only [World.size_alloc, World.size_setCell, World.size_drew] at *; omega))) | (with_reducible refine belA ?_ (by first | omega | (simp; done) | (simp; omega) | (simp only [World.size_alloc, World.size_setCell, World.size_drew] at *; omega))) | (with_reducible refine bel_drewN ?_ _) | (with_reducible refine Below.drew ?_) | (with_reducible assumption) | (refine Hid.out ?_; with_reducible assumption) | (apply belV; (with_reducible assumption); exact (by first | omega | (simp; done) | (simp; omega) | (simp only [World.size_alloc, World.size_setCell, World.size_drew] at *; omega)))))) (by first | omega | (simp; done) | (simp; omega) | (simp only [World.size_alloc, World.size_setCell, World.size_drew] at *; omega))
      have Wsb := Lib.hid ho; clear ho
      have zsb := hb.size
      (try simp at zsb)
      have Dsb := Lib.hid hb; clear hb
      go_wp2_with fail
      refine (laws_equalInts _ _ _ _ _ L _ (OwnS.ints (Wsa.out.below (by (repeat' (first | (with_reducible exact Below.refl _ _) | (with_reducible refine belS ?_ (by first | omega | (simp; done) | (simp; omega) | (simp only [World.size_alloc, World.size_setCell, World.size_drew] at *; omega))) | (with_reducible refine belA ?_ (by first | omega | (simp; done) | (simp; omega) | (simp only [World.size_alloc, World.size_setCell, World.size_drew] at *; omega))) | (with_reducible refine bel_drewN ?_ _) | (with_reducible refine Below.drew ?_) | (with_reducible assumption) | (refine Hid.out ?_; with_reducible assumption) | (apply belV; (with_reducible assumption); exact (by first | omega | (simp; done) | (simp; omega) | (simp only [World.size_alloc, World.size_setCell, World.size_drew] at *; omega)))))))) ((HP2'.out.below (by (repeat' (first | (with_reducible exact Below.refl _ _) | (with_reducible refine belS ?_ (by first | omega | (simp; done) | (simp; omega) | (simp only [World.size_alloc, World.size_setCell, World.size_drew] at *; omega))) | (with_reducible refine belA ?_ (by first | omega | (simp; done) | (simp; omega) | (simp only [World.size_alloc, World.size_setCell, World.size_drew] at *; omega))) | (with_reducible refine bel_drewN ?_ _) | (with_reducible refine Below.drew ?_) | (with_reducible assumption) | (refine Hid.out ?_; with_reducible assumption) | (apply belV; (with_reducible assumption); exact (by first | omega | (simp; done) | (simp; omega) | (simp only [World.size_alloc, World.size_setCell, World.size_drew] at *; omega))))))).ints HLb.out) hsm).mono ?_
      rintro e we9 ⟨rfl, hb⟩
      have Ge9 : Hid (Below w.heap.size w we9) := belU hb (by (repeat' (first | (with_reducible exact Below.refl _ _) | (with_reducible refine belS ?_ (by first | omega | (simp; done) | (simp; omega) | (simp only [World.size_alloc, World.size_setCell, World.size_drew] at *; omega))) | (with_reducible refine belA ?_ (by first | omega | (simp; done) | (simp; omega) | (simp only [World.size_alloc, World.size_setCell, World.size_drew] at *; omega))) | (with_reducible refine bel_drewN ?_ _) | (with_reducible refine Below.drew ?_) | (with_reducible assumption) | (refine Hid.out ?_; with_reducible assumption) | (apply belV; (with_reducible assumption); exact (by first | omega | (simp; done) | (simp; omega) | (simp only [World.size_alloc, World.size_setCell, World.size_drew] at *; omega)))))) (by first | omega | (simp; done) | (simp; omega) | (simp only [World.size_alloc, World.size_setCell, World.size_drew] at *; omega))
      have ze9 := hb.size
      (try simp at ze9)
      have De9 := Lib.hid hb; clear hb
      have hvv2 : (v == v) = true := by simp
      rcases HFS.out.2.2 with hm | hm
      · go_wp2_with fail
        go_ret
        exact ⟨by simp, by (repeat' (first | (with_reducible exact Below.refl _ _) | (with_reducible refine belS ?_ (by first | omega | (simp; done) | (simp; omega) | (simp only [World.size_alloc, World.size_setCell, World.size_drew] at *; omega))) | (with_reducible refine belA ?_ (by first | omega | (simp; done) | (simp; omega) | (simp only [World.size_alloc, World.size_setCell, World.size_drew] at *; omega))) | (with_reducible refine bel_drewN ?_ _) | (with_reducible refine Below.drew ?_) | (with_reducible assumption) | (refine Hid.out ?_; with_reducible assumption) | (apply belV; (with_reducible assumption); exact (by first | omega | (simp; done) | (simp; omega) | (simp only [World.size_alloc, World.size_setCell, World.size_drew] at *; omega)))))⟩
      · have hm2 : (decide (vm < 0) || decide (v < vm)) = true := by simp [hm]
        go_wp2_with fail
        go_ret
        exact ⟨by simp [hm], by (repeat' (first | (with_reducible exact Below.refl _ _) | (with_reducible refine belS ?_ (by first | omega | (simp; done) | (simp; omega) | (simp only [World.size_alloc, World.size_setCell, World.size_drew] at *; omega))) | (with_reducible refine belA ?_ (by first | omega | (simp; done) | (simp; omega) | (simp only [World.size_alloc, World.size_setCell, World.size_drew] at *; omega))) | (with_reducible refine bel_drewN ?_ _) | (with_reducible refine Below.drew ?_) | (with_reducible assumption) | (refine Hid.out ?_; with_reducible assumption) | (apply belV; (with_reducible assumption); exact (by first | omega | (simp; done) | (simp; omega) | (simp only [World.size_alloc, World.size_setCell, World.size_drew] at *; omega)))))⟩
end Go.Proofs.Ytangfmmjpomlgaa
