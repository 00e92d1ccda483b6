
/-
  The walk of the law that fewer rows are not dearer.
-/
import Derived.Test.YtangfmmjpomlgaaNp
import Derived.Test.YtangfmmjpomlgaaNl
import Derived.Test.YtangfmmjpomlgaaPh
import Derived.Test.YtangfmmjpomlgaaDa
set_option linter.unusedSimpArgs false
set_option linter.unusedVariables false
namespace Go.Proofs.Ytangfmmjpomlgaa
open Go.RowKit

theorem spec_SEv (A0 A1 A2 : Option Addr) (c0 c1 c2 : Nat) (p : PProb) (L : List Int) (v : Int) (w : World) (hp : ProbV w A0 A1 A2 c0 c1 c2 p) (hL : solL p = L) (hv : solC p = v) :
    Calls Try.prog 11 #[.agg #[.slice A0 p.costs.length c0, .slice A1 p.uppers.length c1, .slice A2 p.rows.length c2]] w (PairJ L v w) := by
  subst hL hv; exact spec_SolveExact A0 A1 A2 c0 c1 c2 p w hp

set_option maxHeartbeats 8000000 in
set_option maxRecDepth 100000 in
theorem FnSolveExactRows_walk (a : Option Addr) (len cap : Nat) (w : World) (h : By w.heap.size w a len cap) :
    Calls Try.prog 4 #[.slice a len cap] w fun e w' => e = .returned (.bool true) ∧ Below w.heap.size w w' := by
  have hl := h.1
  have hl2 := h.2.1
  unfold maxLen at hl2
  have H := Lib.hid h; clear h
  by_cases hbig : 1048576 < len
  · go_enter Try.func4, Try.ntmps4
    go_wp2_with fail
    go_ret
    exact ⟨rfl, Below.refl _ _⟩
  · go_enter Try.func4, Try.ntmps4
    go_wp2_with fail
    refine (DrawSolveExact_p _ _ _ _ H.out).mono ?_
    rintro e wdr ⟨A0, A1, A2, d0, d1, d2, p, rfl, hpv, h1000, hb⟩
    have Gdr : Hid (Below w.heap.size w wdr) := belU hb (by (repeat' (first | (with_reducible exact Below.refl _ _) | (with_reducible refine belS ?_ (by first | omega | (simp; done) | (simp; omega) | (simp only [World.size_alloc, World.size_setCell, World.size_drew] at *; omega))) | (with_reducible refine belA ?_ (by first | omega | (simp; done) | (simp; omega) | (simp only [World.size_alloc, World.size_setCell, World.size_drew] at *; omega))) | (with_reducible refine bel_drewN ?_ _) | (with_reducible refine Below.drew ?_) | (with_reducible assumption) | (refine Hid.out ?_; with_reducible assumption) | (apply belV; (with_reducible assumption); exact (by first | omega | (simp; done) | (simp; omega) | (simp only [World.size_alloc, World.size_setCell, World.size_drew] at *; omega)))))) (by first | omega | (simp; done) | (simp; omega) | (simp only [World.size_alloc, World.size_setCell, World.size_drew] at *; omega))
    have PV := Lib.hid hpv; clear hpv
    have H1000 := Lib.hid h1000; clear h1000
    have zdr := hb.size
    (try simp at zdr)
    have Ddr := Lib.hid hb; clear hb
    obtain ⟨L, hL⟩ : ∃ L, solL p = L := ⟨_, rfl⟩
    obtain ⟨v, hv⟩ : ∃ v, solC p = v := ⟨_, rfl⟩
    have HL := Lib.hid hL
    have HC := Lib.hid hv
    have hvb := Lib.hid (solC_lo (p := p))
    rw [hv] at hvb
    clear hL hv
    have hvb := hvb.out
    have hvv : (v != v) = false := by simp
    go_wp2_with fail
    refine (impl_SE _ _ _ _ _ _ p L v _ (PV.out.below (by (repeat' (first | (with_reducible exact Below.refl _ _) | (with_reducible refine belS ?_ (by first | omega | (simp; done) | (simp; omega) | (simp only [World.size_alloc, World.size_setCell, World.size_drew] at *; omega))) | (with_reducible refine belA ?_ (by first | omega | (simp; done) | (simp; omega) | (simp only [World.size_alloc, World.size_setCell, World.size_drew] at *; omega))) | (with_reducible refine bel_drewN ?_ _) | (with_reducible refine Below.drew ?_) | (with_reducible assumption) | (refine Hid.out ?_; with_reducible assumption) | (apply belV; (with_reducible assumption); exact (by first | omega | (simp; done) | (simp; omega) | (simp only [World.size_alloc, World.size_setCell, World.size_drew] at *; omega))))))) HL.out HC.out).mono ?_
    rintro e wim ⟨A1', c1', rfl, ho, hb⟩
    have Gim : Hid (Below w.heap.size w wim) := belU hb (by (repeat' (first | (with_reducible exact Below.refl _ _) | (with_reducible refine belS ?_ (by first | omega | (simp; done) | (simp; omega) | (simp only [World.size_alloc, World.size_setCell, World.size_drew] at *; omega))) | (with_reducible refine belA ?_ (by first | omega | (simp; done) | (simp; omega) | (simp only [World.size_alloc, World.size_setCell, World.size_drew] at *; omega))) | (with_reducible refine bel_drewN ?_ _) | (with_reducible refine Below.drew ?_) | (with_reducible assumption) | (refine Hid.out ?_; with_reducible assumption) | (apply belV; (with_reducible assumption); exact (by first | omega | (simp; done) | (simp; omega) | (simp only [World.size_alloc, World.size_setCell, World.size_drew] at *; omega)))))) (by first | omega | (simp; done) | (simp; omega) | (simp only [World.size_alloc, World.size_setCell, World.size_drew] at *; omega))
    (try simp only [World.size_alloc, World.size_setCell, World.size_drew, World.heap_drewN] at ho)
    have W1 := Lib.hid ho; clear ho
    have X_im : Hid (Box wim (wdr.heap.size) #[.slice A0 p.costs.length d0, .slice A1 p.uppers.length d1, .slice A2 p.rows.length d2]) := Lib.hid (Box.below (by (repeat' (first | (with_reducible exact Box.new _ _ _ (by first | omega | (simp; done) | (simp; omega) | (simp only [World.size_alloc, World.size_setCell, World.size_drew] at *; omega))) | (with_reducible refine Box.far ?_ (by first | omega | (simp; done) | (simp; omega) | (simp only [World.size_alloc, World.size_setCell, World.size_drew] at *; omega)) _) | (apply Box.put3_0) | (apply Box.put3_1) | (apply Box.put3_2) | (apply Box.put2_0) | (apply Box.put2_1) | (with_reducible refine Box.alloc ?_ _) | (with_reducible refine Box.drewN ?_ _) | (with_reducible refine Box.drew ?_) | (with_reducible assumption) | (refine Hid.out ?_; with_reducible assumption) | (apply Box.only; (with_reducible assumption); exact (by first | omega | (simp; done) | (simp; omega) | (simp only [World.size_alloc, World.size_setCell, World.size_drew] at *; omega))) | (apply Box.belowD; (with_reducible assumption))))) hb)
    have yX_im : wdr.heap.size < wim.heap.size := X_im.out.1
    obtain ⟨X_imc0, X_imc1, X_imc2⟩ := Box.facts3 X_im.out
    have zim := hb.size
    (try simp at zim)
    have Dim := Lib.hid hb; clear hb
    go_wp2_with fail
    refine (spec_SEv _ _ _ _ _ _ p L v _ (PV.out.below (by (repeat' (first | (with_reducible exact Below.refl _ _) | (with_reducible refine belS ?_ (by first | omega | (simp; done) | (simp; omega) | (simp only [World.size_alloc, World.size_setCell, World.size_drew] at *; omega))) | (with_reducible refine belA ?_ (by first | omega | (simp; done) | (simp; omega) | (simp only [World.size_alloc, World.size_setCell, World.size_drew] at *; omega))) | (with_reducible refine bel_drewN ?_ _) | (with_reducible refine Below.drew ?_) | (with_reducible assumption) | (refine Hid.out ?_; with_reducible assumption) | (apply belV; (with_reducible assumption); exact (by first | omega | (simp; done) | (simp; omega) | (simp only [World.size_alloc, World.size_setCell, World.size_drew] at *; omega))))))) HL.out HC.out).mono ?_
    rintro e wsp ⟨A2', c2', rfl, ho, hb⟩
    have Gsp : Hid (Below w.heap.size w wsp) := belU hb (by (repeat' (first | (with_reducible exact Below.refl _ _) | (with_reducible refine belS ?_ (by first | omega | (simp; done) | (simp; omega) | (simp only [World.size_alloc, World.size_setCell, World.size_drew] at *; omega))) | (with_reducible refine belA ?_ (by first | omega | (simp; done) | (simp; omega) | (simp only [World.size_alloc, World.size_setCell, World.size_drew] at *; omega))) | (with_reducible refine bel_drewN ?_ _) | (with_reducible refine Below.drew ?_) | (with_reducible assumption) | (refine Hid.out ?_; with_reducible assumption) | (apply belV; (with_reducible assumption); exact (by first | omega | (simp; done) | (simp; omega) | (simp only [World.size_alloc, World.size_setCell, World.size_drew] at *; omega)))))) (by first | omega | (simp; done) | (simp; omega) | (simp only [World.size_alloc, World.size_setCell, World.size_drew] at *; omega))
    (try simp only [World.size_alloc, World.size_setCell, World.size_drew, World.heap_drewN] at ho)
    have W2 := Lib.hid ho; clear ho
    have X_sp : Hid (Box wsp (wdr.heap.size) #[.slice A0 p.costs.length d0, .slice A1 p.uppers.length d1, .slice A2 p.rows.length d2]) := Lib.hid (Box.below (by (repeat' (first | (with_reducible exact Box.new _ _ _ (by first | omega | (simp; done) | (simp; omega) | (simp only [World.size_alloc, World.size_setCell, World.size_drew] at *; omega))) | (with_reducible refine Box.far ?_ (by first | omega | (simp; done) | (simp; omega) | (simp only [World.size_alloc, World.size_setCell, World.size_drew] at *; omega)) _) | (apply Box.put3_0) | (apply Box.put3_1) | (apply Box.put3_2) | (apply Box.put2_0) | (apply Box.put2_1) | (with_reducible refine Box.alloc ?_ _) | (with_reducible refine Box.drewN ?_ _) | (with_reducible refine Box.drew ?_) | (with_reducible assumption) | (refine Hid.out ?_; with_reducible assumption) | (apply Box.only; (with_reducible assumption); exact (by first | omega | (simp; done) | (simp; omega) | (simp only [World.size_alloc, World.size_setCell, World.size_drew] at *; omega))) | (apply Box.belowD; (with_reducible assumption))))) hb)
    have yX_sp : wdr.heap.size < wsp.heap.size := X_sp.out.1
    obtain ⟨X_spc0, X_spc1, X_spc2⟩ := Box.facts3 X_sp.out
    have zsp := hb.size
    (try simp at zsp)
    have Dsp := Lib.hid hb; clear hb
    have hsm := W1.out.small
    go_wp2_with fail
    refine (laws_equalInts _ _ _ _ _ L _ (OwnS.ints (OwnS.by_ W1 (by (repeat' (first | (with_reducible exact OwnS.madeAt _ _ _ (by first | omega | (simp; done) | (simp; omega) | (simp only [World.size_alloc, World.size_setCell, World.size_drew] at *; omega))) | (with_reducible refine OwnS.far ?_ (by first | omega | (simp; done) | (simp; omega) | (simp only [World.size_alloc, World.size_setCell, World.size_drew] at *; omega)) _) | (with_reducible refine OwnS.alloc ?_ _) | (with_reducible refine OwnS.drewN ?_ _) | (with_reducible refine OwnS.drew ?_) | (with_reducible assumption) | (refine Hid.out ?_; with_reducible assumption) | (apply OwnS.turn; (with_reducible assumption); exact (by first | omega | (simp; done) | (simp; omega) | (simp only [World.size_alloc, World.size_setCell, World.size_drew] at *; omega))) | (apply OwnS.only; (with_reducible assumption); exact (by first | omega | (simp; done) | (simp; omega) | (simp only [World.size_alloc, World.size_setCell, World.size_drew] at *; omega))) | (apply OwnS.belowD; (with_reducible assumption))))))) (OwnS.ints (OwnS.by_ W2 (by (repeat' (first | (with_reducible exact OwnS.madeAt _ _ _ (by first | omega | (simp; done) | (simp; omega) | (simp only [World.size_alloc, World.size_setCell, World.size_drew] at *; omega))) | (with_reducible refine OwnS.far ?_ (by first | omega | (simp; done) | (simp; omega) | (simp only [World.size_alloc, World.size_setCell, World.size_drew] at *; omega)) _) | (with_reducible refine OwnS.alloc ?_ _) | (with_reducible refine OwnS.drewN ?_ _) | (with_reducible refine OwnS.drew ?_) | (with_reducible assumption) | (refine Hid.out ?_; with_reducible assumption) | (apply OwnS.turn; (with_reducible assumption); exact (by first | omega | (simp; done) | (simp; omega) | (simp only [World.size_alloc, World.size_setCell, World.size_drew] at *; omega))) | (apply OwnS.only; (with_reducible assumption); exact (by first | omega | (simp; done) | (simp; omega) | (simp only [World.size_alloc, World.size_setCell, World.size_drew] at *; omega))) | (apply OwnS.belowD; (with_reducible assumption))))))) hsm).mono ?_
    rintro e we1 ⟨rfl, hb⟩
    have Ge1 : Hid (Below w.heap.size w we1) := belU hb (by (repeat' (first | (with_reducible exact Below.refl _ _) | (with_reducible refine belS ?_ (by first | omega | (simp; done) | (simp; omega) | (simp only [World.size_alloc, World.size_setCell, World.size_drew] at *; omega))) | (with_reducible refine belA ?_ (by first | omega | (simp; done) | (simp; omega) | (simp only [World.size_alloc, World.size_setCell, World.size_drew] at *; omega))) | (with_reducible refine bel_drewN ?_ _) | (with_reducible refine Below.drew ?_) | (with_reducible assumption) | (refine Hid.out ?_; with_reducible assumption) | (apply belV; (with_reducible assumption); exact (by first | omega | (simp; done) | (simp; omega) | (simp only [World.size_alloc, World.size_setCell, World.size_drew] at *; omega)))))) (by first | omega | (simp; done) | (simp; omega) | (simp only [World.size_alloc, World.size_setCell, World.size_drew] at *; omega))
    have X_e1 : Hid (Box we1 (wdr.heap.size) #[.slice A0 p.costs.length d0, .slice A1 p.uppers.length d1, .slice A2 p.rows.length d2]) := Lib.hid (Box.below (by (repeat' (first | (with_reducible exact Box.new _ _ _ (by first | omega | (simp; done) | (simp; omega) | (simp only [World.size_alloc, World.size_setCell, World.size_drew] at *; omega))) | (with_reducible refine Box.far ?_ (by first | omega | (simp; done) | (simp; omega) | (simp only [World.size_alloc, World.size_setCell, World.size_drew] at *; omega)) _) | (apply Box.put3_0) | (apply Box.put3_1) | (apply Box.put3_2) | (apply Box.put2_0) | (apply Box.put2_1) | (with_reducible refine Box.alloc ?_ _) | (with_reducible refine Box.drewN ?_ _) | (with_reducible refine Box.drew ?_) | (with_reducible assumption) | (refine Hid.out ?_; with_reducible assumption) | (apply Box.only; (with_reducible assumption); exact (by first | omega | (simp; done) | (simp; omega) | (simp only [World.size_alloc, World.size_setCell, World.size_drew] at *; omega))) | (apply Box.belowD; (with_reducible assumption))))) hb)
    have yX_e1 : wdr.heap.size < we1.heap.size := X_e1.out.1
    obtain ⟨X_e1c0, X_e1c1, X_e1c2⟩ := Box.facts3 X_e1.out
    have ze1 := hb.size
    (try simp at ze1)
    have De1 := Lib.hid hb; clear hb
    by_cases hneg : v < 0
    · go_wp2_with fail
      refine (laws_equalInts _ _ _ _ _ L _ (OwnS.ints (OwnS.by_ W1 (by (repeat' (first | (with_reducible exact OwnS.madeAt _ _ _ (by first | omega | (simp; done) | (simp; omega) | (simp only [World.size_alloc, World.size_setCell, World.size_drew] at *; omega))) | (with_reducible refine OwnS.far ?_ (by first | omega | (simp; done) | (simp; omega) | (simp only [World.size_alloc, World.size_setCell, World.size_drew] at *; omega)) _) | (with_reducible refine OwnS.alloc ?_ _) | (with_reducible refine OwnS.drewN ?_ _) | (with_reducible refine OwnS.drew ?_) | (with_reducible assumption) | (refine Hid.out ?_; with_reducible assumption) | (apply OwnS.turn; (with_reducible assumption); exact (by first | omega | (simp; done) | (simp; omega) | (simp only [World.size_alloc, World.size_setCell, World.size_drew] at *; omega))) | (apply OwnS.only; (with_reducible assumption); exact (by first | omega | (simp; done) | (simp; omega) | (simp only [World.size_alloc, World.size_setCell, World.size_drew] at *; omega))) | (apply OwnS.belowD; (with_reducible assumption))))))) (OwnS.ints (OwnS.by_ W2 (by (repeat' (first | (with_reducible exact OwnS.madeAt _ _ _ (by first | omega | (simp; done) | (simp; omega) | (simp only [World.size_alloc, World.size_setCell, World.size_drew] at *; omega))) | (with_reducible refine OwnS.far ?_ (by first | omega | (simp; done) | (simp; omega) | (simp only [World.size_alloc, World.size_setCell, World.size_drew] at *; omega)) _) | (with_reducible refine OwnS.alloc ?_ _) | (with_reducible refine OwnS.drewN ?_ _) | (with_reducible refine OwnS.drew ?_) | (with_reducible assumption) | (refine Hid.out ?_; with_reducible assumption) | (apply OwnS.turn; (with_reducible assumption); exact (by first | omega | (simp; done) | (simp; omega) | (simp only [World.size_alloc, World.size_setCell, World.size_drew] at *; omega))) | (apply OwnS.only; (with_reducible assumption); exact (by first | omega | (simp; done) | (simp; omega) | (simp only [World.size_alloc, World.size_setCell, World.size_drew] at *; omega))) | (apply OwnS.belowD; (with_reducible assumption))))))) hsm).mono ?_
      rintro e we2 ⟨rfl, hb⟩
      have Ge2 : Hid (Below w.heap.size w we2) := belU hb (by (repeat' (first | (with_reducible exact Below.refl _ _) | (with_reducible refine belS ?_ (by first | omega | (simp; done) | (simp; omega) | (simp only [World.size_alloc, World.size_setCell, World.size_drew] at *; omega))) | (with_reducible refine belA ?_ (by first | omega | (simp; done) | (simp; omega) | (simp only [World.size_alloc, World.size_setCell, World.size_drew] at *; omega))) | (with_reducible refine bel_drewN ?_ _) | (with_reducible refine Below.drew ?_) | (with_reducible assumption) | (refine Hid.out ?_; with_reducible assumption) | (apply belV; (with_reducible assumption); exact (by first | omega | (simp; done) | (simp; omega) | (simp only [World.size_alloc, World.size_setCell, World.size_drew] at *; omega)))))) (by first | omega | (simp; done) | (simp; omega) | (simp only [World.size_alloc, World.size_setCell, World.size_drew] at *; omega))
      have X_e2 : Hid (Box we2 (wdr.heap.size) #[.slice A0 p.costs.length d0, .slice A1 p.uppers.length d1, .slice A2 p.rows.length d2]) := Lib.hid (Box.below (by (repeat' (first | (with_reducible exact Box.new _ _ _ (by first | omega | (simp; done) | (simp; omega) | (simp only [World.size_alloc, World.size_setCell, World.size_drew] at *; omega))) | (with_reducible refine Box.far ?_ (by first | omega | (simp; done) | (simp; omega) | (simp only [World.size_alloc, World.size_setCell, World.size_drew] at *; omega)) _) | (apply Box.put3_0) | (apply Box.put3_1) | (apply Box.put3_2) | (apply Box.put2_0) | (apply Box.put2_1) | (with_reducible refine Box.alloc ?_ _) | (with_reducible refine Box.drewN ?_ _) | (with_reducible refine Box.drew ?_) | (with_reducible assumption) | (refine Hid.out ?_; with_reducible assumption) | (apply Box.only; (with_reducible assumption); exact (by first | omega | (simp; done) | (simp; omega) | (simp only [World.size_alloc, World.size_setCell, World.size_drew] at *; omega))) | (apply Box.belowD; (with_reducible assumption))))) hb)
      have yX_e2 : wdr.heap.size < we2.heap.size := X_e2.out.1
      obtain ⟨X_e2c0, X_e2c1, X_e2c2⟩ := Box.facts3 X_e2.out
      have ze2 := hb.size
      (try simp at ze2)
      have De2 := Lib.hid hb; clear hb
      go_wp2_with fail
      go_ret
      exact ⟨by simp, by (repeat' (first | (with_reducible exact Below.refl _ _) | (with_reducible refine belS ?_ (by first | omega | (simp; done) | (simp; omega) | (simp only [World.size_alloc, World.size_setCell, World.size_drew] at *; omega))) | (with_reducible refine belA ?_ (by first | omega | (simp; done) | (simp; omega) | (simp only [World.size_alloc, World.size_setCell, World.size_drew] at *; omega))) | (with_reducible refine bel_drewN ?_ _) | (with_reducible refine Below.drew ?_) | (with_reducible assumption) | (refine Hid.out ?_; with_reducible assumption) | (apply belV; (with_reducible assumption); exact (by first | omega | (simp; done) | (simp; omega) | (simp only [World.size_alloc, World.size_setCell, World.size_drew] at *; omega)))))⟩
    · have hvp : vProb p = true := by
        cases hh : vProb p
        · have := solC_1 hh; rw [HC.out] at this; omega
        · rfl
      have HD := Lib.hid (drop_cheap hvp (by rw [HC.out]; exact hneg) (fun i => vProb_drop hvp i))
      rw [HC.out] at HD
      have h1000 := H1000.out.1
      have hbd0 : Hid (Below wdr.heap.size wdr we1) := Lib.hid (by (repeat' (first | (with_reducible exact Below.refl _ _) | (with_reducible refine belS ?_ (by first | omega | (simp; done) | (simp; omega) | (simp only [World.size_alloc, World.size_setCell, World.size_drew] at *; omega))) | (with_reducible refine belA ?_ (by first | omega | (simp; done) | (simp; omega) | (simp only [World.size_alloc, World.size_setCell, World.size_drew] at *; omega))) | (with_reducible refine bel_drewN ?_ _) | (with_reducible refine Below.drew ?_) | (with_reducible assumption) | (refine Hid.out ?_; with_reducible assumption) | (apply belV; (with_reducible assumption); exact (by first | omega | (simp; done) | (simp; omega) | (simp only [World.size_alloc, World.size_setCell, World.size_drew] at *; omega))))))
      go_wp2_with fail
      go_loopw [8] (fun s8 wr => ∃ k : Nat, k ≤ p.rows.length ∧ s8 = .int .i64 k ∧ Hid (Box wr wdr.heap.size #[.slice A0 p.costs.length d0, .slice A1 p.uppers.length d1, .slice A2 p.rows.length d2]) ∧ Hid (Below w.heap.size w wr) ∧ Hid (Below wdr.heap.size wdr wr)) (fun s8 _ => p.rows.length - (intOf s8).toNat)
      case atStart => exact ⟨0, by omega, rfl, Lib.hid (by (repeat' (first | (with_reducible exact Box.new _ _ _ (by first | omega | (simp; done) | (simp; omega) | (simp only [World.size_alloc, World.size_setCell, World.size_drew] at *; omega))) | (with_reducible refine Box.far ?_ (by first | omega | (simp; done) | (simp; omega) | (simp only [World.size_alloc, World.size_setCell, World.size_drew] at *; omega)) _) | (apply Box.put3_0) | (apply Box.put3_1) | (apply Box.put3_2) | (apply Box.put2_0) | (apply Box.put2_1) | (with_reducible refine Box.alloc ?_ _) | (with_reducible refine Box.drewN ?_ _) | (with_reducible refine Box.drew ?_) | (with_reducible assumption) | (refine Hid.out ?_; with_reducible assumption) | (apply Box.only; (with_reducible assumption); exact (by first | omega | (simp; done) | (simp; omega) | (simp only [World.size_alloc, World.size_setCell, World.size_drew] at *; omega))) | (apply Box.belowD; (with_reducible assumption))))), Lib.hid (by (repeat' (first | (with_reducible exact Below.refl _ _) | (with_reducible refine belS ?_ (by first | omega | (simp; done) | (simp; omega) | (simp only [World.size_alloc, World.size_setCell, World.size_drew] at *; omega))) | (with_reducible refine belA ?_ (by first | omega | (simp; done) | (simp; omega) | (simp only [World.size_alloc, World.size_setCell, World.size_drew] at *; omega))) | (with_reducible refine bel_drewN ?_ _) | (with_reducible refine Below.drew ?_) | (with_reducible assumption) | (refine Hid.out ?_; with_reducible assumption) | (apply belV; (with_reducible assumption); exact (by first | omega | (simp; done) | (simp; omega) | (simp only [World.size_alloc, World.size_setCell, World.size_drew] at *; omega)))))), hbd0⟩
      case round =>
        obtain ⟨k, hk, rfl, hX, hbel, hbd⟩ := hrel
        have y0 := hX.out.1
        obtain ⟨x0, x1, x2⟩ := Box.facts3 hX.out
        have PR := Lib.hid (PV.out.below hbd.out)
        by_cases hlt : k < p.rows.length
        · have hlt2 : (k : Int) < (p.rows.length : Int) := by omega
          obtain ⟨v2, hv2⟩ : ∃ v2, solC (dropP p k) = v2 := ⟨_, rfl⟩
          have hd := HD.out k
          rw [hv2] at hd
          have HV2 := Lib.hid hv2; clear hv2
          obtain ⟨hd0, hd1⟩ := hd
          have hd2 : ¬ v < v2 := by omega
          go_wp2_with fail
          refine (laws_dropRow _ _ _ _ _ _ p k _ (PR.out.below (by (repeat' (first | (with_reducible exact Below.refl _ _) | (with_reducible refine belS ?_ (by first | omega | (simp; done) | (simp; omega) | (simp only [World.size_alloc, World.size_setCell, World.size_drew] at *; omega))) | (with_reducible refine belA ?_ (by first | omega | (simp; done) | (simp; omega) | (simp only [World.size_alloc, World.size_setCell, World.size_drew] at *; omega))) | (with_reducible refine bel_drewN ?_ _) | (with_reducible refine Below.drew ?_) | (with_reducible assumption) | (refine Hid.out ?_; with_reducible assumption) | (apply belV; (with_reducible assumption); exact (by first | omega | (simp; done) | (simp; omega) | (simp only [World.size_alloc, World.size_setCell, World.size_drew] at *; omega))))))) h1000).mono ?_
          rintro e wdq ⟨A9, c9, rfl, hq, hb⟩
          have Gdq : Hid (Below w.heap.size w wdq) := belU hb (by (repeat' (first | (with_reducible exact Below.refl _ _) | (with_reducible refine belS ?_ (by first | omega | (simp; done) | (simp; omega) | (simp only [World.size_alloc, World.size_setCell, World.size_drew] at *; omega))) | (with_reducible refine belA ?_ (by first | omega | (simp; done) | (simp; omega) | (simp only [World.size_alloc, World.size_setCell, World.size_drew] at *; omega))) | (with_reducible refine bel_drewN ?_ _) | (with_reducible refine Below.drew ?_) | (with_reducible assumption) | (refine Hid.out ?_; with_reducible assumption) | (apply belV; (with_reducible assumption); exact (by first | omega | (simp; done) | (simp; omega) | (simp only [World.size_alloc, World.size_setCell, World.size_drew] at *; omega)))))) (by first | omega | (simp; done) | (simp; omega) | (simp only [World.size_alloc, World.size_setCell, World.size_drew] at *; omega))
          have PQ := Lib.hid hq; clear hq
          have X_dq : Hid (Box wdq (wdr.heap.size) #[.slice A0 p.costs.length d0, .slice A1 p.uppers.length d1, .slice A2 p.rows.length d2]) := Lib.hid (Box.below (by (repeat' (first | (with_reducible exact Box.new _ _ _ (by first | omega | (simp; done) | (simp; omega) | (simp only [World.size_alloc, World.size_setCell, World.size_drew] at *; omega))) | (with_reducible refine Box.far ?_ (by first | omega | (simp; done) | (simp; omega) | (simp only [World.size_alloc, World.size_setCell, World.size_drew] at *; omega)) _) | (apply Box.put3_0) | (apply Box.put3_1) | (apply Box.put3_2) | (apply Box.put2_0) | (apply Box.put2_1) | (with_reducible refine Box.alloc ?_ _) | (with_reducible refine Box.drewN ?_ _) | (with_reducible refine Box.drew ?_) | (with_reducible assumption) | (refine Hid.out ?_; with_reducible assumption) | (apply Box.only; (with_reducible assumption); exact (by first | omega | (simp; done) | (simp; omega) | (simp only [World.size_alloc, World.size_setCell, World.size_drew] at *; omega))) | (apply Box.belowD; (with_reducible assumption))))) hb)
          have yX_dq : wdr.heap.size < wdq.heap.size := X_dq.out.1
          obtain ⟨X_dqc0, X_dqc1, X_dqc2⟩ := Box.facts3 X_dq.out
          have zdq := hb.size
          (try simp at zdq)
          have Ddq := Lib.hid hb; clear hb
          go_wp2_with fail
          refine (impl_SE _ _ _ _ _ _ (dropP p k) _ v2 _ (PQ.out.below (by (repeat' (first | (with_reducible exact Below.refl _ _) | (with_reducible refine belS ?_ (by first | omega | (simp; done) | (simp; omega) | (simp only [World.size_alloc, World.size_setCell, World.size_drew] at *; omega))) | (with_reducible refine belA ?_ (by first | omega | (simp; done) | (simp; omega) | (simp only [World.size_alloc, World.size_setCell, World.size_drew] at *; omega))) | (with_reducible refine bel_drewN ?_ _) | (with_reducible refine Below.drew ?_) | (with_reducible assumption) | (refine Hid.out ?_; with_reducible assumption) | (apply belV; (with_reducible assumption); exact (by first | omega | (simp; done) | (simp; omega) | (simp only [World.size_alloc, World.size_setCell, World.size_drew] at *; omega))))))) rfl HV2.out).mono ?_
          rintro e wiv ⟨A8, c8, rfl, ho8, hb⟩
          have Giv : Hid (Below w.heap.size w wiv) := belU hb (by (repeat' (first | (with_reducible exact Below.refl _ _) | (with_reducible refine belS ?_ (by first | omega | (simp; done) | (simp; omega) | (simp only [World.size_alloc, World.size_setCell, World.size_drew] at *; omega))) | (with_reducible refine belA ?_ (by first | omega | (simp; done) | (simp; omega) | (simp only [World.size_alloc, World.size_setCell, World.size_drew] at *; omega))) | (with_reducible refine bel_drewN ?_ _) | (with_reducible refine Below.drew ?_) | (with_reducible assumption) | (refine Hid.out ?_; with_reducible assumption) | (apply belV; (with_reducible assumption); exact (by first | omega | (simp; done) | (simp; omega) | (simp only [World.size_alloc, World.size_setCell, World.size_drew] at *; omega)))))) (by first | omega | (simp; done) | (simp; omega) | (simp only [World.size_alloc, World.size_setCell, World.size_drew] at *; omega))
          have W8 := Lib.hid ho8; clear ho8
          have X_iv : Hid (Box wiv (wdr.heap.size) #[.slice A0 p.costs.length d0, .slice A1 p.uppers.length d1, .slice A2 p.rows.length d2]) := Lib.hid (Box.below (by (repeat' (first | (with_reducible exact Box.new _ _ _ (by first | omega | (simp; done) | (simp; omega) | (simp only [World.size_alloc, World.size_setCell, World.size_drew] at *; omega))) | (with_reducible refine Box.far ?_ (by first | omega | (simp; done) | (simp; omega) | (simp only [World.size_alloc, World.size_setCell, World.size_drew] at *; omega)) _) | (apply Box.put3_0) | (apply Box.put3_1) | (apply Box.put3_2) | (apply Box.put2_0) | (apply Box.put2_1) | (with_reducible refine Box.alloc ?_ _) | (with_reducible refine Box.drewN ?_ _) | (with_reducible refine Box.drew ?_) | (with_reducible assumption) | (refine Hid.out ?_; with_reducible assumption) | (apply Box.only; (with_reducible assumption); exact (by first | omega | (simp; done) | (simp; omega) | (simp only [World.size_alloc, World.size_setCell, World.size_drew] at *; omega))) | (apply Box.belowD; (with_reducible assumption))))) hb)
          have yX_iv : wdr.heap.size < wiv.heap.size := X_iv.out.1
          obtain ⟨X_ivc0, X_ivc1, X_ivc2⟩ := Box.facts3 X_iv.out
          have ziv := hb.size
          (try simp at ziv)
          have Div := Lib.hid hb; clear hb
          have hbe : Hid (Below wdr.heap.size wdr wiv) := Lib.hid ((hbd.out.trans (Ddq.out.mono (by omega))).trans (Div.out.mono (by omega)))
          go_wp2_with fail
          go_roundw
          case rel => exact ⟨k + 1, by omega, by go_num, Lib.hid (by (repeat' (first | (with_reducible exact Box.new _ _ _ (by first | omega | (simp; done) | (simp; omega) | (simp only [World.size_alloc, World.size_setCell, World.size_drew] at *; omega))) | (with_reducible refine Box.far ?_ (by first | omega | (simp; done) | (simp; omega) | (simp only [World.size_alloc, World.size_setCell, World.size_drew] at *; omega)) _) | (apply Box.put3_0) | (apply Box.put3_1) | (apply Box.put3_2) | (apply Box.put2_0) | (apply Box.put2_1) | (with_reducible refine Box.alloc ?_ _) | (with_reducible refine Box.drewN ?_ _) | (with_reducible refine Box.drew ?_) | (with_reducible assumption) | (refine Hid.out ?_; with_reducible assumption) | (apply Box.only; (with_reducible assumption); exact (by first | omega | (simp; done) | (simp; omega) | (simp only [World.size_alloc, World.size_setCell, World.size_drew] at *; omega))) | (apply Box.belowD; (with_reducible assumption))))), Giv, hbe⟩
          case measure => simp [intOf]; omega
        · have hke : k = p.rows.length := by omega
          subst hke
          go_wp2_with fail
          go_ret
          exact ⟨rfl, by (repeat' (first | (with_reducible exact Below.refl _ _) | (with_reducible refine belS ?_ (by first | omega | (simp; done) | (simp; omega) | (simp only [World.size_alloc, World.size_setCell, World.size_drew] at *; omega))) | (with_reducible refine belA ?_ (by first | omega | (simp; done) | (simp; omega) | (simp only [World.size_alloc, World.size_setCell, World.size_drew] at *; omega))) | (with_reducible refine bel_drewN ?_ _) | (with_reducible refine Below.drew ?_) | (with_reducible assumption) | (refine Hid.out ?_; with_reducible assumption) | (apply belV; (with_reducible assumption); exact (by first | omega | (simp; done) | (simp; omega) | (simp only [World.size_alloc, World.size_setCell, World.size_drew] at *; omega)))))⟩
end Go.Proofs.Ytangfmmjpomlgaa
