
/-
  The walk of the law that costs grow with values.
-/
import Derived.Test.YtpcfnlffamgdaabAr
set_option linter.unusedSimpArgs false
set_option linter.unusedVariables false
namespace Go.Proofs.Ytpcfnlffamgdaab
open Go.RowKit

theorem cost_sg {p : PProb} {xs : List Int} : (costW p xs = -1 ∧ (vProb p && isPt p.uppers xs) = false) ∨ (0 ≤ costW p xs ∧ costW p xs ≤ 5000 ∧ (vProb p && isPt p.uppers xs) = true) := by
  cases hv : vProb p
  · exact .inl ⟨costW_1 hv, rfl⟩
  · cases hp : isPt p.uppers xs
    · exact .inl ⟨costW_2 hp, rfl⟩
    · have := pt_cost hv ((mem_pts fun u hu => (vProb_us hv u hu).1).2 (isPt_under.1 hp))
      refine .inr ⟨?_, ?_, rfl⟩ <;> rw [costW_3 hv hp] <;> omega
theorem sumT_upd {t t' : Nat → Int} {j n : Nat} (hj : j < n) (h : ∀ i, i < n → i ≠ j → t i = t' i) : sumT t' n = sumT t n + (t' j - t j) := by
  induction n with
  | zero => omega
  | succ n ih =>
    by_cases e : j = n
    · subst e
      have := sumT_congr (t := t) (t' := t') (k := j) fun i hi => h i (by omega) (by omega)
      show sumT t' j + t' j = sumT t j + t j + _
      omega
    · have := ih (by omega) fun i hi => h i (by omega)
      have e2 := h n (by omega) (by omega)
      show sumT t' n + t' n = sumT t n + t n + _
      omega
theorem cost_less {p : PProb} {xs : List Int} {k : Nat} (hb : (vProb p && isPt p.uppers xs) = true) (hk : k < xs.length) (h0 : 0 < xs.getD k 0) :
    costW p (xs.set k (xs.getD k 0 - 1)) + p.costs.getD k 0 = costW p xs ∧ 0 ≤ p.costs.getD k 0 ∧ p.costs.getD k 0 ≤ 99 ∧ k < p.costs.length ∧ 0 ≤ costW p (xs.set k (xs.getD k 0 - 1)) ∧ costW p (xs.set k (xs.getD k 0 - 1)) ≤ 5000 := by
  rw [Bool.and_eq_true] at hb
  obtain ⟨hv, hp⟩ := hb
  have hund := isPt_under.1 hp
  have hxl := under_len hund
  have hul := vProb_ul hv
  have hu := vProb_us hv
  have h5 := (vProb_N5 hv).1
  have hu2 : under p.uppers (xs.set k (xs.getD k 0 - 1)) := under_of (by simp [hxl]) fun i hi => by
    have := under_at hund i hi
    simp only [List.getD_eq_getElem?_getD] at *
    rw [List.getElem?_set]
    by_cases e : k = i
    · subst e
      rw [if_pos rfl, if_pos hk]
      simp only [Option.getD_some]
      omega
    · rw [if_neg e]; exact this
  have hp2 := isPt_under.2 hu2
  have hc2 := pt_cost hv ((mem_pts fun u h => (hu u h).1).2 hu2)
  have hv' := hv
  simp only [vProb, Bool.and_eq_true, decide_eq_true_eq] at hv'
  have hcs : ∀ i, i < p.costs.length → 0 ≤ p.costs.getD i 0 ∧ p.costs.getD i 0 ≤ 99 := fun i hi => inB_iff.1 (at_all (p := fun x => inB x 0 99) hv'.2.2.2.1.1 hi)
  have hxs : ∀ (z : List Int), under p.uppers z → ∀ i, i < p.costs.length → 0 ≤ z.getD i 0 ∧ z.getD i 0 ≤ 9 := fun z hz i hi => by
    have h1 := under_at hz i (by omega)
    have h2 := (hu _ (List.getElem_mem (show i < p.uppers.length by omega))).2
    have e : p.uppers.getD i 0 = p.uppers[i] := by rw [List.getD_eq_getElem?_getD, List.getElem?_eq_getElem (by omega)]; rfl
    omega
  obtain ⟨e1, _, _⟩ := dot_sum (cs := p.costs) (xs := xs) (n := p.costs.length) (by omega) (fun i hi => by have := hcs i hi; omega) (hxs xs hund)
  obtain ⟨e2, _, _⟩ := dot_sum (cs := p.costs) (xs := xs.set k (xs.getD k 0 - 1)) (n := p.costs.length) (by omega) (fun i hi => by have := hcs i hi; omega) (hxs _ hu2)
  have hkc : k < p.costs.length := by omega
  have hup := sumT_upd (t := fun i => p.costs.getD i 0 * (xs.set k (xs.getD k 0 - 1)).getD i 0) (t' := fun i => p.costs.getD i 0 * xs.getD i 0) hkc fun i hi hne => by
    simp only [List.getD_eq_getElem?_getD]
    rw [List.getElem?_set_ne (fun e => hne e.symm)]
  have hset : (xs.set k (xs.getD k 0 - 1)).getD k 0 = xs.getD k 0 - 1 := by
    simp only [List.getD_eq_getElem?_getD]
    rw [List.getElem?_set_self hk]; rfl
  rw [costW_3 hv hp, costW_3 hv hp2]
  have hm : p.costs.getD k 0 * xs.getD k 0 - p.costs.getD k 0 * (xs.getD k 0 - 1) = p.costs.getD k 0 := by
    rw [Int.mul_sub, Int.mul_one]; omega
  simp only [hset] at hup
  refine ⟨?_, (hcs k hkc).1, (hcs k hkc).2, hkc, hc2⟩
  unfold dotW
  rw [e1, e2, hup, hm]

set_option maxHeartbeats 8000000 in
set_option maxRecDepth 100000 in
theorem FnCostOf_walk (a : Option Addr) (len cap : Nat) (w : World) (h : By w.heap.size w a len cap) :
    Calls Try.prog 12 #[.slice a len cap] w fun e w' => e = .returned (.bool true) ∧ Below w.heap.size w w' := by
  obtain ⟨i0, hi0, hz0, hz1, hz2⟩ := info_parts info_int
  have hl := h.1
  have hl2 := h.2.1
  unfold maxLen at hl2
  have H := Lib.hid h; clear h
  by_cases hbig : 1048576 < len
  · go_enter Try.func12, Try.ntmps12
    go_wp2_with fail
    go_ret
    exact ⟨rfl, Below.refl _ _⟩
  · go_enter Try.func12, Try.ntmps12
    go_wp2_with fail
    refine (DrawCostOf_any _ _ _ _ H.out).mono ?_
    rintro e wdr ⟨A0, A1, A2, d0, d1, d2, p, A, n, c, xs, lo, lr, rfl, hpf, hif, hll, hnc, h1000, hb⟩
    have Gdr : Hid (Below w.heap.size w wdr) := belU hb (by (repeat' (first | (with_reducible exact Below.refl _ _) | (with_reducible refine belS ?_ (by first | omega | (simp; done) | (simp; omega) | (simp only [World.size_alloc, World.size_setCell, World.size_drew] at *; omega))) | (with_reducible refine belA ?_ (by first | omega | (simp; done) | (simp; omega) | (simp only [World.size_alloc, World.size_setCell, World.size_drew] at *; omega))) | (with_reducible refine bel_drewN ?_ _) | (with_reducible refine Below.drew ?_) | (with_reducible assumption) | (refine Hid.out ?_; with_reducible assumption) | (apply belV; (with_reducible assumption); exact (by first | omega | (simp; done) | (simp; omega) | (simp only [World.size_alloc, World.size_setCell, World.size_drew] at *; omega)))))) (by first | omega | (simp; done) | (simp; omega) | (simp only [World.size_alloc, World.size_setCell, World.size_drew] at *; omega))
    have PF := Lib.hid hpf; clear hpf
    have IF := Lib.hid hif; clear hif
    (try simp only [World.size_alloc, World.size_setCell, World.size_drew, World.heap_drewN] at hll)
    have LL := Lib.hid hll; clear hll
    have NC := Lib.hid hnc; clear hnc
    have zdr := hb.size
    (try simp at zdr)
    have Ddr := Lib.hid hb; clear hb
    have PV := Lib.hid PF.out.probV
    have IX := Lib.hid IF.out.out
    have hn8 := NC.out.2.2
    have hnm : n ≤ maxLen := by unfold maxLen; omega
    have hxl := Lib.hid IX.out.len
    rcases cost_sg (p := p) (xs := xs) with ⟨hc, hb⟩ | ⟨hc, hc5, hb⟩
    · have HC := Lib.hid hc
      clear hc hb
      go_wp2_with fail
      refine (impl_CostOf _ _ _ _ _ _ _ _ _ p xs _ (PV.out.below (by (repeat' (first | (with_reducible exact Below.refl _ _) | (with_reducible refine belS ?_ (by first | omega | (simp; done) | (simp; omega) | (simp only [World.size_alloc, World.size_setCell, World.size_drew] at *; omega))) | (with_reducible refine belA ?_ (by first | omega | (simp; done) | (simp; omega) | (simp only [World.size_alloc, World.size_setCell, World.size_drew] at *; omega))) | (with_reducible refine bel_drewN ?_ _) | (with_reducible refine Below.drew ?_) | (with_reducible assumption) | (refine Hid.out ?_; with_reducible assumption) | (apply belV; (with_reducible assumption); exact (by first | omega | (simp; done) | (simp; omega) | (simp only [World.size_alloc, World.size_setCell, World.size_drew] at *; omega))))))) (IX.out.below (by (repeat' (first | (with_reducible exact Below.refl _ _) | (with_reducible refine belS ?_ (by first | omega | (simp; done) | (simp; omega) | (simp only [World.size_alloc, World.size_setCell, World.size_drew] at *; omega))) | (with_reducible refine belA ?_ (by first | omega | (simp; done) | (simp; omega) | (simp only [World.size_alloc, World.size_setCell, World.size_drew] at *; omega))) | (with_reducible refine bel_drewN ?_ _) | (with_reducible refine Below.drew ?_) | (with_reducible assumption) | (refine Hid.out ?_; with_reducible assumption) | (apply belV; (with_reducible assumption); exact (by first | omega | (simp; done) | (simp; omega) | (simp only [World.size_alloc, World.size_setCell, World.size_drew] at *; omega))))))) hnm).mono ?_
      rintro e wim ⟨rfl, hb⟩
      have Gim : Hid (Below w.heap.size w wim) := belU hb (by (repeat' (first | (with_reducible exact Below.refl _ _) | (with_reducible refine belS ?_ (by first | omega | (simp; done) | (simp; omega) | (simp only [World.size_alloc, World.size_setCell, World.size_drew] at *; omega))) | (with_reducible refine belA ?_ (by first | omega | (simp; done) | (simp; omega) | (simp only [World.size_alloc, World.size_setCell, World.size_drew] at *; omega))) | (with_reducible refine bel_drewN ?_ _) | (with_reducible refine Below.drew ?_) | (with_reducible assumption) | (refine Hid.out ?_; with_reducible assumption) | (apply belV; (with_reducible assumption); exact (by first | omega | (simp; done) | (simp; omega) | (simp only [World.size_alloc, World.size_setCell, World.size_drew] at *; omega)))))) (by first | omega | (simp; done) | (simp; omega) | (simp only [World.size_alloc, World.size_setCell, World.size_drew] at *; omega))
      have X_im : Hid (Box wim (wdr.heap.size) #[.slice A0 p.costs.length d0, .slice A1 p.uppers.length d1, .slice A2 p.rows.length d2]) := Lib.hid (Box.below (by (repeat' (first | (with_reducible exact Box.new _ _ _ (by first | omega | (simp; done) | (simp; omega) | (simp only [World.size_alloc, World.size_setCell, World.size_drew] at *; omega))) | (with_reducible refine Box.far ?_ (by first | omega | (simp; done) | (simp; omega) | (simp only [World.size_alloc, World.size_setCell, World.size_drew] at *; omega)) _) | (apply Box.put3_0) | (apply Box.put3_1) | (apply Box.put3_2) | (apply Box.put2_0) | (apply Box.put2_1) | (with_reducible refine Box.alloc ?_ _) | (with_reducible refine Box.drewN ?_ _) | (with_reducible refine Box.drew ?_) | (with_reducible assumption) | (refine Hid.out ?_; with_reducible assumption) | (apply Box.only; (with_reducible assumption); exact (by first | omega | (simp; done) | (simp; omega) | (simp only [World.size_alloc, World.size_setCell, World.size_drew] at *; omega))) | (apply Box.belowD; (with_reducible assumption))))) hb)
      have yX_im : wdr.heap.size < wim.heap.size := X_im.out.1
      obtain ⟨X_imc0, X_imc1, X_imc2⟩ := Box.facts3 X_im.out
      have zim := hb.size
      (try simp at zim)
      have Dim := Lib.hid hb; clear hb
      rw [HC.out]
      go_wp2_with fail
      refine (spec_CostOf _ _ _ _ _ _ _ _ _ p xs _ (PV.out.below (by (repeat' (first | (with_reducible exact Below.refl _ _) | (with_reducible refine belS ?_ (by first | omega | (simp; done) | (simp; omega) | (simp only [World.size_alloc, World.size_setCell, World.size_drew] at *; omega))) | (with_reducible refine belA ?_ (by first | omega | (simp; done) | (simp; omega) | (simp only [World.size_alloc, World.size_setCell, World.size_drew] at *; omega))) | (with_reducible refine bel_drewN ?_ _) | (with_reducible refine Below.drew ?_) | (with_reducible assumption) | (refine Hid.out ?_; with_reducible assumption) | (apply belV; (with_reducible assumption); exact (by first | omega | (simp; done) | (simp; omega) | (simp only [World.size_alloc, World.size_setCell, World.size_drew] at *; omega))))))) (IX.out.below (by (repeat' (first | (with_reducible exact Below.refl _ _) | (with_reducible refine belS ?_ (by first | omega | (simp; done) | (simp; omega) | (simp only [World.size_alloc, World.size_setCell, World.size_drew] at *; omega))) | (with_reducible refine belA ?_ (by first | omega | (simp; done) | (simp; omega) | (simp only [World.size_alloc, World.size_setCell, World.size_drew] at *; omega))) | (with_reducible refine bel_drewN ?_ _) | (with_reducible refine Below.drew ?_) | (with_reducible assumption) | (refine Hid.out ?_; with_reducible assumption) | (apply belV; (with_reducible assumption); exact (by first | omega | (simp; done) | (simp; omega) | (simp only [World.size_alloc, World.size_setCell, World.size_drew] at *; omega))))))) hnm).mono ?_
      rintro e wsp ⟨rfl, hb⟩
      have Gsp : Hid (Below w.heap.size w wsp) := belU hb (by (repeat' (first | (with_reducible exact Below.refl _ _) | (with_reducible refine belS ?_ (by first | omega | (simp; done) | (simp; omega) | (simp only [World.size_alloc, World.size_setCell, World.size_drew] at *; omega))) | (with_reducible refine belA ?_ (by first | omega | (simp; done) | (simp; omega) | (simp only [World.size_alloc, World.size_setCell, World.size_drew] at *; omega))) | (with_reducible refine bel_drewN ?_ _) | (with_reducible refine Below.drew ?_) | (with_reducible assumption) | (refine Hid.out ?_; with_reducible assumption) | (apply belV; (with_reducible assumption); exact (by first | omega | (simp; done) | (simp; omega) | (simp only [World.size_alloc, World.size_setCell, World.size_drew] at *; omega)))))) (by first | omega | (simp; done) | (simp; omega) | (simp only [World.size_alloc, World.size_setCell, World.size_drew] at *; omega))
      have X_sp : Hid (Box wsp (wdr.heap.size) #[.slice A0 p.costs.length d0, .slice A1 p.uppers.length d1, .slice A2 p.rows.length d2]) := Lib.hid (Box.below (by (repeat' (first | (with_reducible exact Box.new _ _ _ (by first | omega | (simp; done) | (simp; omega) | (simp only [World.size_alloc, World.size_setCell, World.size_drew] at *; omega))) | (with_reducible refine Box.far ?_ (by first | omega | (simp; done) | (simp; omega) | (simp only [World.size_alloc, World.size_setCell, World.size_drew] at *; omega)) _) | (apply Box.put3_0) | (apply Box.put3_1) | (apply Box.put3_2) | (apply Box.put2_0) | (apply Box.put2_1) | (with_reducible refine Box.alloc ?_ _) | (with_reducible refine Box.drewN ?_ _) | (with_reducible refine Box.drew ?_) | (with_reducible assumption) | (refine Hid.out ?_; with_reducible assumption) | (apply Box.only; (with_reducible assumption); exact (by first | omega | (simp; done) | (simp; omega) | (simp only [World.size_alloc, World.size_setCell, World.size_drew] at *; omega))) | (apply Box.belowD; (with_reducible assumption))))) hb)
      have yX_sp : wdr.heap.size < wsp.heap.size := X_sp.out.1
      obtain ⟨X_spc0, X_spc1, X_spc2⟩ := Box.facts3 X_sp.out
      have zsp := hb.size
      (try simp at zsp)
      have Dsp := Lib.hid hb; clear hb
      rw [HC.out]
      go_wp2_with fail
      refine (spec_CostOf _ _ _ _ _ _ _ _ _ p xs _ (PV.out.below (by (repeat' (first | (with_reducible exact Below.refl _ _) | (with_reducible refine belS ?_ (by first | omega | (simp; done) | (simp; omega) | (simp only [World.size_alloc, World.size_setCell, World.size_drew] at *; omega))) | (with_reducible refine belA ?_ (by first | omega | (simp; done) | (simp; omega) | (simp only [World.size_alloc, World.size_setCell, World.size_drew] at *; omega))) | (with_reducible refine bel_drewN ?_ _) | (with_reducible refine Below.drew ?_) | (with_reducible assumption) | (refine Hid.out ?_; with_reducible assumption) | (apply belV; (with_reducible assumption); exact (by first | omega | (simp; done) | (simp; omega) | (simp only [World.size_alloc, World.size_setCell, World.size_drew] at *; omega))))))) (IX.out.below (by (repeat' (first | (with_reducible exact Below.refl _ _) | (with_reducible refine belS ?_ (by first | omega | (simp; done) | (simp; omega) | (simp only [World.size_alloc, World.size_setCell, World.size_drew] at *; omega))) | (with_reducible refine belA ?_ (by first | omega | (simp; done) | (simp; omega) | (simp only [World.size_alloc, World.size_setCell, World.size_drew] at *; omega))) | (with_reducible refine bel_drewN ?_ _) | (with_reducible refine Below.drew ?_) | (with_reducible assumption) | (refine Hid.out ?_; with_reducible assumption) | (apply belV; (with_reducible assumption); exact (by first | omega | (simp; done) | (simp; omega) | (simp only [World.size_alloc, World.size_setCell, World.size_drew] at *; omega))))))) hnm).mono ?_
      rintro e wsq ⟨rfl, hb⟩
      have Gsq : Hid (Below w.heap.size w wsq) := belU hb (by (repeat' (first | (with_reducible exact Below.refl _ _) | (with_reducible refine belS ?_ (by first | omega | (simp; done) | (simp; omega) | (simp only [World.size_alloc, World.size_setCell, World.size_drew] at *; omega))) | (with_reducible refine belA ?_ (by first | omega | (simp; done) | (simp; omega) | (simp only [World.size_alloc, World.size_setCell, World.size_drew] at *; omega))) | (with_reducible refine bel_drewN ?_ _) | (with_reducible refine Below.drew ?_) | (with_reducible assumption) | (refine Hid.out ?_; with_reducible assumption) | (apply belV; (with_reducible assumption); exact (by first | omega | (simp; done) | (simp; omega) | (simp only [World.size_alloc, World.size_setCell, World.size_drew] at *; omega)))))) (by first | omega | (simp; done) | (simp; omega) | (simp only [World.size_alloc, World.size_setCell, World.size_drew] at *; omega))
      have X_sq : Hid (Box wsq (wdr.heap.size) #[.slice A0 p.costs.length d0, .slice A1 p.uppers.length d1, .slice A2 p.rows.length d2]) := Lib.hid (Box.below (by (repeat' (first | (with_reducible exact Box.new _ _ _ (by first | omega | (simp; done) | (simp; omega) | (simp only [World.size_alloc, World.size_setCell, World.size_drew] at *; omega))) | (with_reducible refine Box.far ?_ (by first | omega | (simp; done) | (simp; omega) | (simp only [World.size_alloc, World.size_setCell, World.size_drew] at *; omega)) _) | (apply Box.put3_0) | (apply Box.put3_1) | (apply Box.put3_2) | (apply Box.put2_0) | (apply Box.put2_1) | (with_reducible refine Box.alloc ?_ _) | (with_reducible refine Box.drewN ?_ _) | (with_reducible refine Box.drew ?_) | (with_reducible assumption) | (refine Hid.out ?_; with_reducible assumption) | (apply Box.only; (with_reducible assumption); exact (by first | omega | (simp; done) | (simp; omega) | (simp only [World.size_alloc, World.size_setCell, World.size_drew] at *; omega))) | (apply Box.belowD; (with_reducible assumption))))) hb)
      have yX_sq : wdr.heap.size < wsq.heap.size := X_sq.out.1
      obtain ⟨X_sqc0, X_sqc1, X_sqc2⟩ := Box.facts3 X_sq.out
      have zsq := hb.size
      (try simp at zsq)
      have Dsq := Lib.hid hb; clear hb
      rw [HC.out]
      go_wp2_with fail
      go_ret
      exact ⟨by simp, by (repeat' (first | (with_reducible exact Below.refl _ _) | (with_reducible refine belS ?_ (by first | omega | (simp; done) | (simp; omega) | (simp only [World.size_alloc, World.size_setCell, World.size_drew] at *; omega))) | (with_reducible refine belA ?_ (by first | omega | (simp; done) | (simp; omega) | (simp only [World.size_alloc, World.size_setCell, World.size_drew] at *; omega))) | (with_reducible refine bel_drewN ?_ _) | (with_reducible refine Below.drew ?_) | (with_reducible assumption) | (refine Hid.out ?_; with_reducible assumption) | (apply belV; (with_reducible assumption); exact (by first | omega | (simp; done) | (simp; omega) | (simp only [World.size_alloc, World.size_setCell, World.size_drew] at *; omega)))))⟩
    · obtain ⟨v, hv⟩ : ∃ v, costW p xs = v := ⟨_, rfl⟩
      rw [hv] at hc hc5
      have HC := Lib.hid hv; clear hv
      have HB := Lib.hid hb; clear hb
      have hc0 : ¬ v < 0 := by omega
      have hvv : (v != v) = false := by simp
      go_wp2_with fail
      refine (impl_CostOf _ _ _ _ _ _ _ _ _ p xs _ (PV.out.below (by (repeat' (first | (with_reducible exact Below.refl _ _) | (with_reducible refine belS ?_ (by first | omega | (simp; done) | (simp; omega) | (simp only [World.size_alloc, World.size_setCell, World.size_drew] at *; omega))) | (with_reducible refine belA ?_ (by first | omega | (simp; done) | (simp; omega) | (simp only [World.size_alloc, World.size_setCell, World.size_drew] at *; omega))) | (with_reducible refine bel_drewN ?_ _) | (with_reducible refine Below.drew ?_) | (with_reducible assumption) | (refine Hid.out ?_; with_reducible assumption) | (apply belV; (with_reducible assumption); exact (by first | omega | (simp; done) | (simp; omega) | (simp only [World.size_alloc, World.size_setCell, World.size_drew] at *; omega))))))) (IX.out.below (by (repeat' (first | (with_reducible exact Below.refl _ _) | (with_reducible refine belS ?_ (by first | omega | (simp; done) | (simp; omega) | (simp only [World.size_alloc, World.size_setCell, World.size_drew] at *; omega))) | (with_reducible refine belA ?_ (by first | omega | (simp; done) | (simp; omega) | (simp only [World.size_alloc, World.size_setCell, World.size_drew] at *; omega))) | (with_reducible refine bel_drewN ?_ _) | (with_reducible refine Below.drew ?_) | (with_reducible assumption) | (refine Hid.out ?_; with_reducible assumption) | (apply belV; (with_reducible assumption); exact (by first | omega | (simp; done) | (simp; omega) | (simp only [World.size_alloc, World.size_setCell, World.size_drew] at *; omega))))))) hnm).mono ?_
      rintro e wim ⟨rfl, hb⟩
      have Gim : Hid (Below w.heap.size w wim) := belU hb (by (repeat' (first | (with_reducible exact Below.refl _ _) | (with_reducible refine belS ?_ (by first | omega | (simp; done) | (simp; omega) | (simp only [World.size_alloc, World.size_setCell, World.size_drew] at *; omega))) | (with_reducible refine belA ?_ (by first | omega | (simp; done) | (simp; omega) | (simp only [World.size_alloc, World.size_setCell, World.size_drew] at *; omega))) | (with_reducible refine bel_drewN ?_ _) | (with_reducible refine Below.drew ?_) | (with_reducible assumption) | (refine Hid.out ?_; with_reducible assumption) | (apply belV; (with_reducible assumption); exact (by first | omega | (simp; done) | (simp; omega) | (simp only [World.size_alloc, World.size_setCell, World.size_drew] at *; omega)))))) (by first | omega | (simp; done) | (simp; omega) | (simp only [World.size_alloc, World.size_setCell, World.size_drew] at *; omega))
      have X_im : Hid (Box wim (wdr.heap.size) #[.slice A0 p.costs.length d0, .slice A1 p.uppers.length d1, .slice A2 p.rows.length d2]) := Lib.hid (Box.below (by (repeat' (first | (with_reducible exact Box.new _ _ _ (by first | omega | (simp; done) | (simp; omega) | (simp only [World.size_alloc, World.size_setCell, World.size_drew] at *; omega))) | (with_reducible refine Box.far ?_ (by first | omega | (simp; done) | (simp; omega) | (simp only [World.size_alloc, World.size_setCell, World.size_drew] at *; omega)) _) | (apply Box.put3_0) | (apply Box.put3_1) | (apply Box.put3_2) | (apply Box.put2_0) | (apply Box.put2_1) | (with_reducible refine Box.alloc ?_ _) | (with_reducible refine Box.drewN ?_ _) | (with_reducible refine Box.drew ?_) | (with_reducible assumption) | (refine Hid.out ?_; with_reducible assumption) | (apply Box.only; (with_reducible assumption); exact (by first | omega | (simp; done) | (simp; omega) | (simp only [World.size_alloc, World.size_setCell, World.size_drew] at *; omega))) | (apply Box.belowD; (with_reducible assumption))))) hb)
      have yX_im : wdr.heap.size < wim.heap.size := X_im.out.1
      obtain ⟨X_imc0, X_imc1, X_imc2⟩ := Box.facts3 X_im.out
      have zim := hb.size
      (try simp at zim)
      have Dim := Lib.hid hb; clear hb
      rw [HC.out]
      go_wp2_with fail
      refine (spec_CostOf _ _ _ _ _ _ _ _ _ p xs _ (PV.out.below (by (repeat' (first | (with_reducible exact Below.refl _ _) | (with_reducible refine belS ?_ (by first | omega | (simp; done) | (simp; omega) | (simp only [World.size_alloc, World.size_setCell, World.size_drew] at *; omega))) | (with_reducible refine belA ?_ (by first | omega | (simp; done) | (simp; omega) | (simp only [World.size_alloc, World.size_setCell, World.size_drew] at *; omega))) | (with_reducible refine bel_drewN ?_ _) | (with_reducible refine Below.drew ?_) | (with_reducible assumption) | (refine Hid.out ?_; with_reducible assumption) | (apply belV; (with_reducible assumption); exact (by first | omega | (simp; done) | (simp; omega) | (simp only [World.size_alloc, World.size_setCell, World.size_drew] at *; omega))))))) (IX.out.below (by (repeat' (first | (with_reducible exact Below.refl _ _) | (with_reducible refine belS ?_ (by first | omega | (simp; done) | (simp; omega) | (simp only [World.size_alloc, World.size_setCell, World.size_drew] at *; omega))) | (with_reducible refine belA ?_ (by first | omega | (simp; done) | (simp; omega) | (simp only [World.size_alloc, World.size_setCell, World.size_drew] at *; omega))) | (with_reducible refine bel_drewN ?_ _) | (with_reducible refine Below.drew ?_) | (with_reducible assumption) | (refine Hid.out ?_; with_reducible assumption) | (apply belV; (with_reducible assumption); exact (by first | omega | (simp; done) | (simp; omega) | (simp only [World.size_alloc, World.size_setCell, World.size_drew] at *; omega))))))) hnm).mono ?_
      rintro e wsp ⟨rfl, hb⟩
      have Gsp : Hid (Below w.heap.size w wsp) := belU hb (by (repeat' (first | (with_reducible exact Below.refl _ _) | (with_reducible refine belS ?_ (by first | omega | (simp; done) | (simp; omega) | (simp only [World.size_alloc, World.size_setCell, World.size_drew] at *; omega))) | (with_reducible refine belA ?_ (by first | omega | (simp; done) | (simp; omega) | (simp only [World.size_alloc, World.size_setCell, World.size_drew] at *; omega))) | (with_reducible refine bel_drewN ?_ _) | (with_reducible refine Below.drew ?_) | (with_reducible assumption) | (refine Hid.out ?_; with_reducible assumption) | (apply belV; (with_reducible assumption); exact (by first | omega | (simp; done) | (simp; omega) | (simp only [World.size_alloc, World.size_setCell, World.size_drew] at *; omega)))))) (by first | omega | (simp; done) | (simp; omega) | (simp only [World.size_alloc, World.size_setCell, World.size_drew] at *; omega))
      have X_sp : Hid (Box wsp (wdr.heap.size) #[.slice A0 p.costs.length d0, .slice A1 p.uppers.length d1, .slice A2 p.rows.length d2]) := Lib.hid (Box.below (by (repeat' (first | (with_reducible exact Box.new _ _ _ (by first | omega | (simp; done) | (simp; omega) | (simp only [World.size_alloc, World.size_setCell, World.size_drew] at *; omega))) | (with_reducible refine Box.far ?_ (by first | omega | (simp; done) | (simp; omega) | (simp only [World.size_alloc, World.size_setCell, World.size_drew] at *; omega)) _) | (apply Box.put3_0) | (apply Box.put3_1) | (apply Box.put3_2) | (apply Box.put2_0) | (apply Box.put2_1) | (with_reducible refine Box.alloc ?_ _) | (with_reducible refine Box.drewN ?_ _) | (with_reducible refine Box.drew ?_) | (with_reducible assumption) | (refine Hid.out ?_; with_reducible assumption) | (apply Box.only; (with_reducible assumption); exact (by first | omega | (simp; done) | (simp; omega) | (simp only [World.size_alloc, World.size_setCell, World.size_drew] at *; omega))) | (apply Box.belowD; (with_reducible assumption))))) hb)
      have yX_sp : wdr.heap.size < wsp.heap.size := X_sp.out.1
      obtain ⟨X_spc0, X_spc1, X_spc2⟩ := Box.facts3 X_sp.out
      have zsp := hb.size
      (try simp at zsp)
      have Dsp := Lib.hid hb; clear hb
      rw [HC.out]
      have hbd0 : Hid (Below wdr.heap.size wdr wsp) := Lib.hid (by (repeat' (first | (with_reducible exact Below.refl _ _) | (with_reducible refine belS ?_ (by first | omega | (simp; done) | (simp; omega) | (simp only [World.size_alloc, World.size_setCell, World.size_drew] at *; omega))) | (with_reducible refine belA ?_ (by first | omega | (simp; done) | (simp; omega) | (simp only [World.size_alloc, World.size_setCell, World.size_drew] at *; omega))) | (with_reducible refine bel_drewN ?_ _) | (with_reducible refine Below.drew ?_) | (with_reducible assumption) | (refine Hid.out ?_; with_reducible assumption) | (apply belV; (with_reducible assumption); exact (by first | omega | (simp; done) | (simp; omega) | (simp only [World.size_alloc, World.size_setCell, World.size_drew] at *; omega))))))
      have zb0 := hbd0.out.size
      go_wp2_with fail
      go_loopw [6] (fun s6 wr => ∃ k : Nat, k ≤ n ∧ s6 = .int .i64 k ∧ Hid (Box wr wdr.heap.size #[.slice A0 p.costs.length d0, .slice A1 p.uppers.length d1, .slice A2 p.rows.length d2]) ∧ Hid (Below wdr.heap.size wdr wr)) (fun s6 _ => n - (intOf s6).toNat)
      case atStart => exact ⟨0, by omega, rfl, Lib.hid (by (repeat' (first | (with_reducible exact Box.new _ _ _ (by first | omega | (simp; done) | (simp; omega) | (simp only [World.size_alloc, World.size_setCell, World.size_drew] at *; omega))) | (with_reducible refine Box.far ?_ (by first | omega | (simp; done) | (simp; omega) | (simp only [World.size_alloc, World.size_setCell, World.size_drew] at *; omega)) _) | (apply Box.put3_0) | (apply Box.put3_1) | (apply Box.put3_2) | (apply Box.put2_0) | (apply Box.put2_1) | (with_reducible refine Box.alloc ?_ _) | (with_reducible refine Box.drewN ?_ _) | (with_reducible refine Box.drew ?_) | (with_reducible assumption) | (refine Hid.out ?_; with_reducible assumption) | (apply Box.only; (with_reducible assumption); exact (by first | omega | (simp; done) | (simp; omega) | (simp only [World.size_alloc, World.size_setCell, World.size_drew] at *; omega))) | (apply Box.belowD; (with_reducible assumption))))), hbd0⟩
      case round =>
        obtain ⟨k, hk, rfl, hX, hbd⟩ := hrel
        have y0 := hX.out.1
        have zd := hbd.out.size
        obtain ⟨x0, x1, x2⟩ := Box.facts3 hX.out
        have hbel : Hid (Below w.heap.size w wr) := Lib.hid (belU hbd.out Gdr.out (by omega))
        by_cases hlt : k < n
        · obtain ⟨b, off, x, rfl, hbb, hx, hlo, hhi, hcx⟩ := (IX.out.below hbd.out).at_ hlt
          have HXK := Lib.hid (getD_of hx)
          have HX := Lib.hid hx; clear hx
          have IXr := Lib.hid (IX.out.below hbd.out)
          have hlit : Hid (Ints (wr.alloc (.cells #[] 3)) (some ⟨b, off, none⟩) n xs) := Lib.hid (IXr.out.below (by (repeat' (first | (with_reducible exact Below.refl _ _) | (with_reducible refine belS ?_ (by first | omega | (simp; done) | (simp; omega) | (simp only [World.size_alloc, World.size_setCell, World.size_drew] at *; omega))) | (with_reducible refine belA ?_ (by first | omega | (simp; done) | (simp; omega) | (simp only [World.size_alloc, World.size_setCell, World.size_drew] at *; omega))) | (with_reducible refine bel_drewN ?_ _) | (with_reducible refine Below.drew ?_) | (with_reducible assumption) | (refine Hid.out ?_; with_reducible assumption) | (apply belV; (with_reducible assumption); exact (by first | omega | (simp; done) | (simp; omega) | (simp only [World.size_alloc, World.size_setCell, World.size_drew] at *; omega)))))))
          have hlen : xs.length = n := hxl.out
          go_wp2_with (
            at_builtin
            refine wpList_append_own _ rfl (.tmp 39) (.tmp 40) 42 rfl wr.heap.size 3 i0 (.int .i64 0) 1 8 Try.underlying42 hi0 hz0 hz1 hz2 rfl (by decide) (.slice (some ⟨wr.heap.size, 0, none⟩) 0 0) 0 [] rfl (World.ownsRow_made (base := wr.heap.size) (e := 3) (size := 1) wr #[] 0 (Nat.le_refl _) (Nat.zero_le _) rfl) ⟨b, off, none⟩ n c (xs.map (Value.int .i64)) rfl ?c0 (news_at hlit.out) (one_ints xs) ?c3 ?c4 ?c5 ?_
            case c0 => rw [List.length_map]; omega
            case c3 => unfold maxLen; omega
            case c4 => omega
            case c5 => simp
            intro v' w1 hown' hgrow hnil2
            have O1 : Hid (Grow w1 wr.heap.size 3 v' xs) := Lib.hid (by
              unfold Grow
              have e := hxl.out
              rw [e]
              simpa using hown')
            have N1 : Hid (v' ≠ .slice none 0 0) := Lib.hid (fun h => by have := (hnil2.1 h).1; simp at this)
            have B1 : Hid (Below wr.heap.size wr w1) := Lib.hid (((Below.refl wr.heap.size wr).alloc (Nat.le_refl _) _).grown hgrow (by simp) (fun j hj => by simp [Value.ownBlock] at hj; omega))
            clear hown' hgrow hnil2
            obtain ⟨g, cg, rfl, hg1, og, lc, mc, ig⟩ := Grow.block O1.out N1.out IXr.out.2.1
            have hgx := (og.2 k x HX.out).1
            have hgf := (og.2 k x HX.out).2
            have OG := Lib.hid og
            have X1 : Hid (Box w1 wdr.heap.size #[.slice A0 p.costs.length d0, .slice A1 p.uppers.length d1, .slice A2 p.rows.length d2]) := Lib.hid (hX.out.below B1.out)
            clear ig og
            rw [hlen])
          obtain ⟨W2, hW2⟩ : ∃ W2, w1.setCell ⟨g, k, none⟩ (.int .i64 (wrap64 (x - 1))) = W2 := ⟨_, rfl⟩
          have O2 : Hid (OwnI W2 g (xs.set k (wrap64 (x - 1)))) := Lib.hid (by rw [← hW2]; exact OG.out.set_ HX.out _)
          have B2 : Hid (Below wr.heap.size wr W2) := Lib.hid (by rw [← hW2]; exact belS B1.out hg1)
          rw [hW2]
          clear hW2 OG X1 B1 O1
          have hbd2 : Hid (Below wdr.heap.size wdr W2) := Lib.hid (hbd.out.trans (B2.out.mono zd))
          have hX2 : Hid (Box W2 wdr.heap.size #[.slice A0 p.costs.length d0, .slice A1 p.uppers.length d1, .slice A2 p.rows.length d2]) := Lib.hid (hX.out.below B2.out)
          have y2 := hX2.out.1
          obtain ⟨x20, x21, x22⟩ := Box.facts3 hX2.out
          have hcx2 : W2.cell? ⟨b, off + k, none⟩ = some (.int .i64 x) := (B2.out.cell (p := ⟨b, off + k, none⟩) hbb).trans hcx
          clear hcx hgx hgf
          by_cases h0 : 0 < x
          · have hcl := cost_less (k := k) HB.out (by rw [hlen]; exact hlt) (by rw [HXK.out]; exact h0)
            rw [HXK.out, HC.out] at hcl
            obtain ⟨hcl1, hcl2, hcl3, hcl4, hcl5, hcl6⟩ := hcl
            have hwx : wrap64 (x - 1) = x - 1 := IntWalk.wrap64_in _ ⟨by omega, by omega⟩
            rw [hwx] at O2
            obtain ⟨v2, hv2⟩ : ∃ v2, costW p (xs.set k (x - 1)) = v2 := ⟨_, rfl⟩
            rw [hv2] at hcl1 hcl5 hcl6
            have HV2 := Lib.hid hv2; clear hv2
            obtain ⟨cb, coff, ck, rfl, hcb, hck, hclo, hchi, hccx⟩ := (PV.out.i0.below hbd2.out).at_ hcl4
            rw [getD_of hck] at hcl1 hcl2 hcl3
            clear hck
            have hwv : IntKind.i64.wrap (v2 + ck) = v := by rw [hcl1]; exact IntWalk.i64_in _ ⟨by omega, by omega⟩
            have hwv2 : wrap64 (v2 + ck) = v := by rw [hcl1]; exact IntWalk.wrap64_in _ ⟨by omega, by omega⟩
            have hkc : (k : Int) < (p.costs.length : Int) := by omega
            have I2 : Hid (Ints W2 (some ⟨g, 0, none⟩) n (xs.set k (x - 1))) := Lib.hid (by
              have := O2.out.ints (fun y hy => (List.mem_or_eq_of_mem_set hy).elim (IX.out.2.1 y) (fun e => by subst e; exact ⟨by omega, by omega⟩))
              rwa [List.length_set, hlen] at this)
            clear hlen
            have HLL := Lib.hid hcl1
            clear hcl1
            have hS0 : W2.cell? ⟨wdr.heap.size, 0, none⟩ = some (.slice (some ⟨cb, coff, none⟩) p.costs.length d0) ∧ W2.cell? ⟨wdr.heap.size, 1, none⟩ = some (.slice A1 p.uppers.length d1) ∧ W2.cell? ⟨wdr.heap.size, 2, none⟩ = some (.slice A2 p.rows.length d2) ∧ W2.cell? ⟨b, off + k, none⟩ = some (.int .i64 x) ∧ W2.cell? ⟨cb, coff + k, none⟩ = some (.int .i64 ck) := ⟨x20, x21, x22, hcx2, hccx⟩
            go_region_held3 (fun w' => (w'.cell? ⟨wdr.heap.size, 0, none⟩ = some (.slice (some ⟨cb, coff, none⟩) p.costs.length d0) ∧ w'.cell? ⟨wdr.heap.size, 1, none⟩ = some (.slice A1 p.uppers.length d1) ∧ w'.cell? ⟨wdr.heap.size, 2, none⟩ = some (.slice A2 p.rows.length d2) ∧ w'.cell? ⟨b, off + k, none⟩ = some (.int .i64 x) ∧ w'.cell? ⟨cb, coff + k, none⟩ = some (.int .i64 ck))) (first | assumption | (simp only [World.cell?_drew, World.cell?_drewN]; assumption))
              ((first
                | (go_at_call 49; refine (impl_CostOf _ _ _ _ _ _ _ _ _ p (xs.set k (x - 1)) _ (PV.out.below (by (repeat' (first | (with_reducible exact Below.refl _ _) | (with_reducible refine belS ?_ (by first | omega | (simp; done) | (simp; omega) | (simp only [World.size_alloc, World.size_setCell, World.size_drew] at *; omega))) | (with_reducible refine belA ?_ (by first | omega | (simp; done) | (simp; omega) | (simp only [World.size_alloc, World.size_setCell, World.size_drew] at *; omega))) | (with_reducible refine bel_drewN ?_ _) | (with_reducible refine Below.drew ?_) | (with_reducible assumption) | (refine Hid.out ?_; with_reducible assumption) | (apply belV; (with_reducible assumption); exact (by first | omega | (simp; done) | (simp; omega) | (simp only [World.size_alloc, World.size_setCell, World.size_drew] at *; omega))))))) (I2.out.below (by (repeat' (first | (with_reducible exact Below.refl _ _) | (with_reducible refine belS ?_ (by first | omega | (simp; done) | (simp; omega) | (simp only [World.size_alloc, World.size_setCell, World.size_drew] at *; omega))) | (with_reducible refine belA ?_ (by first | omega | (simp; done) | (simp; omega) | (simp only [World.size_alloc, World.size_setCell, World.size_drew] at *; omega))) | (with_reducible refine bel_drewN ?_ _) | (with_reducible refine Below.drew ?_) | (with_reducible assumption) | (refine Hid.out ?_; with_reducible assumption) | (apply belV; (with_reducible assumption); exact (by first | omega | (simp; done) | (simp; omega) | (simp only [World.size_alloc, World.size_setCell, World.size_drew] at *; omega))))))) hnm).mono ?_; rintro e wco ⟨rfl, hb⟩; have Gco : Hid (Below w.heap.size w wco) := belU hb (by (repeat' (first | (with_reducible exact Below.refl _ _) | (with_reducible refine belS ?_ (by first | omega | (simp; done) | (simp; omega) | (simp only [World.size_alloc, World.size_setCell, World.size_drew] at *; omega))) | (with_reducible refine belA ?_ (by first | omega | (simp; done) | (simp; omega) | (simp only [World.size_alloc, World.size_setCell, World.size_drew] at *; omega))) | (with_reducible refine bel_drewN ?_ _) | (with_reducible refine Below.drew ?_) | (with_reducible assumption) | (refine Hid.out ?_; with_reducible assumption) | (apply belV; (with_reducible assumption); exact (by first | omega | (simp; done) | (simp; omega) | (simp only [World.size_alloc, World.size_setCell, World.size_drew] at *; omega)))))) (by first | omega | (simp; done) | (simp; omega) | (simp only [World.size_alloc, World.size_setCell, World.size_drew] at *; omega)); have zco := hb.size; (try simp at zco); obtain ⟨hcco, hfco⟩ := bcell hb; (try have yvco_wim : wim.heap.size < wco.heap.size := by omega); (try have yvco_wsp : wsp.heap.size < wco.heap.size := by omega); (try have yvco_wsq : wsq.heap.size < wco.heap.size := by omega); (try have yvco_wim : wim.heap.size < wco.heap.size := by omega); (try have yvco_wsp : wsp.heap.size < wco.heap.size := by omega); have Dco := Lib.hid hb; clear hb; (have hS1 : wco.cell? ⟨wdr.heap.size, 0, none⟩ = some (.slice (some ⟨cb, coff, none⟩) p.costs.length d0) ∧ wco.cell? ⟨wdr.heap.size, 1, none⟩ = some (.slice A1 p.uppers.length d1) ∧ wco.cell? ⟨wdr.heap.size, 2, none⟩ = some (.slice A2 p.rows.length d2) ∧ wco.cell? ⟨b, off + k, none⟩ = some (.int .i64 x) ∧ wco.cell? ⟨cb, coff + k, none⟩ = some (.int .i64 ck) := ⟨(Dco.out.cell (p := ⟨_, 0, none⟩) (by simp; omega)).trans x20, (Dco.out.cell (p := ⟨_, 1, none⟩) (by simp; omega)).trans x21, (Dco.out.cell (p := ⟨_, 2, none⟩) (by simp; omega)).trans x22, (Dco.out.cell (p := ⟨b, off + k, none⟩) (by have := zd; have := B2.out.size; simp; omega)).trans hcx2, (Dco.out.cell (p := ⟨cb, coff + k, none⟩) (by simp; omega)).trans hccx⟩); rw [HV2.out])))
            all_goals
              have hX3 : Hid (Box wco wdr.heap.size #[.slice (some ⟨cb, coff, none⟩) p.costs.length d0, .slice A1 p.uppers.length d1, .slice A2 p.rows.length d2]) := Lib.hid (Box.below (w := W2.drew) hX2.out.drew Dco.out)
              have hB3 : Hid (Below wdr.heap.size wdr wco) := Lib.hid (Below.trans (b := W2.drew) hbd2.out.drew (Dco.out.mono (by simp; omega)))
              go_wp2_with fail
              go_roundw
              case rel => exact ⟨k + 1, by omega, by go_num, hX3, hB3⟩
              case measure => simp [intOf]; omega
          · go_quiet (fail)
            go_wp2_with fail
            go_roundw
            case rel => exact ⟨k + 1, by omega, by go_num, Lib.hid (by (repeat' (first | (with_reducible exact Box.new _ _ _ (by first | omega | (simp; done) | (simp; omega) | (simp only [World.size_alloc, World.size_setCell, World.size_drew] at *; omega))) | (with_reducible refine Box.far ?_ (by first | omega | (simp; done) | (simp; omega) | (simp only [World.size_alloc, World.size_setCell, World.size_drew] at *; omega)) _) | (apply Box.put3_0) | (apply Box.put3_1) | (apply Box.put3_2) | (apply Box.put2_0) | (apply Box.put2_1) | (with_reducible refine Box.alloc ?_ _) | (with_reducible refine Box.drewN ?_ _) | (with_reducible refine Box.drew ?_) | (with_reducible assumption) | (refine Hid.out ?_; with_reducible assumption) | (apply Box.only; (with_reducible assumption); exact (by first | omega | (simp; done) | (simp; omega) | (simp only [World.size_alloc, World.size_setCell, World.size_drew] at *; omega))) | (apply Box.belowD; (with_reducible assumption))))), Lib.hid (by (repeat' (first | (with_reducible exact Below.refl _ _) | (with_reducible refine belS ?_ (by first | omega | (simp; done) | (simp; omega) | (simp only [World.size_alloc, World.size_setCell, World.size_drew] at *; omega))) | (with_reducible refine belA ?_ (by first | omega | (simp; done) | (simp; omega) | (simp only [World.size_alloc, World.size_setCell, World.size_drew] at *; omega))) | (with_reducible refine bel_drewN ?_ _) | (with_reducible refine Below.drew ?_) | (with_reducible assumption) | (refine Hid.out ?_; with_reducible assumption) | (apply belV; (with_reducible assumption); exact (by first | omega | (simp; done) | (simp; omega) | (simp only [World.size_alloc, World.size_setCell, World.size_drew] at *; omega))))))⟩
            case measure => simp [intOf]; omega
        · have hke : k = n := by omega
          subst hke
          go_wp2_with fail
          go_ret
          exact ⟨rfl, by (repeat' (first | (with_reducible exact Below.refl _ _) | (with_reducible refine belS ?_ (by first | omega | (simp; done) | (simp; omega) | (simp only [World.size_alloc, World.size_setCell, World.size_drew] at *; omega))) | (with_reducible refine belA ?_ (by first | omega | (simp; done) | (simp; omega) | (simp only [World.size_alloc, World.size_setCell, World.size_drew] at *; omega))) | (with_reducible refine bel_drewN ?_ _) | (with_reducible refine Below.drew ?_) | (with_reducible assumption) | (refine Hid.out ?_; with_reducible assumption) | (apply belV; (with_reducible assumption); exact (by first | omega | (simp; done) | (simp; omega) | (simp only [World.size_alloc, World.size_setCell, World.size_drew] at *; omega)))))⟩
end Go.Proofs.Ytpcfnlffamgdaab
