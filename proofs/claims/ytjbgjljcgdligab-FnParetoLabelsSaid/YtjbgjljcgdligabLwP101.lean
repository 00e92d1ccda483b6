
/-
  The walk of the law that none of what is left dominates another, and that every label is equal to one that is left or dominated by one.
-/
import Derived.Test.YtjbgjljcgdligabYg
import Derived.Test.YtjbgjljcgdligabYi
import Derived.Test.YtjbgjljcgdligabYe
import Derived.Test.YtjbgjljcgdligabYf
import Derived.Test.YtjbgjljcgdligabYh
import Derived.StillTailTactics
set_option linter.unusedSimpArgs false
set_option linter.unusedVariables false
namespace Go.Proofs.Ytjbgjljcgdligab
open Go.RowKit


theorem labEq {w : World} {A : Option Addr} {L : List PLab} (h : Ints w A (flL L).length (flL L)) : LabS w A L.length L := ⟨rfl, flL_len L ▸ h⟩
theorem parV_short (ls : List PLab) : (parV ls).length ≤ 20 := by
  by_cases h20 : ls.length ≤ 20
  · rw [parV_2 h20]; have := parL_len ls ls.length; omega
  · rw [parV_1 h20]; simp
/-- Label number k of what is left is equal to x, or dominates it. -/
def hitK (L : List PLab) (x : PLab) (k : Nat) : Bool := match L[k]? with
  | some y => eqLB y x || domB y x
  | none => false
theorem hitK_at {L : List PLab} {k : Nat} {x y : PLab} (h : L[k]? = some y) : hitK L x k = (eqLB y x || domB y x) := by simp [hitK, h]
theorem hit_some {ls : List PLab} {x : PLab} (h20 : ls.length ≤ 20) (hx : x ∈ ls) : rall (fun k => !hitK (parV ls) x k) (parV ls).length = false := by
  cases hr : rall (fun k => !hitK (parV ls) x k) (parV ls).length
  · rfl
  exfalso
  obtain ⟨y, hy, h⟩ := par_some ls _ x hx (Nat.le_refl _)
  rw [← parV_2 h20] at hy
  obtain ⟨k, hk⟩ := List.mem_iff_getElem?.1 hy
  have h1 := rall_at hr (List.getElem?_eq_some_iff.1 hk).1
  simp only [hitK_at hk] at h1
  rcases h with rfl | h
  · simp [eqLB_refl] at h1
  · simp [h] at h1
theorem impl_DomI (r : Bool) (xa xm xt xo xc ya ym yt yo yc : Int) (w : World) (hm : I64 xm) (hr : domB ⟨xa, xm, xt, xo, xc⟩ ⟨ya, ym, yt, yo, yc⟩ = r) :
    Calls Try.prog 43 #[.agg #[.int .i64 xa, .int .i64 xm, .int .i64 xt, .int .i64 xo, .int .i64 xc], .agg #[.int .i64 ya, .int .i64 ym, .int .i64 yt, .int .i64 yo, .int .i64 yc]] w fun e w' => e = .returned (.bool r) ∧ Below w.heap.size w w' := by
  subst hr; exact impl_Dominates ⟨xa, xm, xt, xo, xc⟩ ⟨ya, ym, yt, yo, yc⟩ w hm

set_option maxHeartbeats 16000000 in
set_option maxRecDepth 100000 in
theorem FnParetoLabels_walk (a : Option Addr) (len cap : Nat) (w : World) (h : By w.heap.size w a len cap) :
    Calls Try.prog 10 #[.slice a len cap] w fun e w' => e = .returned (.bool true) ∧ Below w.heap.size w w' := by
  have hl := h.1
  have hl2 := h.2.1
  unfold maxLen at hl2
  have H := Lib.hid h; clear h
  by_cases hbig : 1048576 < len
  · go_enter Try.func10, Try.ntmps10
    go_wp2_with fail
    go_ret
    exact ⟨rfl, Below.refl _ _⟩
  go_enter Try.func10, Try.ntmps10
  go_wp2_with fail
  refine (DrawParetoLabels_any _ _ _ _ H.out).mono ?_
  rintro e wdr ⟨A, c, ls, l21, hok, rfl, lc, cm, hls, hb⟩
  have Gdr : Hid (Below w.heap.size w wdr) := belU hb (by (repeat' (first | (with_reducible exact Below.refl _ _) | (with_reducible refine belS ?_ (by first | omega | (simp; done) | (simp; omega) | (simp only [World.size_alloc, World.size_setCell, World.size_drew] at *; omega))) | (with_reducible refine belA ?_ (by first | omega | (simp; done) | (simp; omega) | (simp only [World.size_alloc, World.size_setCell, World.size_drew] at *; omega))) | (with_reducible refine bel_drewN ?_ _) | (with_reducible refine Below.drew ?_) | (with_reducible assumption) | (refine Hid.out ?_; with_reducible assumption) | (apply belV; (with_reducible assumption); exact (by first | omega | (simp; done) | (simp; omega) | (simp only [World.size_alloc, World.size_setCell, World.size_drew] at *; omega)))))) (by first | omega | (simp; done) | (simp; omega) | (simp only [World.size_alloc, World.size_setCell, World.size_drew] at *; omega))
  have L21 := Lib.hid l21; clear l21
  have OK := Lib.hid hok; clear hok
  have LC := Lib.hid lc; clear lc
  have CM := Lib.hid cm; clear cm
  have HLS := Lib.hid hls; clear hls
  have zdr := hb.size
  (try simp at zdr)
  have Ddr := Lib.hid hb; clear hb
  have SH := Lib.hid (parV_short ls)
  have sM : Hid (ls.length ≤ maxLen) := Lib.hid (by have := L21.out; unfold maxLen; omega)
  have sP : Hid ((parV ls).length ≤ maxLen) := Lib.hid (by have := SH.out; unfold maxLen; omega)
  go_wp2_with fail
  refine (impl_ParetoLabelsC _ _ _ ls _ (HLS.out.below (by (repeat' (first | (with_reducible exact Below.refl _ _) | (with_reducible refine belS ?_ (by first | omega | (simp; done) | (simp; omega) | (simp only [World.size_alloc, World.size_setCell, World.size_drew] at *; omega))) | (with_reducible refine belA ?_ (by first | omega | (simp; done) | (simp; omega) | (simp only [World.size_alloc, World.size_setCell, World.size_drew] at *; omega))) | (with_reducible refine bel_drewN ?_ _) | (with_reducible refine Below.drew ?_) | (with_reducible assumption) | (refine Hid.out ?_; with_reducible assumption) | (apply belV; (with_reducible assumption); exact (by first | omega | (simp; done) | (simp; omega) | (simp only [World.size_alloc, World.size_setCell, World.size_drew] at *; omega))))))) OK.out LC.out sM.out).mono ?_
  rintro e wim ⟨Aim, cim, rfl, how, hcc, hb⟩
  have Gim : Hid (Below w.heap.size w wim) := belU hb (by (repeat' (first | (with_reducible exact Below.refl _ _) | (with_reducible refine belS ?_ (by first | omega | (simp; done) | (simp; omega) | (simp only [World.size_alloc, World.size_setCell, World.size_drew] at *; omega))) | (with_reducible refine belA ?_ (by first | omega | (simp; done) | (simp; omega) | (simp only [World.size_alloc, World.size_setCell, World.size_drew] at *; omega))) | (with_reducible refine bel_drewN ?_ _) | (with_reducible refine Below.drew ?_) | (with_reducible assumption) | (refine Hid.out ?_; with_reducible assumption) | (apply belV; (with_reducible assumption); exact (by first | omega | (simp; done) | (simp; omega) | (simp only [World.size_alloc, World.size_setCell, World.size_drew] at *; omega)))))) (by first | omega | (simp; done) | (simp; omega) | (simp only [World.size_alloc, World.size_setCell, World.size_drew] at *; omega))
  (try simp only [World.size_alloc, World.size_setCell, World.size_drew, World.heap_drewN] at how)
  have W1 := Lib.hid how; clear how
  have CC := Lib.hid hcc; clear hcc
  have zim := hb.size
  (try simp at zim)
  have Dim := Lib.hid hb; clear hb
  go_wp2_with fail
  refine (spec_ParetoLabels _ _ _ ls _ (HLS.out.below (by (repeat' (first | (with_reducible exact Below.refl _ _) | (with_reducible refine belS ?_ (by first | omega | (simp; done) | (simp; omega) | (simp only [World.size_alloc, World.size_setCell, World.size_drew] at *; omega))) | (with_reducible refine belA ?_ (by first | omega | (simp; done) | (simp; omega) | (simp only [World.size_alloc, World.size_setCell, World.size_drew] at *; omega))) | (with_reducible refine bel_drewN ?_ _) | (with_reducible refine Below.drew ?_) | (with_reducible assumption) | (refine Hid.out ?_; with_reducible assumption) | (apply belV; (with_reducible assumption); exact (by first | omega | (simp; done) | (simp; omega) | (simp only [World.size_alloc, World.size_setCell, World.size_drew] at *; omega))))))) OK.out sM.out).mono ?_
  rintro e wsp ⟨Asp, csp, rfl, how, hb⟩
  have Gsp : Hid (Below w.heap.size w wsp) := belU hb (by (repeat' (first | (with_reducible exact Below.refl _ _) | (with_reducible refine belS ?_ (by first | omega | (simp; done) | (simp; omega) | (simp only [World.size_alloc, World.size_setCell, World.size_drew] at *; omega))) | (with_reducible refine belA ?_ (by first | omega | (simp; done) | (simp; omega) | (simp only [World.size_alloc, World.size_setCell, World.size_drew] at *; omega))) | (with_reducible refine bel_drewN ?_ _) | (with_reducible refine Below.drew ?_) | (with_reducible assumption) | (refine Hid.out ?_; with_reducible assumption) | (apply belV; (with_reducible assumption); exact (by first | omega | (simp; done) | (simp; omega) | (simp only [World.size_alloc, World.size_setCell, World.size_drew] at *; omega)))))) (by first | omega | (simp; done) | (simp; omega) | (simp only [World.size_alloc, World.size_setCell, World.size_drew] at *; omega))
  (try simp only [World.size_alloc, World.size_setCell, World.size_drew, World.heap_drewN] at how)
  have W0 := Lib.hid how; clear how
  have zsp := hb.size
  (try simp at zsp)
  have Dsp := Lib.hid hb; clear hb
  go_wp2_with fail
  refine (laws_equalLabels _ _ (parV ls).length _ _ (parV ls) _ (labEq (OwnS.ints (OwnS.by_ W1 (by (repeat' (first | (with_reducible exact OwnS.madeAt _ _ _ (by first | omega | (simp; done) | (simp; omega) | (simp only [World.size_alloc, World.size_setCell, World.size_drew] at *; omega))) | (with_reducible refine OwnS.far ?_ (by first | omega | (simp; done) | (simp; omega) | (simp only [World.size_alloc, World.size_setCell, World.size_drew] at *; omega)) _) | (with_reducible refine OwnS.alloc ?_ _) | (with_reducible refine OwnS.drewN ?_ _) | (with_reducible refine OwnS.drew ?_) | (with_reducible assumption) | (refine Hid.out ?_; with_reducible assumption) | (apply OwnS.turn; (with_reducible assumption); exact (by first | omega | (simp; done) | (simp; omega) | (simp only [World.size_alloc, World.size_setCell, World.size_drew] at *; omega))) | (apply OwnS.only; (with_reducible assumption); exact (by first | omega | (simp; done) | (simp; omega) | (simp only [World.size_alloc, World.size_setCell, World.size_drew] at *; omega))) | (apply OwnS.belowD; (with_reducible assumption)))))))) (labEq (OwnS.ints (OwnS.by_ W0 (by (repeat' (first | (with_reducible exact OwnS.madeAt _ _ _ (by first | omega | (simp; done) | (simp; omega) | (simp only [World.size_alloc, World.size_setCell, World.size_drew] at *; omega))) | (with_reducible refine OwnS.far ?_ (by first | omega | (simp; done) | (simp; omega) | (simp only [World.size_alloc, World.size_setCell, World.size_drew] at *; omega)) _) | (with_reducible refine OwnS.alloc ?_ _) | (with_reducible refine OwnS.drewN ?_ _) | (with_reducible refine OwnS.drew ?_) | (with_reducible assumption) | (refine Hid.out ?_; with_reducible assumption) | (apply OwnS.turn; (with_reducible assumption); exact (by first | omega | (simp; done) | (simp; omega) | (simp only [World.size_alloc, World.size_setCell, World.size_drew] at *; omega))) | (apply OwnS.only; (with_reducible assumption); exact (by first | omega | (simp; done) | (simp; omega) | (simp only [World.size_alloc, World.size_setCell, World.size_drew] at *; omega))) | (apply OwnS.belowD; (with_reducible assumption)))))))) sP.out).mono ?_
  rintro e wq0 ⟨rfl, hb⟩
  have Gq0 : Hid (Below w.heap.size w wq0) := belU hb (by (repeat' (first | (with_reducible exact Below.refl _ _) | (with_reducible refine belS ?_ (by first | omega | (simp; done) | (simp; omega) | (simp only [World.size_alloc, World.size_setCell, World.size_drew] at *; omega))) | (with_reducible refine belA ?_ (by first | omega | (simp; done) | (simp; omega) | (simp only [World.size_alloc, World.size_setCell, World.size_drew] at *; omega))) | (with_reducible refine bel_drewN ?_ _) | (with_reducible refine Below.drew ?_) | (with_reducible assumption) | (refine Hid.out ?_; with_reducible assumption) | (apply belV; (with_reducible assumption); exact (by first | omega | (simp; done) | (simp; omega) | (simp only [World.size_alloc, World.size_setCell, World.size_drew] at *; omega)))))) (by first | omega | (simp; done) | (simp; omega) | (simp only [World.size_alloc, World.size_setCell, World.size_drew] at *; omega))
  have zq0 := hb.size
  (try simp at zq0)
  have Dq0 := Lib.hid hb; clear hb
  by_cases h20 : 20 < ls.length
  · go_wp2_with fail
    refine (spec_ParetoLabels _ _ _ ls _ (HLS.out.below (by (repeat' (first | (with_reducible exact Below.refl _ _) | (with_reducible refine belS ?_ (by first | omega | (simp; done) | (simp; omega) | (simp only [World.size_alloc, World.size_setCell, World.size_drew] at *; omega))) | (with_reducible refine belA ?_ (by first | omega | (simp; done) | (simp; omega) | (simp only [World.size_alloc, World.size_setCell, World.size_drew] at *; omega))) | (with_reducible refine bel_drewN ?_ _) | (with_reducible refine Below.drew ?_) | (with_reducible assumption) | (refine Hid.out ?_; with_reducible assumption) | (apply belV; (with_reducible assumption); exact (by first | omega | (simp; done) | (simp; omega) | (simp only [World.size_alloc, World.size_setCell, World.size_drew] at *; omega))))))) OK.out sM.out).mono ?_
    rintro e wsp2 ⟨As2, cs2, rfl, how, hb⟩
    have Gsp2 : Hid (Below w.heap.size w wsp2) := belU hb (by (repeat' (first | (with_reducible exact Below.refl _ _) | (with_reducible refine belS ?_ (by first | omega | (simp; done) | (simp; omega) | (simp only [World.size_alloc, World.size_setCell, World.size_drew] at *; omega))) | (with_reducible refine belA ?_ (by first | omega | (simp; done) | (simp; omega) | (simp only [World.size_alloc, World.size_setCell, World.size_drew] at *; omega))) | (with_reducible refine bel_drewN ?_ _) | (with_reducible refine Below.drew ?_) | (with_reducible assumption) | (refine Hid.out ?_; with_reducible assumption) | (apply belV; (with_reducible assumption); exact (by first | omega | (simp; done) | (simp; omega) | (simp only [World.size_alloc, World.size_setCell, World.size_drew] at *; omega)))))) (by first | omega | (simp; done) | (simp; omega) | (simp only [World.size_alloc, World.size_setCell, World.size_drew] at *; omega))
    (try simp only [World.size_alloc, World.size_setCell, World.size_drew, World.heap_drewN] at how)
    have W2 := Lib.hid how; clear how
    have zsp2 := hb.size
    (try simp at zsp2)
    have Dsp2 := Lib.hid hb; clear hb
    go_wp2_with fail
    refine (laws_equalLabels _ _ (parV ls).length _ _ (parV ls) _ (labEq (OwnS.ints (OwnS.by_ W1 (by (repeat' (first | (with_reducible exact OwnS.madeAt _ _ _ (by first | omega | (simp; done) | (simp; omega) | (simp only [World.size_alloc, World.size_setCell, World.size_drew] at *; omega))) | (with_reducible refine OwnS.far ?_ (by first | omega | (simp; done) | (simp; omega) | (simp only [World.size_alloc, World.size_setCell, World.size_drew] at *; omega)) _) | (with_reducible refine OwnS.alloc ?_ _) | (with_reducible refine OwnS.drewN ?_ _) | (with_reducible refine OwnS.drew ?_) | (with_reducible assumption) | (refine Hid.out ?_; with_reducible assumption) | (apply OwnS.turn; (with_reducible assumption); exact (by first | omega | (simp; done) | (simp; omega) | (simp only [World.size_alloc, World.size_setCell, World.size_drew] at *; omega))) | (apply OwnS.only; (with_reducible assumption); exact (by first | omega | (simp; done) | (simp; omega) | (simp only [World.size_alloc, World.size_setCell, World.size_drew] at *; omega))) | (apply OwnS.belowD; (with_reducible assumption)))))))) (labEq (OwnS.ints (OwnS.by_ W2 (by (repeat' (first | (with_reducible exact OwnS.madeAt _ _ _ (by first | omega | (simp; done) | (simp; omega) | (simp only [World.size_alloc, World.size_setCell, World.size_drew] at *; omega))) | (with_reducible refine OwnS.far ?_ (by first | omega | (simp; done) | (simp; omega) | (simp only [World.size_alloc, World.size_setCell, World.size_drew] at *; omega)) _) | (with_reducible refine OwnS.alloc ?_ _) | (with_reducible refine OwnS.drewN ?_ _) | (with_reducible refine OwnS.drew ?_) | (with_reducible assumption) | (refine Hid.out ?_; with_reducible assumption) | (apply OwnS.turn; (with_reducible assumption); exact (by first | omega | (simp; done) | (simp; omega) | (simp only [World.size_alloc, World.size_setCell, World.size_drew] at *; omega))) | (apply OwnS.only; (with_reducible assumption); exact (by first | omega | (simp; done) | (simp; omega) | (simp only [World.size_alloc, World.size_setCell, World.size_drew] at *; omega))) | (apply OwnS.belowD; (with_reducible assumption)))))))) sP.out).mono ?_
    rintro e wq1 ⟨rfl, hb⟩
    have Gq1 : Hid (Below w.heap.size w wq1) := belU hb (by (repeat' (first | (with_reducible exact Below.refl _ _) | (with_reducible refine belS ?_ (by first | omega | (simp; done) | (simp; omega) | (simp only [World.size_alloc, World.size_setCell, World.size_drew] at *; omega))) | (with_reducible refine belA ?_ (by first | omega | (simp; done) | (simp; omega) | (simp only [World.size_alloc, World.size_setCell, World.size_drew] at *; omega))) | (with_reducible refine bel_drewN ?_ _) | (with_reducible refine Below.drew ?_) | (with_reducible assumption) | (refine Hid.out ?_; with_reducible assumption) | (apply belV; (with_reducible assumption); exact (by first | omega | (simp; done) | (simp; omega) | (simp only [World.size_alloc, World.size_setCell, World.size_drew] at *; omega)))))) (by first | omega | (simp; done) | (simp; omega) | (simp only [World.size_alloc, World.size_setCell, World.size_drew] at *; omega))
    have zq1 := hb.size
    (try simp at zq1)
    have Dq1 := Lib.hid hb; clear hb
    go_wp2_with fail
    go_ret
    exact ⟨rfl, by (repeat' (first | (with_reducible exact Below.refl _ _) | (with_reducible refine belS ?_ (by first | omega | (simp; done) | (simp; omega) | (simp only [World.size_alloc, World.size_setCell, World.size_drew] at *; omega))) | (with_reducible refine belA ?_ (by first | omega | (simp; done) | (simp; omega) | (simp only [World.size_alloc, World.size_setCell, World.size_drew] at *; omega))) | (with_reducible refine bel_drewN ?_ _) | (with_reducible refine Below.drew ?_) | (with_reducible assumption) | (refine Hid.out ?_; with_reducible assumption) | (apply belV; (with_reducible assumption); exact (by first | omega | (simp; done) | (simp; omega) | (simp only [World.size_alloc, World.size_setCell, World.size_drew] at *; omega)))))⟩
  have PA : Hid (∀ (i k : Nat) (x y : PLab), (parV ls)[i]? = some x → (parV ls)[k]? = some y → i ≠ k → domB x y = false) := Lib.hid (by
    intro i k x y hx hy hik
    rw [parV_2 (by omega)] at hx hy
    exact par_apart hx hy hik)
  have PS : Hid (∀ (x : PLab), x ∈ ls → rall (fun k => !hitK (parV ls) x k) (parV ls).length = false) := Lib.hid (fun x hx => hit_some (by omega) hx)
  obtain ⟨m, hm⟩ : ∃ m, m = (parV ls).length := ⟨_, rfl⟩
  obtain ⟨n, hn⟩ : ∃ n, n = ls.length := ⟨_, rfl⟩
  have IM : Hid (LabS wq0 Aim m (parV ls)) := Lib.hid (by rw [hm]; exact labEq (OwnS.ints (OwnS.by_ W1 (by (repeat' (first | (with_reducible exact OwnS.madeAt _ _ _ (by first | omega | (simp; done) | (simp; omega) | (simp only [World.size_alloc, World.size_setCell, World.size_drew] at *; omega))) | (with_reducible refine OwnS.far ?_ (by first | omega | (simp; done) | (simp; omega) | (simp only [World.size_alloc, World.size_setCell, World.size_drew] at *; omega)) _) | (with_reducible refine OwnS.alloc ?_ _) | (with_reducible refine OwnS.drewN ?_ _) | (with_reducible refine OwnS.drew ?_) | (with_reducible assumption) | (refine Hid.out ?_; with_reducible assumption) | (apply OwnS.turn; (with_reducible assumption); exact (by first | omega | (simp; done) | (simp; omega) | (simp only [World.size_alloc, World.size_setCell, World.size_drew] at *; omega))) | (apply OwnS.only; (with_reducible assumption); exact (by first | omega | (simp; done) | (simp; omega) | (simp only [World.size_alloc, World.size_setCell, World.size_drew] at *; omega))) | (apply OwnS.belowD; (with_reducible assumption))))))))
  have IL : Hid (LabS wq0 A n ls) := Lib.hid (by rw [hn]; exact HLS.out.below (by (repeat' (first | (with_reducible exact Below.refl _ _) | (with_reducible refine belS ?_ (by first | omega | (simp; done) | (simp; omega) | (simp only [World.size_alloc, World.size_setCell, World.size_drew] at *; omega))) | (with_reducible refine belA ?_ (by first | omega | (simp; done) | (simp; omega) | (simp only [World.size_alloc, World.size_setCell, World.size_drew] at *; omega))) | (with_reducible refine bel_drewN ?_ _) | (with_reducible refine Below.drew ?_) | (with_reducible assumption) | (refine Hid.out ?_; with_reducible assumption) | (apply belV; (with_reducible assumption); exact (by first | omega | (simp; done) | (simp; omega) | (simp only [World.size_alloc, World.size_setCell, World.size_drew] at *; omega)))))))
  have HM := Lib.hid hm
  have HN := Lib.hid hn
  have m20 : m ≤ 20 := by rw [hm]; exact SH.out
  have n20 : n ≤ 20 := by omega
  rw [← hm, ← hn]
  rw [← hn] at h20
  clear W1 W0 hm hn hbig
  go_wp2_with fail
  clear h20
  go_loopw [5, 6] (fun s5 s6 wr => ∃ (i : Nat) (u6 : Value), i ≤ m ∧ s5 = .int .i64 i ∧ u6 = s6 ∧ Hid (Below wq0.heap.size wq0 wr)) (fun s5 _ _ => m - (intOf s5).toNat)
  case atStart => exact ⟨0, _, by omega, rfl, rfl, Lib.hid (Below.refl _ _)⟩
  case round =>
    obtain ⟨i, u6, hi, rfl, rfl, hbel⟩ := hrel
    have zz := hbel.out.size
    by_cases hlt : i < m
    · go_wp2_with fail
      go_loopw [6] (fun s6 wr => ∃ k : Nat, k ≤ m ∧ s6 = .int .i64 k ∧ Hid (Below wq0.heap.size wq0 wr)) (fun s6 _ => m - (intOf s6).toNat)
      case atStart => exact ⟨0, by omega, rfl, hbel⟩
      case round =>
        obtain ⟨k, hk, rfl, hbel2⟩ := hrel
        have zz2 := hbel2.out.size
        by_cases hlk : k < m
        · by_cases hik : i = k
          · subst hik
            have hT : ((i : Int) != (i : Int)) = false := by simp
            go_wp2_with fail
            go_quiet (fail)
            go_wp2_with fail
            go_roundw
            case rel => exact ⟨i + 1, by omega, by go_num, Lib.hid (bel_drewN hbel2.out _)⟩
            case measure => simp [intOf]; omega
          · obtain ⟨b, off, x, rfl, hb, hx, hxok, x0, x1, x2, x3, x4⟩ := (IM.out.below hbel2.out).at_ hlt
            obtain ⟨b', off', y, e, hb', hy, hyok, y0, y1, y2, y3, y4⟩ := (IM.out.below hbel2.out).at_ hlk
            injection e with e; injection e with e1 e2; subst e1 e2
            have hdom := PA.out i k x y hx hy hik
            have hT : ((i : Int) != (k : Int)) = true := by rw [bne_iff_ne]; omega
            have HD := Lib.hid hdom
            have HXM : Hid (I64 x.m) := Lib.hid hxok.2.1
            clear hdom hx hy hxok hyok hik hb'
            go_wp2_with fail
            go_still_tail 12, (by kernel_rfl)
            change wpList _ _ _ _ _ (World.drew _)
            go_wp2_with fail
            refine (impl_Dominates x y _ HXM.out).mono ?_
            rintro e w3 ⟨rfl, hb3⟩
            have S3 : Hid (Below wq0.heap.size wq0 w3) := belU hb3 (by (repeat' (first | (with_reducible exact Below.refl _ _) | (with_reducible refine belS ?_ (by first | omega | (simp; done) | (simp; omega) | (simp only [World.size_alloc, World.size_setCell, World.size_drew] at *; omega))) | (with_reducible refine belA ?_ (by first | omega | (simp; done) | (simp; omega) | (simp only [World.size_alloc, World.size_setCell, World.size_drew] at *; omega))) | (with_reducible refine bel_drewN ?_ _) | (with_reducible refine Below.drew ?_) | (with_reducible assumption) | (refine Hid.out ?_; with_reducible assumption) | (apply belV; (with_reducible assumption); exact (by first | omega | (simp; done) | (simp; omega) | (simp only [World.size_alloc, World.size_setCell, World.size_drew] at *; omega)))))) (by first | omega | (simp; done) | (simp; omega) | (simp only [World.size_alloc, World.size_setCell, World.size_drew] at *; omega))
            clear hb3
            rw [HD.out]
            go_wp2_with fail
            go_roundw
            case rel => exact ⟨k + 1, by omega, by go_num, S3⟩
            case measure => simp [intOf]; omega
        · go_wp2_with fail
          go_roundw
          case rel => exact ⟨i + 1, _, by omega, by go_num, rfl, hbel2⟩
          case measure => simp [intOf]; omega
    · go_wp2_with fail
      clear hlt
      go_loopw [7, 8, 9] (fun s7 s8 s9 wr => ∃ (i : Nat) (u8 u9 : Value), i ≤ n ∧ s7 = .int .i64 i ∧ u8 = s8 ∧ u9 = s9 ∧ Hid (Below wq0.heap.size wq0 wr)) (fun s7 _ _ _ => n - (intOf s7).toNat)
      case atStart => exact ⟨0, _, _, by omega, rfl, rfl, rfl, hbel⟩
      case round =>
        obtain ⟨i, u8, u9, hi, rfl, rfl, rfl, hbel3⟩ := hrel
        have zz3 := hbel3.out.size
        by_cases hlt : i < n
        · obtain ⟨x, hx⟩ : ∃ x, ls[i]? = some x := ⟨_, List.getElem?_eq_getElem (by rw [← HN.out]; exact hlt)⟩
          have HX := Lib.hid hx; clear hx
          have HS : Hid (rall (fun k => !hitK (parV ls) x k) m = false) := Lib.hid (by rw [HM.out]; exact PS.out x (List.mem_of_getElem? HX.out))
          go_wp2_with fail
          go_loopw [8, 9] (fun s8 s9 wr => ∃ (k : Nat) (g : Bool), k ≤ m ∧ s8 = .bool g ∧ s9 = .int .i64 k ∧ Hid (g = !rall (fun k => !hitK (parV ls) x k) k) ∧ Hid (Below wq0.heap.size wq0 wr)) (fun _ s9 _ => m - (intOf s9).toNat)
          case atStart => exact ⟨0, false, by omega, rfl, rfl, Lib.hid (by rw [rall_0]; rfl), hbel3⟩
          case round =>
            obtain ⟨k, g, hk, rfl, rfl, hg, hbel4⟩ := hrel
            have zz4 := hbel4.out.size
            by_cases hlk : k < m
            · cases g
              rotate_left
              · have NB : Hid (true = !rall (fun k => !hitK (parV ls) x k) (k + 1)) := Lib.hid (by rw [rall_succ]; have := hg.out; revert this; cases rall (fun k => !hitK (parV ls) x k) k <;> simp)
                go_wp2_with fail
                go_quiet (fail)
                go_wp2_with fail
                go_roundw
                case rel => exact ⟨k + 1, _, by omega, rfl, by go_num, NB, Lib.hid (bel_drewN hbel4.out _)⟩
                case measure => simp [intOf]; omega
              have GF : Hid (rall (fun k => !hitK (parV ls) x k) k = true) := Lib.hid (by have := hg.out; revert this; cases rall (fun k => !hitK (parV ls) x k) k <;> simp)
              obtain ⟨b, off, x', rfl, hb, hx', hxok, x0, x1, x2, x3, x4⟩ := (IL.out.below hbel4.out).at_ hlt
              rw [HX.out] at hx'; injection hx' with hx'; subst hx'
              obtain ⟨b', off', y, rfl, hb', hy, hyok, y0, y1, y2, y3, y4⟩ := (IM.out.below hbel4.out).at_ hlk
              have NB : Hid (∀ g : Bool, g = (eqLB y x || domB y x) → g = !rall (fun k => !hitK (parV ls) x k) (k + 1)) := Lib.hid (by intro g hg; rw [rall_succ, GF.out, hitK_at hy, hg]; simp)
              have HYM : Hid (I64 y.m) := Lib.hid hyok.2.1
              clear hy hxok hyok
              cases he : eqLB y x
              rotate_left
              · obtain rfl := eqLB_iff.1 he
                have N1 := Lib.hid (NB.out true (by rw [he]; rfl))
                clear he NB
                go_wp2_with fail
                go_quiet (fail)
                go_wp2_with fail
                go_roundw
                case rel => exact ⟨k + 1, _, by omega, rfl, by go_num, N1, Lib.hid (bel_drewN hbel4.out _)⟩
                case measure => simp [intOf]; omega
              generalize hd : domB y x = r
              have N1 := Lib.hid (NB.out r (by rw [he, hd]; rfl))
              clear NB HS HX
              have IL' := IL
              obtain ⟨ya, ym, yt, yo, yc⟩ := y
              obtain ⟨xa, xm, xt, xo, xc⟩ := x
              dsimp only at y0 y1 y2 y3 y4 x0 x1 x2 x3 x4 HYM
              rcases differ he with e0 | ⟨e0, e1⟩ | ⟨e0, e1, e2⟩ | ⟨e0, e1, e2, e3⟩ | ⟨e0, e1, e2, e3, e4⟩
              · simp only at e0
                clear he
                go_wp2_with fail
                go_still_tail 21, (by kernel_rfl)
                change wpList _ _ _ _ _ (World.drew _)
                go_wp2_with fail
                refine (impl_DomI r _ _ _ _ _ _ _ _ _ _ _ HYM.out hd).mono ?_
                rintro e w3 ⟨rfl, hb3⟩
                have S3 : Hid (Below wq0.heap.size wq0 w3) := belU hb3 (by (repeat' (first | (with_reducible exact Below.refl _ _) | (with_reducible refine belS ?_ (by first | omega | (simp; done) | (simp; omega) | (simp only [World.size_alloc, World.size_setCell, World.size_drew] at *; omega))) | (with_reducible refine belA ?_ (by first | omega | (simp; done) | (simp; omega) | (simp only [World.size_alloc, World.size_setCell, World.size_drew] at *; omega))) | (with_reducible refine bel_drewN ?_ _) | (with_reducible refine Below.drew ?_) | (with_reducible assumption) | (refine Hid.out ?_; with_reducible assumption) | (apply belV; (with_reducible assumption); exact (by first | omega | (simp; done) | (simp; omega) | (simp only [World.size_alloc, World.size_setCell, World.size_drew] at *; omega)))))) (by first | omega | (simp; done) | (simp; omega) | (simp only [World.size_alloc, World.size_setCell, World.size_drew] at *; omega))
                clear hb3
                cases r
                · go_wp2_with fail
                  go_roundw
                  case rel => exact ⟨k + 1, _, by omega, rfl, by go_num, N1, S3⟩
                  case measure => simp [intOf]; omega
                · go_wp2_with fail
                  go_roundw
                  case rel => exact ⟨k + 1, _, by omega, rfl, by go_num, N1, S3⟩
                  case measure => simp [intOf]; omega
              · have f0 : xa = ya := e0.symm
                clear e0; subst xa
                simp only at e1
                clear he
                go_wp2_with fail
                go_still_tail 21, (by kernel_rfl)
                change wpList _ _ _ _ _ (World.drew _)
                go_wp2_with fail
                refine (impl_DomI r _ _ _ _ _ _ _ _ _ _ _ HYM.out hd).mono ?_
                rintro e w3 ⟨rfl, hb3⟩
                have S3 : Hid (Below wq0.heap.size wq0 w3) := belU hb3 (by (repeat' (first | (with_reducible exact Below.refl _ _) | (with_reducible refine belS ?_ (by first | omega | (simp; done) | (simp; omega) | (simp only [World.size_alloc, World.size_setCell, World.size_drew] at *; omega))) | (with_reducible refine belA ?_ (by first | omega | (simp; done) | (simp; omega) | (simp only [World.size_alloc, World.size_setCell, World.size_drew] at *; omega))) | (with_reducible refine bel_drewN ?_ _) | (with_reducible refine Below.drew ?_) | (with_reducible assumption) | (refine Hid.out ?_; with_reducible assumption) | (apply belV; (with_reducible assumption); exact (by first | omega | (simp; done) | (simp; omega) | (simp only [World.size_alloc, World.size_setCell, World.size_drew] at *; omega)))))) (by first | omega | (simp; done) | (simp; omega) | (simp only [World.size_alloc, World.size_setCell, World.size_drew] at *; omega))
                clear hb3
                cases r
                · go_wp2_with fail
                  go_roundw
                  case rel => exact ⟨k + 1, _, by omega, rfl, by go_num, N1, S3⟩
                  case measure => simp [intOf]; omega
                · go_wp2_with fail
                  go_roundw
                  case rel => exact ⟨k + 1, _, by omega, rfl, by go_num, N1, S3⟩
                  case measure => simp [intOf]; omega
              · have f0 : xa = ya := e0.symm
                clear e0; subst xa
                have f1 : xm = ym := e1.symm
                clear e1; subst xm
                simp only at e2
                clear he
                go_wp2_with fail
                go_still_tail 21, (by kernel_rfl)
                change wpList _ _ _ _ _ (World.drew _)
                go_wp2_with fail
                refine (impl_DomI r _ _ _ _ _ _ _ _ _ _ _ HYM.out hd).mono ?_
                rintro e w3 ⟨rfl, hb3⟩
                have S3 : Hid (Below wq0.heap.size wq0 w3) := belU hb3 (by (repeat' (first | (with_reducible exact Below.refl _ _) | (with_reducible refine belS ?_ (by first | omega | (simp; done) | (simp; omega) | (simp only [World.size_alloc, World.size_setCell, World.size_drew] at *; omega))) | (with_reducible refine belA ?_ (by first | omega | (simp; done) | (simp; omega) | (simp only [World.size_alloc, World.size_setCell, World.size_drew] at *; omega))) | (with_reducible refine bel_drewN ?_ _) | (with_reducible refine Below.drew ?_) | (with_reducible assumption) | (refine Hid.out ?_; with_reducible assumption) | (apply belV; (with_reducible assumption); exact (by first | omega | (simp; done) | (simp; omega) | (simp only [World.size_alloc, World.size_setCell, World.size_drew] at *; omega)))))) (by first | omega | (simp; done) | (simp; omega) | (simp only [World.size_alloc, World.size_setCell, World.size_drew] at *; omega))
                clear hb3
                cases r
                · go_wp2_with fail
                  go_roundw
                  case rel => exact ⟨k + 1, _, by omega, rfl, by go_num, N1, S3⟩
                  case measure => simp [intOf]; omega
                · go_wp2_with fail
                  go_roundw
                  case rel => exact ⟨k + 1, _, by omega, rfl, by go_num, N1, S3⟩
                  case measure => simp [intOf]; omega
              · have f0 : xa = ya := e0.symm
                clear e0; subst xa
                have f1 : xm = ym := e1.symm
                clear e1; subst xm
                have f2 : xt = yt := e2.symm
                clear e2; subst xt
                simp only at e3
                clear he
                go_wp2_with fail
                go_still_tail 21, (by kernel_rfl)
                change wpList _ _ _ _ _ (World.drew _)
                go_wp2_with fail
                refine (impl_DomI r _ _ _ _ _ _ _ _ _ _ _ HYM.out hd).mono ?_
                rintro e w3 ⟨rfl, hb3⟩
                have S3 : Hid (Below wq0.heap.size wq0 w3) := belU hb3 (by (repeat' (first | (with_reducible exact Below.refl _ _) | (with_reducible refine belS ?_ (by first | omega | (simp; done) | (simp; omega) | (simp only [World.size_alloc, World.size_setCell, World.size_drew] at *; omega))) | (with_reducible refine belA ?_ (by first | omega | (simp; done) | (simp; omega) | (simp only [World.size_alloc, World.size_setCell, World.size_drew] at *; omega))) | (with_reducible refine bel_drewN ?_ _) | (with_reducible refine Below.drew ?_) | (with_reducible assumption) | (refine Hid.out ?_; with_reducible assumption) | (apply belV; (with_reducible assumption); exact (by first | omega | (simp; done) | (simp; omega) | (simp only [World.size_alloc, World.size_setCell, World.size_drew] at *; omega)))))) (by first | omega | (simp; done) | (simp; omega) | (simp only [World.size_alloc, World.size_setCell, World.size_drew] at *; omega))
                clear hb3
                cases r
                · go_wp2_with fail
                  go_roundw
                  case rel => exact ⟨k + 1, _, by omega, rfl, by go_num, N1, S3⟩
                  case measure => simp [intOf]; omega
                · go_wp2_with fail
                  go_roundw
                  case rel => exact ⟨k + 1, _, by omega, rfl, by go_num, N1, S3⟩
                  case measure => simp [intOf]; omega
              · have f0 : xa = ya := e0.symm
                clear e0; subst xa
                have f1 : xm = ym := e1.symm
                clear e1; subst xm
                have f2 : xt = yt := e2.symm
                clear e2; subst xt
                have f3 : xo = yo := e3.symm
                clear e3; subst xo
                simp only at e4
                clear he
                go_wp2_with fail
                go_still_tail 21, (by kernel_rfl)
                change wpList _ _ _ _ _ (World.drew _)
                go_wp2_with fail
                refine (impl_DomI r _ _ _ _ _ _ _ _ _ _ _ HYM.out hd).mono ?_
                rintro e w3 ⟨rfl, hb3⟩
                have S3 : Hid (Below wq0.heap.size wq0 w3) := belU hb3 (by (repeat' (first | (with_reducible exact Below.refl _ _) | (with_reducible refine belS ?_ (by first | omega | (simp; done) | (simp; omega) | (simp only [World.size_alloc, World.size_setCell, World.size_drew] at *; omega))) | (with_reducible refine belA ?_ (by first | omega | (simp; done) | (simp; omega) | (simp only [World.size_alloc, World.size_setCell, World.size_drew] at *; omega))) | (with_reducible refine bel_drewN ?_ _) | (with_reducible refine Below.drew ?_) | (with_reducible assumption) | (refine Hid.out ?_; with_reducible assumption) | (apply belV; (with_reducible assumption); exact (by first | omega | (simp; done) | (simp; omega) | (simp only [World.size_alloc, World.size_setCell, World.size_drew] at *; omega)))))) (by first | omega | (simp; done) | (simp; omega) | (simp only [World.size_alloc, World.size_setCell, World.size_drew] at *; omega))
                clear hb3
                cases r
                · go_wp2_with fail
                  go_roundw
                  case rel => exact ⟨k + 1, _, by omega, rfl, by go_num, N1, S3⟩
                  case measure => simp [intOf]; omega
                · go_wp2_with fail
                  go_roundw
                  case rel => exact ⟨k + 1, _, by omega, rfl, by go_num, N1, S3⟩
                  case measure => simp [intOf]; omega
            · have hke : k = m := by omega
              have GT : g = true := by rw [hg.out, hke, HS.out]; rfl
              clear hke hg
              subst GT
              go_wp2_with fail
              go_roundw
              case rel => exact ⟨i + 1, _, _, by omega, by go_num, rfl, rfl, hbel4⟩
              case measure => simp [intOf]; omega
        · go_wp2_with fail
          go_ret
          exact ⟨rfl, Gq0.out.trans (hbel3.out.mono Gq0.out.size)⟩
end Go.Proofs.Ytjbgjljcgdligab
