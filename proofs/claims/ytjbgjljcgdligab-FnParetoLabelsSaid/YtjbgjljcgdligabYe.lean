
/-
  Labels that no other one dominates: the model.
-/
import Derived.Test.YtjbgjljcgdligabYd
import Derived.Test.YtjbgjljcgdligabVa
import Derived.StillTailTactics
set_option linter.unusedSimpArgs false
set_option linter.unusedVariables false
namespace Go.Proofs.Ytjbgjljcgdligab
open Go.RowKit

/-- Label number k makes label x, number i, not stay. -/
def badK (ls : List PLab) (i : Nat) (x : PLab) (k : Nat) : Bool := match ls[k]? with
  | some y => (eqLB y x && decide (k < i)) || betB y x
  | none => false
theorem badK_at {ls : List PLab} {i k : Nat} {x y : PLab} (h : ls[k]? = some y) : badK ls i x k = ((eqLB y x && decide (k < i)) || betB y x) := by simp [badK, h]
theorem eqLB_comm (x y : PLab) : eqLB x y = eqLB y x := by
  apply Bool.eq_iff_iff.2
  rw [eqLB_iff, eqLB_iff]
  exact eq_comm
theorem stays_rall {ls : List PLab} {i : Nat} {x : PLab} (h : ls[i]? = some x) : stays ls i = rall (fun k => !badK ls i x k) ls.length := by
  rw [stays_at h]
  apply Bool.eq_iff_iff.2
  constructor
  · intro hs
    simp only [Bool.and_eq_true, Bool.not_eq_true'] at hs
    unfold rall
    rw [List.all_eq_true]
    intro k hk
    rw [List.mem_range] at hk
    obtain ⟨y, hy⟩ : ∃ y, ls[k]? = some y := ⟨_, List.getElem?_eq_getElem hk⟩
    rw [badK_at hy]
    have h1 := List.any_eq_false.1 hs.1 y (List.mem_of_getElem? hy)
    by_cases hki : k < i
    · have h2 := List.any_eq_false.1 hs.2 y (List.mem_of_getElem? (by rw [List.getElem?_take, if_pos hki]; exact hy : (ls.take i)[k]? = some y))
      rw [eqLB_comm] at h2
      simp [h1, h2]
    · simp [h1, hki]
  · intro hr
    simp only [Bool.and_eq_true, Bool.not_eq_true']
    constructor
    · rw [List.any_eq_false]
      intro y hy
      obtain ⟨k, hk⟩ := List.mem_iff_getElem?.1 hy
      have hkl : k < ls.length := (List.getElem?_eq_some_iff.1 hk).1
      have := rall_at hr hkl
      simp only [badK_at hk] at this
      simp at this
      simp [this.2]
    · rw [List.any_eq_false]
      intro y hy
      obtain ⟨k, hk⟩ := List.mem_iff_getElem?.1 hy
      rw [List.getElem?_take] at hk
      by_cases hki : k < i
      · rw [if_pos hki] at hk
        have hkl : k < ls.length := (List.getElem?_eq_some_iff.1 hk).1
        have := rall_at hr hkl
        simp only [badK_at hk] at this
        simp [hki] at this
        rw [eqLB_comm]
        simp [this.1]
      · rw [if_neg hki] at hk; cases hk
theorem cells5 {w w' : World} {B b o : Nat} {u0 u1 u2 u3 u4 : Value} (hb : Below B w w') (hlt : b < B) (h : w.cell? ⟨b, o, none⟩ = some u0 ∧ w.cell? ⟨b, o + 1, none⟩ = some u1 ∧ w.cell? ⟨b, o + 2, none⟩ = some u2 ∧ w.cell? ⟨b, o + 3, none⟩ = some u3 ∧ w.cell? ⟨b, o + 4, none⟩ = some u4) :
    w'.cell? ⟨b, o, none⟩ = some u0 ∧ w'.cell? ⟨b, o + 1, none⟩ = some u1 ∧ w'.cell? ⟨b, o + 2, none⟩ = some u2 ∧ w'.cell? ⟨b, o + 3, none⟩ = some u3 ∧ w'.cell? ⟨b, o + 4, none⟩ = some u4 :=
  ⟨(hb.cell (p := ⟨b, o, none⟩) hlt).trans h.1, (hb.cell (p := ⟨b, o + 1, none⟩) hlt).trans h.2.1, (hb.cell (p := ⟨b, o + 2, none⟩) hlt).trans h.2.2.1, (hb.cell (p := ⟨b, o + 3, none⟩) hlt).trans h.2.2.2.1, (hb.cell (p := ⟨b, o + 4, none⟩) hlt).trans h.2.2.2.2⟩
theorem cells10 {w w' : World} {B b o p : Nat} {u0 u1 u2 u3 u4 v0 v1 v2 v3 v4 : Value} (hb : Below B w w') (hlt : b < B)
    (h : (w.cell? ⟨b, o, none⟩ = some u0 ∧ w.cell? ⟨b, o + 1, none⟩ = some u1 ∧ w.cell? ⟨b, o + 2, none⟩ = some u2 ∧ w.cell? ⟨b, o + 3, none⟩ = some u3 ∧ w.cell? ⟨b, o + 4, none⟩ = some u4) ∧ (w.cell? ⟨b, p, none⟩ = some v0 ∧ w.cell? ⟨b, p + 1, none⟩ = some v1 ∧ w.cell? ⟨b, p + 2, none⟩ = some v2 ∧ w.cell? ⟨b, p + 3, none⟩ = some v3 ∧ w.cell? ⟨b, p + 4, none⟩ = some v4)) :
    (w'.cell? ⟨b, o, none⟩ = some u0 ∧ w'.cell? ⟨b, o + 1, none⟩ = some u1 ∧ w'.cell? ⟨b, o + 2, none⟩ = some u2 ∧ w'.cell? ⟨b, o + 3, none⟩ = some u3 ∧ w'.cell? ⟨b, o + 4, none⟩ = some u4) ∧ (w'.cell? ⟨b, p, none⟩ = some v0 ∧ w'.cell? ⟨b, p + 1, none⟩ = some v1 ∧ w'.cell? ⟨b, p + 2, none⟩ = some v2 ∧ w'.cell? ⟨b, p + 3, none⟩ = some v3 ∧ w'.cell? ⟨b, p + 4, none⟩ = some v4) :=
  ⟨cells5 hb hlt h.1, cells5 hb hlt h.2⟩
theorem spec_DomI (r : Bool) (xa xm xt xo xc ya ym yt yo yc : Int) (w : World) (hr : domB ⟨xa, xm, xt, xo, xc⟩ ⟨ya, ym, yt, yo, yc⟩ = r) :
    Calls Try.prog 104 #[.agg #[.int .i64 xa, .int .i64 xm, .int .i64 xt, .int .i64 xo, .int .i64 xc], .agg #[.int .i64 ya, .int .i64 ym, .int .i64 yt, .int .i64 yo, .int .i64 yc]] w fun e w' => e = .returned (.bool r) ∧ Below w.heap.size w w' := by
  subst hr; exact spec_Dominates ⟨xa, xm, xt, xo, xc⟩ ⟨ya, ym, yt, yo, yc⟩ w

set_option maxHeartbeats 16000000 in
set_option maxRecDepth 100000 in
theorem spec_ParetoLabels (A : Option Addr) (n c : Nat) (ls : List PLab) (w : World) (hI : LabS w A n ls) (hok : ∀ x ∈ ls, x.ok) (hn : n ≤ maxLen) :
    Calls Try.prog 42 #[.slice A n c] w (LabsEnd (parV ls) w) := by
  obtain ⟨i0, hi0, hz0, hz1, hz2⟩ := info_parts info_lab
  have hn' := hn
  unfold maxLen at hn'
  have HL := Lib.hid hI.len
  have HI := Lib.hid hI; clear hI
  have HB := Lib.hid (parV_bd hok)
  by_cases h20 : n ≤ 20
  rotate_left
  · have E := Lib.hid (parV_1 (ls := ls) (by rw [HL.out]; exact h20))
    go_enter Try.func42, Try.ntmps42
    go_wp2_with fail
    go_ret
    exact LabsEnd.nil E.out (by (repeat' (first | (with_reducible exact Below.refl _ _) | (with_reducible refine belS ?_ (by first | omega | (simp; done) | (simp; omega) | (simp only [World.size_alloc, World.size_setCell, World.size_drew] at *; omega))) | (with_reducible refine belA ?_ (by first | omega | (simp; done) | (simp; omega) | (simp only [World.size_alloc, World.size_setCell, World.size_drew] at *; omega))) | (with_reducible refine bel_drewN ?_ _) | (with_reducible refine Below.drew ?_) | (with_reducible assumption) | (refine Hid.out ?_; with_reducible assumption) | (apply belV; (with_reducible assumption); exact (by first | omega | (simp; done) | (simp; omega) | (simp only [World.size_alloc, World.size_setCell, World.size_drew] at *; omega))))))
  have E := Lib.hid (parV_2 (ls := ls) (by rw [HL.out]; exact h20))
  go_enter Try.func42, Try.ntmps42
  go_wp2_with fail
  go_loopw [3, 4, 5, 6] (fun s3 s4 s5 s6 wr => ∃ (i : Nat) (v u5 u6 : Value), i ≤ n ∧ v = s3 ∧ s4 = .int .i64 i ∧ u5 = s5 ∧ u6 = s6 ∧ Hid (GrowL wr w.heap.size 56 v (parL ls i)) ∧ Hid (Below w.heap.size w wr)) (fun _ s4 _ _ _ => n - (intOf s4).toNat)
  case atStart => exact ⟨0, _, _, _, by omega, rfl, rfl, rfl, rfl, Lib.hid (GrowL.lit0 w (Nat.le_refl _) _), by (refine Lib.hid ?_; (repeat' (first | (with_reducible exact Below.refl _ _) | (with_reducible refine belS ?_ (by first | omega | (simp; done) | (simp; omega) | (simp only [World.size_alloc, World.size_setCell, World.size_drew] at *; omega))) | (with_reducible refine belA ?_ (by first | omega | (simp; done) | (simp; omega) | (simp only [World.size_alloc, World.size_setCell, World.size_drew] at *; omega))) | (with_reducible refine bel_drewN ?_ _) | (with_reducible refine Below.drew ?_) | (with_reducible assumption) | (refine Hid.out ?_; with_reducible assumption) | (apply belV; (with_reducible assumption); exact (by first | omega | (simp; done) | (simp; omega) | (simp only [World.size_alloc, World.size_setCell, World.size_drew] at *; omega))))))⟩
  case round =>
    obtain ⟨i, v, u5, u6, hk, rfl, rfl, rfl, rfl, hgr, hbel⟩ := hrel
    have z0 := hbel.out.size
    by_cases hlt : i < n
    · obtain ⟨b, off, x, rfl, hbw, hx, hxok, w0, w1, w2, w3, w4⟩ := HI.out.at_ hlt
      have HXW := Lib.hid (And.intro w0 (And.intro w1 (And.intro w2 (And.intro w3 w4))))
      have ST := Lib.hid (stays_rall hx)
      have HX := Lib.hid hx
      have lP := parL_len ls i
      have LP := Lib.hid lP
      clear hx hxok w0 w1 w2 w3 w4
      go_wp2_with fail
      go_loopw [5, 6] (fun s5 s6 wr => ∃ (k : Nat) (g : Bool), k ≤ n ∧ s5 = .bool g ∧ s6 = .int .i64 k ∧ Hid (g = rall (fun k => !badK ls i x k) k) ∧ Hid (GrowL wr w.heap.size 56 v (parL ls i)) ∧ Hid (Below w.heap.size w wr)) (fun _ s6 _ => n - (intOf s6).toNat)
      case atStart => exact ⟨0, true, by omega, rfl, rfl, Lib.hid rall_0.symm, hgr, hbel⟩
      case round =>
        obtain ⟨k, g, hkn, rfl, rfl, hg, hgr2, hbel2⟩ := hrel
        have z2 := hbel2.out.size
        have hb : b < wr.heap.size := by omega
        by_cases hlk : k < n
        · obtain ⟨b', off', y, e, hb', hy, hyok, y0, y1, y2, y3, y4⟩ := (HI.out.below hbel2.out).at_ hlk
          injection e with e; injection e with e1 e2; subst e1 e2
          have BK := Lib.hid (badK_at (i := i) (x := x) hy)
          have hxc := cells5 hbel2.out hbw HXW.out
          have hyc := And.intro y0 (And.intro y1 (And.intro y2 (And.intro y3 y4)))
          clear hy hyok y0 y1 y2 y3 y4
          cases he : eqLB y x
          · generalize hd : domB y x = r
            have NB : Hid (badK ls i x k = r) := Lib.hid (by rw [BK.out]; unfold betB; rw [he, hd]; simp)
            obtain ⟨ya, ym, yt, yo, yc⟩ := y
            obtain ⟨xa, xm, xt, xo, xc⟩ := x
            obtain ⟨y0, y1, y2, y3, y4⟩ := hyc
            obtain ⟨x0, x1, x2, x3, x4⟩ := hxc
            dsimp only at y0 y1 y2 y3 y4 x0 x1 x2 x3 x4
            rcases differ he with e0 | ⟨e0, e1⟩ | ⟨e0, e1, e2⟩ | ⟨e0, e1, e2, e3⟩ | ⟨e0, e1, e2, e3, e4⟩
            · simp only at e0
              clear he BK
              go_wp2_with fail
              go_still_tail 33, (by kernel_rfl)
              change wpList _ _ _ _ _ (World.drew _)
              go_wp2_with fail
              refine (spec_DomI r _ _ _ _ _ _ _ _ _ _ _ hd).mono ?_
              rintro e w3 ⟨rfl, hb3⟩
              have G3 : Hid (Below w.heap.size w w3) := belU hb3 (by (repeat' (first | (with_reducible exact Below.refl _ _) | (with_reducible refine belS ?_ (by first | omega | (simp; done) | (simp; omega) | (simp only [World.size_alloc, World.size_setCell, World.size_drew] at *; omega))) | (with_reducible refine belA ?_ (by first | omega | (simp; done) | (simp; omega) | (simp only [World.size_alloc, World.size_setCell, World.size_drew] at *; omega))) | (with_reducible refine bel_drewN ?_ _) | (with_reducible refine Below.drew ?_) | (with_reducible assumption) | (refine Hid.out ?_; with_reducible assumption) | (apply belV; (with_reducible assumption); exact (by first | omega | (simp; done) | (simp; omega) | (simp only [World.size_alloc, World.size_setCell, World.size_drew] at *; omega)))))) (by first | omega | (simp; done) | (simp; omega) | (simp only [World.size_alloc, World.size_setCell, World.size_drew] at *; omega))
              have D3 := Lib.hid hb3
              clear hb3
              have GR3 : Hid (GrowL w3 w.heap.size 56 v (parL ls i)) := Lib.hid (by (repeat' (first | (with_reducible assumption) | (refine Hid.out ?_; with_reducible assumption) | (with_reducible refine GrowL.far ?_ (by first | omega | (simp; done) | (simp; omega) | (simp only [World.size_alloc, World.size_setCell, World.size_drew] at *; omega)) _) |  (with_reducible refine GrowL.alloc ?_ _) | (with_reducible refine GrowL.drewN ?_ _) | (with_reducible refine GrowL.drew ?_) | (apply GrowL.belowD; (with_reducible assumption)))))
              cases r
              · go_wp2_with fail
                go_roundw
                case rel => exact ⟨k + 1, _, by omega, rfl, by go_num, Lib.hid (by rw [rall_succ, NB.out]; simp [hg.out]), GR3, G3⟩
                case measure => simp [intOf]; omega
              · go_wp2_with fail
                go_roundw
                case rel => exact ⟨k + 1, _, by omega, rfl, by go_num, Lib.hid (by rw [rall_succ, NB.out]; simp), GR3, G3⟩
                case measure => simp [intOf]; omega
            · have f0 : xa = ya := e0.symm
              clear e0; subst xa
              simp only at e1
              clear he BK
              go_wp2_with fail
              go_still_tail 33, (by kernel_rfl)
              change wpList _ _ _ _ _ (World.drew _)
              go_wp2_with fail
              refine (spec_DomI r _ _ _ _ _ _ _ _ _ _ _ hd).mono ?_
              rintro e w3 ⟨rfl, hb3⟩
              have G3 : Hid (Below w.heap.size w w3) := belU hb3 (by (repeat' (first | (with_reducible exact Below.refl _ _) | (with_reducible refine belS ?_ (by first | omega | (simp; done) | (simp; omega) | (simp only [World.size_alloc, World.size_setCell, World.size_drew] at *; omega))) | (with_reducible refine belA ?_ (by first | omega | (simp; done) | (simp; omega) | (simp only [World.size_alloc, World.size_setCell, World.size_drew] at *; omega))) | (with_reducible refine bel_drewN ?_ _) | (with_reducible refine Below.drew ?_) | (with_reducible assumption) | (refine Hid.out ?_; with_reducible assumption) | (apply belV; (with_reducible assumption); exact (by first | omega | (simp; done) | (simp; omega) | (simp only [World.size_alloc, World.size_setCell, World.size_drew] at *; omega)))))) (by first | omega | (simp; done) | (simp; omega) | (simp only [World.size_alloc, World.size_setCell, World.size_drew] at *; omega))
              have D3 := Lib.hid hb3
              clear hb3
              have GR3 : Hid (GrowL w3 w.heap.size 56 v (parL ls i)) := Lib.hid (by (repeat' (first | (with_reducible assumption) | (refine Hid.out ?_; with_reducible assumption) | (with_reducible refine GrowL.far ?_ (by first | omega | (simp; done) | (simp; omega) | (simp only [World.size_alloc, World.size_setCell, World.size_drew] at *; omega)) _) |  (with_reducible refine GrowL.alloc ?_ _) | (with_reducible refine GrowL.drewN ?_ _) | (with_reducible refine GrowL.drew ?_) | (apply GrowL.belowD; (with_reducible assumption)))))
              cases r
              · go_wp2_with fail
                go_roundw
                case rel => exact ⟨k + 1, _, by omega, rfl, by go_num, Lib.hid (by rw [rall_succ, NB.out]; simp [hg.out]), GR3, G3⟩
                case measure => simp [intOf]; omega
              · go_wp2_with fail
                go_roundw
                case rel => exact ⟨k + 1, _, by omega, rfl, by go_num, Lib.hid (by rw [rall_succ, NB.out]; simp), GR3, G3⟩
                case measure => simp [intOf]; omega
            · have f0 : xa = ya := e0.symm
              clear e0; subst xa
              have f1 : xm = ym := e1.symm
              clear e1; subst xm
              simp only at e2
              clear he BK
              go_wp2_with fail
              go_still_tail 33, (by kernel_rfl)
              change wpList _ _ _ _ _ (World.drew _)
              go_wp2_with fail
              refine (spec_DomI r _ _ _ _ _ _ _ _ _ _ _ hd).mono ?_
              rintro e w3 ⟨rfl, hb3⟩
              have G3 : Hid (Below w.heap.size w w3) := belU hb3 (by (repeat' (first | (with_reducible exact Below.refl _ _) | (with_reducible refine belS ?_ (by first | omega | (simp; done) | (simp; omega) | (simp only [World.size_alloc, World.size_setCell, World.size_drew] at *; omega))) | (with_reducible refine belA ?_ (by first | omega | (simp; done) | (simp; omega) | (simp only [World.size_alloc, World.size_setCell, World.size_drew] at *; omega))) | (with_reducible refine bel_drewN ?_ _) | (with_reducible refine Below.drew ?_) | (with_reducible assumption) | (refine Hid.out ?_; with_reducible assumption) | (apply belV; (with_reducible assumption); exact (by first | omega | (simp; done) | (simp; omega) | (simp only [World.size_alloc, World.size_setCell, World.size_drew] at *; omega)))))) (by first | omega | (simp; done) | (simp; omega) | (simp only [World.size_alloc, World.size_setCell, World.size_drew] at *; omega))
              have D3 := Lib.hid hb3
              clear hb3
              have GR3 : Hid (GrowL w3 w.heap.size 56 v (parL ls i)) := Lib.hid (by (repeat' (first | (with_reducible assumption) | (refine Hid.out ?_; with_reducible assumption) | (with_reducible refine GrowL.far ?_ (by first | omega | (simp; done) | (simp; omega) | (simp only [World.size_alloc, World.size_setCell, World.size_drew] at *; omega)) _) |  (with_reducible refine GrowL.alloc ?_ _) | (with_reducible refine GrowL.drewN ?_ _) | (with_reducible refine GrowL.drew ?_) | (apply GrowL.belowD; (with_reducible assumption)))))
              cases r
              · go_wp2_with fail
                go_roundw
                case rel => exact ⟨k + 1, _, by omega, rfl, by go_num, Lib.hid (by rw [rall_succ, NB.out]; simp [hg.out]), GR3, G3⟩
                case measure => simp [intOf]; omega
              · go_wp2_with fail
                go_roundw
                case rel => exact ⟨k + 1, _, by omega, rfl, by go_num, Lib.hid (by rw [rall_succ, NB.out]; simp), GR3, G3⟩
                case measure => simp [intOf]; omega
            · have f0 : xa = ya := e0.symm
              clear e0; subst xa
              have f1 : xm = ym := e1.symm
              clear e1; subst xm
              have f2 : xt = yt := e2.symm
              clear e2; subst xt
              simp only at e3
              clear he BK
              go_wp2_with fail
              go_still_tail 33, (by kernel_rfl)
              change wpList _ _ _ _ _ (World.drew _)
              go_wp2_with fail
              refine (spec_DomI r _ _ _ _ _ _ _ _ _ _ _ hd).mono ?_
              rintro e w3 ⟨rfl, hb3⟩
              have G3 : Hid (Below w.heap.size w w3) := belU hb3 (by (repeat' (first | (with_reducible exact Below.refl _ _) | (with_reducible refine belS ?_ (by first | omega | (simp; done) | (simp; omega) | (simp only [World.size_alloc, World.size_setCell, World.size_drew] at *; omega))) | (with_reducible refine belA ?_ (by first | omega | (simp; done) | (simp; omega) | (simp only [World.size_alloc, World.size_setCell, World.size_drew] at *; omega))) | (with_reducible refine bel_drewN ?_ _) | (with_reducible refine Below.drew ?_) | (with_reducible assumption) | (refine Hid.out ?_; with_reducible assumption) | (apply belV; (with_reducible assumption); exact (by first | omega | (simp; done) | (simp; omega) | (simp only [World.size_alloc, World.size_setCell, World.size_drew] at *; omega)))))) (by first | omega | (simp; done) | (simp; omega) | (simp only [World.size_alloc, World.size_setCell, World.size_drew] at *; omega))
              have D3 := Lib.hid hb3
              clear hb3
              have GR3 : Hid (GrowL w3 w.heap.size 56 v (parL ls i)) := Lib.hid (by (repeat' (first | (with_reducible assumption) | (refine Hid.out ?_; with_reducible assumption) | (with_reducible refine GrowL.far ?_ (by first | omega | (simp; done) | (simp; omega) | (simp only [World.size_alloc, World.size_setCell, World.size_drew] at *; omega)) _) |  (with_reducible refine GrowL.alloc ?_ _) | (with_reducible refine GrowL.drewN ?_ _) | (with_reducible refine GrowL.drew ?_) | (apply GrowL.belowD; (with_reducible assumption)))))
              cases r
              · go_wp2_with fail
                go_roundw
                case rel => exact ⟨k + 1, _, by omega, rfl, by go_num, Lib.hid (by rw [rall_succ, NB.out]; simp [hg.out]), GR3, G3⟩
                case measure => simp [intOf]; omega
              · go_wp2_with fail
                go_roundw
                case rel => exact ⟨k + 1, _, by omega, rfl, by go_num, Lib.hid (by rw [rall_succ, NB.out]; simp), GR3, G3⟩
                case measure => simp [intOf]; omega
            · have f0 : xa = ya := e0.symm
              clear e0; subst xa
              have f1 : xm = ym := e1.symm
              clear e1; subst xm
              have f2 : xt = yt := e2.symm
              clear e2; subst xt
              have f3 : xo = yo := e3.symm
              clear e3; subst xo
              simp only at e4
              clear he BK
              go_wp2_with fail
              go_still_tail 33, (by kernel_rfl)
              change wpList _ _ _ _ _ (World.drew _)
              go_wp2_with fail
              refine (spec_DomI r _ _ _ _ _ _ _ _ _ _ _ hd).mono ?_
              rintro e w3 ⟨rfl, hb3⟩
              have G3 : Hid (Below w.heap.size w w3) := belU hb3 (by (repeat' (first | (with_reducible exact Below.refl _ _) | (with_reducible refine belS ?_ (by first | omega | (simp; done) | (simp; omega) | (simp only [World.size_alloc, World.size_setCell, World.size_drew] at *; omega))) | (with_reducible refine belA ?_ (by first | omega | (simp; done) | (simp; omega) | (simp only [World.size_alloc, World.size_setCell, World.size_drew] at *; omega))) | (with_reducible refine bel_drewN ?_ _) | (with_reducible refine Below.drew ?_) | (with_reducible assumption) | (refine Hid.out ?_; with_reducible assumption) | (apply belV; (with_reducible assumption); exact (by first | omega | (simp; done) | (simp; omega) | (simp only [World.size_alloc, World.size_setCell, World.size_drew] at *; omega)))))) (by first | omega | (simp; done) | (simp; omega) | (simp only [World.size_alloc, World.size_setCell, World.size_drew] at *; omega))
              have D3 := Lib.hid hb3
              clear hb3
              have GR3 : Hid (GrowL w3 w.heap.size 56 v (parL ls i)) := Lib.hid (by (repeat' (first | (with_reducible assumption) | (refine Hid.out ?_; with_reducible assumption) | (with_reducible refine GrowL.far ?_ (by first | omega | (simp; done) | (simp; omega) | (simp only [World.size_alloc, World.size_setCell, World.size_drew] at *; omega)) _) |  (with_reducible refine GrowL.alloc ?_ _) | (with_reducible refine GrowL.drewN ?_ _) | (with_reducible refine GrowL.drew ?_) | (apply GrowL.belowD; (with_reducible assumption)))))
              cases r
              · go_wp2_with fail
                go_roundw
                case rel => exact ⟨k + 1, _, by omega, rfl, by go_num, Lib.hid (by rw [rall_succ, NB.out]; simp [hg.out]), GR3, G3⟩
                case measure => simp [intOf]; omega
              · go_wp2_with fail
                go_roundw
                case rel => exact ⟨k + 1, _, by omega, rfl, by go_num, Lib.hid (by rw [rall_succ, NB.out]; simp), GR3, G3⟩
                case measure => simp [intOf]; omega
          · obtain rfl := eqLB_iff.1 he
            by_cases hki : k < i
            · have NB : Hid (badK ls i y k = true) := Lib.hid (by rw [BK.out, he]; simp [hki])
              clear he BK
              obtain ⟨y0, y1, y2, y3, y4⟩ := hyc
              obtain ⟨x0, x1, x2, x3, x4⟩ := hxc
              go_wp2_with fail
              go_quiet (fail)
              go_wp2_with fail
              go_roundw
              case rel => exact ⟨k + 1, _, by omega, rfl, by go_num, Lib.hid (by rw [rall_succ, NB.out]; simp), Lib.hid (hgr2.out.drewN _), Lib.hid (bel_drewN hbel2.out _)⟩
              case measure => simp [intOf]; omega
            · have NB : Hid (badK ls i y k = false) := Lib.hid (by rw [BK.out]; unfold betB; rw [he]; simp [hki])
              clear he BK
              obtain ⟨y0, y1, y2, y3, y4⟩ := hyc
              obtain ⟨x0, x1, x2, x3, x4⟩ := hxc
              go_wp2_with fail
              go_quiet (fail)
              go_wp2_with fail
              go_roundw
              case rel => exact ⟨k + 1, _, by omega, rfl, by go_num, Lib.hid (by rw [rall_succ, NB.out]; simp [hg.out]), Lib.hid (hgr2.out.drewN _), Lib.hid (bel_drewN hbel2.out _)⟩
              case measure => simp [intOf]; omega
        · have hkl : k = ls.length := by have := HL.out; omega
          have GS : Hid (stays ls i = g) := Lib.hid (by rw [ST.out, hg.out, hkl])
          have hxc := cells5 hbel2.out hbw HXW.out
          obtain ⟨x0, x1, x2, x3, x4⟩ := hxc
          clear hkl
          cases g
          · have NX := Lib.hid (parL_no GS.out)
            go_wp2_with fail
            go_roundw
            case rel => exact ⟨i + 1, _, _, _, by omega, rfl, by go_num, rfl, rfl, Lib.hid (by rw [NX.out]; exact hgr2.out), hbel2⟩
            case measure => simp [intOf]; omega
          · have NX := Lib.hid (parL_yes HX.out GS.out)
            go_wp2_with (
              at_builtin
              refine wpList_append_own _ rfl (.tmp 60) (.tmp 65) 50 rfl w.heap.size 56 i0 (.agg #[.int .i64 0, .int .i64 0, .int .i64 0, .int .i64 0, .int .i64 0]) 5 40 Try.underlying50 hi0 hz0 hz1 hz2 rfl (by decide) v _ _ rfl (hgr2.out.alloc _).own ⟨wr.heap.size, 0, none⟩ 1 1 [.int .i64 x.a, .int .i64 x.m, .int .i64 x.t, .int .i64 x.o, .int .i64 x.c] rfl rfl ?c1 ?c2 ?c3 ?c4 ?c5 ?_
              case c1 => intro j u hj; (rcases j with _ | _ | _ | _ | _ | j <;> simp at hj) <;> subst hj <;> simp [go_sem]
              case c2 => intro u hu; simp at hu; rcases hu with rfl | rfl | rfl | rfl | rfl <;> rfl
              case c3 => unfold maxLen; omega
              case c4 => omega
              case c5 => simp; omega
              intro v' w4 hown' hgrow _
              have R4 : Hid (GrowL w4 w.heap.size 56 v' (parL ls (i + 1))) := Lib.hid (by rw [NX.out]; exact GrowL.snoc hown')
              have G5 : Hid (Below w.heap.size w w4) := Lib.hid ((hbel2.out.alloc hbel2.out.size _).grown hgrow (by simp; omega) (fun j hj => hgr2.out.row j hj))
              clear hown' hgrow)
            go_roundw
            case rel => exact ⟨i + 1, _, _, _, by omega, rfl, by go_num, rfl, rfl, R4, G5⟩
            case measure => simp [intOf]; omega
    · have hke : i = ls.length := by have := HL.out; omega
      have HK := Lib.hid hke; clear hke
      go_wp2_with fail
      go_ret
      exact LabsEnd.grow (L := parL ls i) (by rw [E.out, HK.out]) hgr.out (Nat.le_refl _) HB.out.1 (by have := HB.out.2; omega) hbel.out
end Go.Proofs.Ytjbgjljcgdligab
