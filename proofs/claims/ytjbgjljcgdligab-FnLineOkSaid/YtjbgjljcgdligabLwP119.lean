
/-
  The walk of the law on lines of duties: they stay possible without a duty, and under looser rules.
-/
import Derived.Test.YtjbgjljcgdligabJd
import Derived.Test.YtjbgjljcgdligabJe
import Derived.Test.YtjbgjljcgdligabJw
import Derived.Test.YtjbgjljcgdligabJy
set_option linter.unusedSimpArgs false
set_option linter.unusedVariables false
namespace Go.Proofs.Ytjbgjljcgdligab
open Go.RowKit

set_option maxHeartbeats 8000000 in
set_option maxRecDepth 100000 in
theorem FnLineOk_walk (a : Option Addr) (len cap : Nat) (w : World) (h : By w.heap.size w a len cap) :
    Calls Try.prog 5 #[.slice a len cap] w fun e w' => e = .returned (.bool true) ∧ Below w.heap.size w w' := by
  have hl := h.1
  have hl2 := h.2.1
  unfold maxLen at hl2
  have H := Lib.hid h; clear h
  by_cases hbig : 1048576 < len
  · go_enter Try.func5, Try.ntmps5
    go_wp2_with fail
    go_ret
    exact ⟨rfl, Below.refl _ _⟩
  go_enter Try.func5, Try.ntmps5
  go_wp2_with fail
  refine (DrawLineOk_any _ _ _ _ H.out).mono ?_
  rintro e wdr ⟨A, A', n, n', c, c', rest, most, ds, line, rfl, hj, hk, lc, cm, lc', cm', h7, h20, br, bm, hb⟩
  have Gdr : Hid (Below w.heap.size w wdr) := belU hb (by (repeat' (first | (with_reducible exact Below.refl _ _) | (with_reducible refine belS ?_ (by first | omega | (simp; done) | (simp; omega) | (simp only [World.size_alloc, World.size_setCell, World.size_drew] at *; omega))) | (with_reducible refine belA ?_ (by first | omega | (simp; done) | (simp; omega) | (simp only [World.size_alloc, World.size_setCell, World.size_drew] at *; omega))) | (with_reducible refine bel_drewN ?_ _) | (with_reducible refine Below.drew ?_) | (with_reducible assumption) | (refine Hid.out ?_; with_reducible assumption) | (apply belV; (with_reducible assumption); exact (by first | omega | (simp; done) | (simp; omega) | (simp only [World.size_alloc, World.size_setCell, World.size_drew] at *; omega)))))) (by first | omega | (simp; done) | (simp; omega) | (simp only [World.size_alloc, World.size_setCell, World.size_drew] at *; omega))
  have J := Lib.hid hj; clear hj
  have K := Lib.hid hk; clear hk
  have zdr := hb.size
  (try simp at zdr)
  have Ddr := Lib.hid hb; clear hb
  have hm : n ≤ maxLen := Nat.le_trans lc cm
  have hm' : n' ≤ maxLen := Nat.le_trans lc' cm'
  have HL := Lib.hid J.out.len
  have HL' := Lib.hid K.out.len
  go_wp2_with fail
  refine (impl_LineOk _ _ _ _ _ _ rest most ds line _ (J.out.below (by (repeat' (first | (with_reducible exact Below.refl _ _) | (with_reducible refine belS ?_ (by first | omega | (simp; done) | (simp; omega) | (simp only [World.size_alloc, World.size_setCell, World.size_drew] at *; omega))) | (with_reducible refine belA ?_ (by first | omega | (simp; done) | (simp; omega) | (simp only [World.size_alloc, World.size_setCell, World.size_drew] at *; omega))) | (with_reducible refine bel_drewN ?_ _) | (with_reducible refine Below.drew ?_) | (with_reducible assumption) | (refine Hid.out ?_; with_reducible assumption) | (apply belV; (with_reducible assumption); exact (by first | omega | (simp; done) | (simp; omega) | (simp only [World.size_alloc, World.size_setCell, World.size_drew] at *; omega))))))) hm (K.out.below (by (repeat' (first | (with_reducible exact Below.refl _ _) | (with_reducible refine belS ?_ (by first | omega | (simp; done) | (simp; omega) | (simp only [World.size_alloc, World.size_setCell, World.size_drew] at *; omega))) | (with_reducible refine belA ?_ (by first | omega | (simp; done) | (simp; omega) | (simp only [World.size_alloc, World.size_setCell, World.size_drew] at *; omega))) | (with_reducible refine bel_drewN ?_ _) | (with_reducible refine Below.drew ?_) | (with_reducible assumption) | (refine Hid.out ?_; with_reducible assumption) | (apply belV; (with_reducible assumption); exact (by first | omega | (simp; done) | (simp; omega) | (simp only [World.size_alloc, World.size_setCell, World.size_drew] at *; omega))))))) hm').mono ?_
  rintro e wim ⟨rfl, hb⟩
  have Gim : Hid (Below w.heap.size w wim) := belU hb (by (repeat' (first | (with_reducible exact Below.refl _ _) | (with_reducible refine belS ?_ (by first | omega | (simp; done) | (simp; omega) | (simp only [World.size_alloc, World.size_setCell, World.size_drew] at *; omega))) | (with_reducible refine belA ?_ (by first | omega | (simp; done) | (simp; omega) | (simp only [World.size_alloc, World.size_setCell, World.size_drew] at *; omega))) | (with_reducible refine bel_drewN ?_ _) | (with_reducible refine Below.drew ?_) | (with_reducible assumption) | (refine Hid.out ?_; with_reducible assumption) | (apply belV; (with_reducible assumption); exact (by first | omega | (simp; done) | (simp; omega) | (simp only [World.size_alloc, World.size_setCell, World.size_drew] at *; omega)))))) (by first | omega | (simp; done) | (simp; omega) | (simp only [World.size_alloc, World.size_setCell, World.size_drew] at *; omega))
  have zim := hb.size
  (try simp at zim)
  have Dim := Lib.hid hb; clear hb
  go_wp2_with fail
  refine (spec_LineOk _ _ _ _ _ _ rest most ds line _ (J.out.below (by (repeat' (first | (with_reducible exact Below.refl _ _) | (with_reducible refine belS ?_ (by first | omega | (simp; done) | (simp; omega) | (simp only [World.size_alloc, World.size_setCell, World.size_drew] at *; omega))) | (with_reducible refine belA ?_ (by first | omega | (simp; done) | (simp; omega) | (simp only [World.size_alloc, World.size_setCell, World.size_drew] at *; omega))) | (with_reducible refine bel_drewN ?_ _) | (with_reducible refine Below.drew ?_) | (with_reducible assumption) | (refine Hid.out ?_; with_reducible assumption) | (apply belV; (with_reducible assumption); exact (by first | omega | (simp; done) | (simp; omega) | (simp only [World.size_alloc, World.size_setCell, World.size_drew] at *; omega))))))) hm (K.out.below (by (repeat' (first | (with_reducible exact Below.refl _ _) | (with_reducible refine belS ?_ (by first | omega | (simp; done) | (simp; omega) | (simp only [World.size_alloc, World.size_setCell, World.size_drew] at *; omega))) | (with_reducible refine belA ?_ (by first | omega | (simp; done) | (simp; omega) | (simp only [World.size_alloc, World.size_setCell, World.size_drew] at *; omega))) | (with_reducible refine bel_drewN ?_ _) | (with_reducible refine Below.drew ?_) | (with_reducible assumption) | (refine Hid.out ?_; with_reducible assumption) | (apply belV; (with_reducible assumption); exact (by first | omega | (simp; done) | (simp; omega) | (simp only [World.size_alloc, World.size_setCell, World.size_drew] at *; omega))))))) hm').mono ?_
  rintro e wsp ⟨rfl, hb⟩
  have Gsp : Hid (Below w.heap.size w wsp) := belU hb (by (repeat' (first | (with_reducible exact Below.refl _ _) | (with_reducible refine belS ?_ (by first | omega | (simp; done) | (simp; omega) | (simp only [World.size_alloc, World.size_setCell, World.size_drew] at *; omega))) | (with_reducible refine belA ?_ (by first | omega | (simp; done) | (simp; omega) | (simp only [World.size_alloc, World.size_setCell, World.size_drew] at *; omega))) | (with_reducible refine bel_drewN ?_ _) | (with_reducible refine Below.drew ?_) | (with_reducible assumption) | (refine Hid.out ?_; with_reducible assumption) | (apply belV; (with_reducible assumption); exact (by first | omega | (simp; done) | (simp; omega) | (simp only [World.size_alloc, World.size_setCell, World.size_drew] at *; omega)))))) (by first | omega | (simp; done) | (simp; omega) | (simp only [World.size_alloc, World.size_setCell, World.size_drew] at *; omega))
  have zsp := hb.size
  (try simp at zsp)
  have Dsp := Lib.hid hb; clear hb
  cases hb : lineB ds rest most line
  · go_wp2_with fail
    refine (spec_LineOk _ _ _ _ _ _ rest most ds line _ (J.out.below (by (repeat' (first | (with_reducible exact Below.refl _ _) | (with_reducible refine belS ?_ (by first | omega | (simp; done) | (simp; omega) | (simp only [World.size_alloc, World.size_setCell, World.size_drew] at *; omega))) | (with_reducible refine belA ?_ (by first | omega | (simp; done) | (simp; omega) | (simp only [World.size_alloc, World.size_setCell, World.size_drew] at *; omega))) | (with_reducible refine bel_drewN ?_ _) | (with_reducible refine Below.drew ?_) | (with_reducible assumption) | (refine Hid.out ?_; with_reducible assumption) | (apply belV; (with_reducible assumption); exact (by first | omega | (simp; done) | (simp; omega) | (simp only [World.size_alloc, World.size_setCell, World.size_drew] at *; omega))))))) hm (K.out.below (by (repeat' (first | (with_reducible exact Below.refl _ _) | (with_reducible refine belS ?_ (by first | omega | (simp; done) | (simp; omega) | (simp only [World.size_alloc, World.size_setCell, World.size_drew] at *; omega))) | (with_reducible refine belA ?_ (by first | omega | (simp; done) | (simp; omega) | (simp only [World.size_alloc, World.size_setCell, World.size_drew] at *; omega))) | (with_reducible refine bel_drewN ?_ _) | (with_reducible refine Below.drew ?_) | (with_reducible assumption) | (refine Hid.out ?_; with_reducible assumption) | (apply belV; (with_reducible assumption); exact (by first | omega | (simp; done) | (simp; omega) | (simp only [World.size_alloc, World.size_setCell, World.size_drew] at *; omega))))))) hm').mono ?_
    rintro e wsp2 ⟨rfl, hb⟩
    have Gsp2 : Hid (Below w.heap.size w wsp2) := belU hb (by (repeat' (first | (with_reducible exact Below.refl _ _) | (with_reducible refine belS ?_ (by first | omega | (simp; done) | (simp; omega) | (simp only [World.size_alloc, World.size_setCell, World.size_drew] at *; omega))) | (with_reducible refine belA ?_ (by first | omega | (simp; done) | (simp; omega) | (simp only [World.size_alloc, World.size_setCell, World.size_drew] at *; omega))) | (with_reducible refine bel_drewN ?_ _) | (with_reducible refine Below.drew ?_) | (with_reducible assumption) | (refine Hid.out ?_; with_reducible assumption) | (apply belV; (with_reducible assumption); exact (by first | omega | (simp; done) | (simp; omega) | (simp only [World.size_alloc, World.size_setCell, World.size_drew] at *; omega)))))) (by first | omega | (simp; done) | (simp; omega) | (simp only [World.size_alloc, World.size_setCell, World.size_drew] at *; omega))
    have zsp2 := hb.size
    (try simp at zsp2)
    have Dsp2 := Lib.hid hb; clear hb
    rw [hb]
    go_wp2_with fail
    go_ret
    exact ⟨rfl, by (repeat' (first | (with_reducible exact Below.refl _ _) | (with_reducible refine belS ?_ (by first | omega | (simp; done) | (simp; omega) | (simp only [World.size_alloc, World.size_setCell, World.size_drew] at *; omega))) | (with_reducible refine belA ?_ (by first | omega | (simp; done) | (simp; omega) | (simp only [World.size_alloc, World.size_setCell, World.size_drew] at *; omega))) | (with_reducible refine bel_drewN ?_ _) | (with_reducible refine Below.drew ?_) | (with_reducible assumption) | (refine Hid.out ?_; with_reducible assumption) | (apply belV; (with_reducible assumption); exact (by first | omega | (simp; done) | (simp; omega) | (simp only [World.size_alloc, World.size_setCell, World.size_drew] at *; omega)))))⟩
  have LO := Lib.hid (fun i (hi : i < line.length) => line_out hb hi)
  have LL := Lib.hid (fun r' m' h1 h2 => line_loose (rest' := r') (most' := m') hb h1 h2)
  obtain ⟨⟨r0, r1⟩, q0, q1⟩ := rulB_facts (lineB_parts hb).2.1
  have HX := Lib.hid (fun x hx => K.out.2.1 x hx)
  clear hb br bm
  go_wp2_with fail
  go_loopw [8] (fun s8 wr => ∃ k : Nat, k ≤ n' ∧ s8 = .int .i64 k ∧ Hid (Below wsp.heap.size wsp wr)) (fun s8 _ => n' - (intOf s8).toNat)
  case atStart => exact ⟨0, by omega, rfl, Lib.hid (Below.refl _ _)⟩
  case round =>
    obtain ⟨k, hk, rfl, hbel⟩ := hrel
    have zz := hbel.out.size
    have G0 : Hid (Below w.heap.size w wr) := Lib.hid (Gsp.out.trans (hbel.out.mono (by omega)))
    have D0 : Hid (Below wdr.heap.size wdr wr) := Lib.hid (Below.trans (by (repeat' (first | (with_reducible exact Below.refl _ _) | (with_reducible refine belS ?_ (by first | omega | (simp; done) | (simp; omega) | (simp only [World.size_alloc, World.size_setCell, World.size_drew] at *; omega))) | (with_reducible refine belA ?_ (by first | omega | (simp; done) | (simp; omega) | (simp only [World.size_alloc, World.size_setCell, World.size_drew] at *; omega))) | (with_reducible refine bel_drewN ?_ _) | (with_reducible refine Below.drew ?_) | (with_reducible assumption) | (refine Hid.out ?_; with_reducible assumption) | (apply belV; (with_reducible assumption); exact (by first | omega | (simp; done) | (simp; omega) | (simp only [World.size_alloc, World.size_setCell, World.size_drew] at *; omega)))))) (hbel.out.mono (by omega)))
    by_cases hlt : k < n'
    · have hb := LO.out k (by rw [HL'.out]; exact hlt)
      have HB := Lib.hid hb; clear hb
      have OL : Hid ((cutAt line k).length = n' - 1) := Lib.hid (by rw [cutAt_len (by rw [HL'.out]; exact hlt), HL'.out])
      have IR : Hid (Ints wr A' n' line) := Lib.hid (K.out.below D0.out)
      go_wp2_with fail
      refine (laws_cut _ _ _ k _ line _ IR.out (by omega) hlt rfl).mono ?_
      rintro e w5 ⟨v5, hne5, rfl, hgr5, hb5⟩
      obtain ⟨g5, c5, rfl, hg5, og5, lc5, mc5, ig5⟩ := Grow.block hgr5 hne5 (fun x hx => HX.out x (cutAt_mem x hx))
      have I5 := Lib.hid ig5
      have D5 : Hid (Below wdr.heap.size wdr w5) := Lib.hid (Below.trans D0.out (hb5.mono D0.out.size))
      have S5 : Hid (Below wsp.heap.size wsp w5) := Lib.hid (Below.trans hbel.out (hb5.mono hbel.out.size))
      have G5 : Hid (Below w.heap.size w w5) := Lib.hid (G0.out.trans (hb5.mono G0.out.size))
      have z5 := hb5.size
      clear hgr5 hne5 og5 ig5 hb5
      go_wp2_with fail
      refine (impl_LineOk _ _ _ _ _ _ rest most ds (cutAt line k) _ (J.out.below D5.out) hm I5.out (by rw [OL.out]; unfold maxLen; omega)).mono ?_
      rintro e w6 ⟨rfl, hb6⟩
      have S6 : Hid (Below wsp.heap.size wsp w6) := Lib.hid (Below.trans S5.out (hb6.mono S5.out.size))
      clear hb6
      rw [HB.out]
      go_wp2_with fail
      go_roundw
      case rel => exact ⟨k + 1, by omega, by go_num, S6⟩
      case measure => simp [intOf]; omega
    · have IR : Hid (Ints wr A' n' line) := Lib.hid (K.out.below D0.out)
      have JR : Hid (DutS wr A n ds) := Lib.hid (J.out.below D0.out)
      by_cases hr : rest = 0
      · subst hr
        by_cases hq : most = 9999
        · subst hq
          go_wp2_with fail
          refine (impl_LineOk _ _ _ _ _ _ _ _ ds line _ JR.out hm IR.out hm').mono ?_
          rintro e w7 ⟨rfl, hb7⟩
          have G7 : Hid (Below w.heap.size w w7) := Lib.hid (G0.out.trans (hb7.mono G0.out.size))
          clear hb7
          go_wp2_with fail
          go_ret
          exact ⟨ret_b (LL.out _ _ (by omega) (by omega)), G7.out⟩
        · have hq2 : most + 1 ≤ 9999 := by omega
          go_wp2_with fail
          refine (impl_LineOk _ _ _ _ _ _ _ _ ds line _ JR.out hm IR.out hm').mono ?_
          rintro e w7 ⟨rfl, hb7⟩
          have G7 : Hid (Below w.heap.size w w7) := Lib.hid (G0.out.trans (hb7.mono G0.out.size))
          clear hb7
          go_wp2_with fail
          go_ret
          exact ⟨ret_b (LL.out _ _ (by omega) (by omega)), G7.out⟩
      · have hr2 : 0 ≤ rest - 1 := by omega
        by_cases hq : most = 9999
        · subst hq
          go_wp2_with fail
          refine (impl_LineOk _ _ _ _ _ _ _ _ ds line _ JR.out hm IR.out hm').mono ?_
          rintro e w7 ⟨rfl, hb7⟩
          have G7 : Hid (Below w.heap.size w w7) := Lib.hid (G0.out.trans (hb7.mono G0.out.size))
          clear hb7
          go_wp2_with fail
          go_ret
          exact ⟨ret_b (LL.out _ _ (by omega) (by omega)), G7.out⟩
        · have hq2 : most + 1 ≤ 9999 := by omega
          go_wp2_with fail
          refine (impl_LineOk _ _ _ _ _ _ _ _ ds line _ JR.out hm IR.out hm').mono ?_
          rintro e w7 ⟨rfl, hb7⟩
          have G7 : Hid (Below w.heap.size w w7) := Lib.hid (G0.out.trans (hb7.mono G0.out.size))
          clear hb7
          go_wp2_with fail
          go_ret
          exact ⟨ret_b (LL.out _ _ (by omega) (by omega)), G7.out⟩
end Go.Proofs.Ytjbgjljcgdligab
