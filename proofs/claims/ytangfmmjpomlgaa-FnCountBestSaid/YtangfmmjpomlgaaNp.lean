
/-
  The draws of the given laws that draw a problem and nothing else.
-/
import Derived.Test.YtangfmmjpomlgaaDy
set_option linter.unusedSimpArgs false
set_option linter.unusedVariables false
namespace Go.Proofs.Ytangfmmjpomlgaa
open Go.RowKit

theorem IntsF.keepZ {w w' : World} {lo n : Nat} {A : Option Addr} {xs : List Int} (h : IntsF w lo A n xs)
    (hk : ∀ j, lo ≤ j → j < w.heap.size → w'.heap[j]? = w.heap[j]?) : IntsF w' lo A n xs := by
  obtain ⟨⟨hl, hr, hc⟩, h2⟩ := h
  refine ⟨⟨hl, hr, fun hn => ?_⟩, h2⟩
  obtain ⟨b, off, e, hcell⟩ := hc hn
  obtain ⟨g, off', e', hg⟩ := h2 hn
  rw [e] at e'
  injection e' with e'
  injection e' with e1 e2
  subst e1
  exact ⟨b, off, e, fun i y hy => (World.cell?_of_block (w := w) (a := ⟨b, off + i, none⟩) (hk _ hg (blk_lt (hcell i y hy)))).trans (hcell i y hy)⟩
/-- A problem was drawn: at most 4 variables and 5 rows. -/
def ProbDrew (w : World) (e : Ending) (w' : World) : Prop :=
  ∃ (A0 A1 A2 : Option Addr) (d0 d1 d2 : Nat) (p : PProb), e = .returned (.agg #[.slice A0 p.costs.length d0, .slice A1 p.uppers.length d1, .slice A2 p.rows.length d2]) ∧ ProbV w' A0 A1 A2 d0 d1 d2 p ∧ (p.rows.length ≤ 1000 ∧ ((A1 = none ∧ d1 = 0 ∧ p.uppers = []) ∨ ∃ g : Nat, A1 = some ⟨g, 0, none⟩)) ∧ Below w.heap.size w w'

set_option maxHeartbeats 4000000 in
set_option maxRecDepth 100000 in
theorem DrawCountFeasible_p (len cap : Nat) (a : Option Addr) (w : World) (h : By w.heap.size w a len cap) : Calls Try.prog 18 #[.slice a len cap] w (ProbDrew w) := by
  have H := Lib.hid h; clear h
  go_enter Try.func18, Try.ntmps18
  go_wp2_with fail
  refine (newReader_any w.heap.size _ _ _ _ (H.out.below (by (repeat' (first | (with_reducible exact Below.refl _ _) | (with_reducible refine belS ?_ (by first | omega | (simp; done) | (simp; omega) | (simp only [World.size_alloc, World.size_setCell, World.size_drew] at *; omega))) | (with_reducible refine belA ?_ (by first | omega | (simp; done) | (simp; omega) | (simp only [World.size_alloc, World.size_setCell, World.size_drew] at *; omega))) | (with_reducible refine bel_drewN ?_ _) | (with_reducible refine Below.drew ?_) | (with_reducible assumption) | (refine Hid.out ?_; with_reducible assumption) | (apply belV; (with_reducible assumption); exact (by first | omega | (simp; done) | (simp; omega) | (simp only [World.size_alloc, World.size_setCell, World.size_drew] at *; omega))))))) (by first | omega | (simp; done) | (simp; omega) | (simp only [World.size_alloc, World.size_setCell, World.size_drew] at *; omega))).mono ?_
  rintro e w1 ⟨rfl, hr, hb⟩
  have G1 : Hid (Below w.heap.size w w1) := belU hb (by (repeat' (first | (with_reducible exact Below.refl _ _) | (with_reducible refine belS ?_ (by first | omega | (simp; done) | (simp; omega) | (simp only [World.size_alloc, World.size_setCell, World.size_drew] at *; omega))) | (with_reducible refine belA ?_ (by first | omega | (simp; done) | (simp; omega) | (simp only [World.size_alloc, World.size_setCell, World.size_drew] at *; omega))) | (with_reducible refine bel_drewN ?_ _) | (with_reducible refine Below.drew ?_) | (with_reducible assumption) | (refine Hid.out ?_; with_reducible assumption) | (apply belV; (with_reducible assumption); exact (by first | omega | (simp; done) | (simp; omega) | (simp only [World.size_alloc, World.size_setCell, World.size_drew] at *; omega)))))) (by first | omega | (simp; done) | (simp; omega) | (simp only [World.size_alloc, World.size_setCell, World.size_drew] at *; omega))
  (try simp only [World.size_alloc, World.size_setCell, World.size_drew, World.heap_drewN] at hr)
  have R1 := Lib.hid hr; clear hr
  have R_1 : Hid (Box w1 (w.heap.size) #[.slice none 0 0, .slice none 0 0, .slice none 0 0]) := Lib.hid (Box.below (by (repeat' (first | (with_reducible exact Box.new _ _ _ (by first | omega | (simp; done) | (simp; omega) | (simp only [World.size_alloc, World.size_setCell, World.size_drew] at *; omega))) | (with_reducible refine Box.far ?_ (by first | omega | (simp; done) | (simp; omega) | (simp only [World.size_alloc, World.size_setCell, World.size_drew] at *; omega)) _) | (apply Box.put3_0) | (apply Box.put3_1) | (apply Box.put3_2) | (apply Box.put2_0) | (apply Box.put2_1) | (with_reducible refine Box.alloc ?_ _) | (with_reducible refine Box.drewN ?_ _) | (with_reducible refine Box.drew ?_) | (with_reducible assumption) | (refine Hid.out ?_; with_reducible assumption) | (apply Box.only; (with_reducible assumption); exact (by first | omega | (simp; done) | (simp; omega) | (simp only [World.size_alloc, World.size_setCell, World.size_drew] at *; omega))) | (apply Box.belowD; (with_reducible assumption))))) hb)
  have yR_1 : w.heap.size < w1.heap.size := R_1.out.1
  obtain ⟨R_1c0, R_1c1, R_1c2⟩ := Box.facts3 R_1.out
  have R_1f0 := Box.frz R_1.out 0 (by first | decide | simp)
  have R_1f1 := Box.frz R_1.out 1 (by first | decide | simp)
  have R_1f2 := Box.frz R_1.out 2 (by first | decide | simp)
  have z1 := hb.size
  (try simp at z1)
  have D1 := Lib.hid hb; clear hb
  have s1 := R1.out.2.1
  go_wp2_with fail
  refine (anyProblem_any w.heap.size _ 0 _ R1.out (by omega)).mono ?_
  rintro e w2 ⟨A0, A1, d0, d1, v2, p, lo, rfl, i0, i1, gr, caps, sm, hr, ho⟩
  have z2 := ho.size
  have R2 := Lib.hid hr; clear hr
  have D2 := Lib.hid ho; clear ho
  have G2 : Hid (Below w.heap.size w w2) := Lib.hid (Below.trans (by (repeat' (first | (with_reducible exact Below.refl _ _) | (with_reducible refine belS ?_ (by first | omega | (simp; done) | (simp; omega) | (simp only [World.size_alloc, World.size_setCell, World.size_drew] at *; omega))) | (with_reducible refine belA ?_ (by first | omega | (simp; done) | (simp; omega) | (simp only [World.size_alloc, World.size_setCell, World.size_drew] at *; omega))) | (with_reducible refine bel_drewN ?_ _) | (with_reducible refine Below.drew ?_) | (with_reducible assumption) | (refine Hid.out ?_; with_reducible assumption) | (apply belV; (with_reducible assumption); exact (by first | omega | (simp; done) | (simp; omega) | (simp only [World.size_alloc, World.size_setCell, World.size_drew] at *; omega)))))) (Only.below D2.out (by first | omega | (simp; done) | (simp; omega) | (simp only [World.size_alloc, World.size_setCell, World.size_drew] at *; omega)) (by first | omega | (simp; done) | (simp; omega) | (simp only [World.size_alloc, World.size_setCell, World.size_drew] at *; omega))))
  (try simp at z2)
  have I0 := Lib.hid i0; clear i0
  have I1 := Lib.hid i1; clear i1
  have GR := Lib.hid gr; clear gr
  have CP := Lib.hid caps; clear caps
  have SM := Lib.hid sm; clear sm
  have R_2 : Hid (Box w2 (w.heap.size) #[.slice none 0 0, .slice none 0 0, .slice none 0 0]) := Lib.hid (Box.only D2 (by first | omega | (simp; done) | (simp; omega) | (simp only [World.size_alloc, World.size_setCell, World.size_drew] at *; omega)) (by (repeat' (first | (with_reducible exact Box.new _ _ _ (by first | omega | (simp; done) | (simp; omega) | (simp only [World.size_alloc, World.size_setCell, World.size_drew] at *; omega))) | (with_reducible refine Box.far ?_ (by first | omega | (simp; done) | (simp; omega) | (simp only [World.size_alloc, World.size_setCell, World.size_drew] at *; omega)) _) | (apply Box.put3_0) | (apply Box.put3_1) | (apply Box.put3_2) | (apply Box.put2_0) | (apply Box.put2_1) | (with_reducible refine Box.alloc ?_ _) | (with_reducible refine Box.drewN ?_ _) | (with_reducible refine Box.drew ?_) | (with_reducible assumption) | (refine Hid.out ?_; with_reducible assumption) | (apply Box.only; (with_reducible assumption); exact (by first | omega | (simp; done) | (simp; omega) | (simp only [World.size_alloc, World.size_setCell, World.size_drew] at *; omega))) | (apply Box.belowD; (with_reducible assumption))))))
  have yR_2 : w.heap.size < w2.heap.size := R_2.out.1
  obtain ⟨R_2c0, R_2c1, R_2c2⟩ := Box.facts3 R_2.out
  have R_2f0 := Box.frz R_2.out 0 (by first | decide | simp)
  have R_2f1 := Box.frz R_2.out 1 (by first | decide | simp)
  have R_2f2 := Box.frz R_2.out 2 (by first | decide | simp)
  obtain ⟨A2, d2, rfl, ld2, md2⟩ := GR.out.shape
  obtain ⟨lolo, lohi, lc0, mc0, lc1, mc1, hA1, ow0, ow1⟩ := CP.out
  obtain ⟨sm1, sm2, sm3, -, sm5⟩ := SM.out
  have HA1 := Lib.hid hA1
  clear sm5 ow0 ow1 hA1
  go_wp2_with fail
  refine bodyPost_ret (v := .agg #[.slice A0 p.costs.length d0, .slice A1 p.uppers.length d1, .slice A2 p.rows.length d2]) (by simp [results, Try.results18, go_sem, *]) rfl ?_
  have K : ∀ j, w1.heap.size ≤ j → j < w2.heap.size → (((w2.setCell ⟨w.heap.size, 0, none⟩ (.slice A0 p.costs.length d0)).setCell ⟨w.heap.size, 1, none⟩ (.slice A1 p.uppers.length d1)).setCell ⟨w.heap.size, 2, none⟩ (.slice A2 p.rows.length d2)).heap[j]? = w2.heap[j]? := fun j h1 h2 => by
    (repeat' (first | rfl | refine (Below.heap_setCell _ _ _ _ (by simp; omega)).trans ?_))
  obtain ⟨A6, d6, e6, l6, m6, h6⟩ := (GrowR.keep GR.out (by simp [World.setCell]) (fun j h1 h2 => K j (by omega) h2)).rows
  injection e6 with a1 a2 a3
  subst a1 a3
  exact ⟨A0, A1, A2, d0, d1, d2, p, rfl, ⟨(I0.out.keepZ K).out, (I1.out.keepZ K).out, h6, lc0, lc1, l6, mc0, mc1, m6⟩, ⟨by omega, HA1.out⟩, by (repeat' (first | (with_reducible exact Below.refl _ _) | (with_reducible refine belS ?_ (by first | omega | (simp; done) | (simp; omega) | (simp only [World.size_alloc, World.size_setCell, World.size_drew] at *; omega))) | (with_reducible refine belA ?_ (by first | omega | (simp; done) | (simp; omega) | (simp only [World.size_alloc, World.size_setCell, World.size_drew] at *; omega))) | (with_reducible refine bel_drewN ?_ _) | (with_reducible refine Below.drew ?_) | (with_reducible assumption) | (refine Hid.out ?_; with_reducible assumption) | (apply belV; (with_reducible assumption); exact (by first | omega | (simp; done) | (simp; omega) | (simp only [World.size_alloc, World.size_setCell, World.size_drew] at *; omega)))))⟩

set_option maxHeartbeats 4000000 in
set_option maxRecDepth 100000 in
theorem DrawSolveExact_p (len cap : Nat) (a : Option Addr) (w : World) (h : By w.heap.size w a len cap) : Calls Try.prog 9 #[.slice a len cap] w (ProbDrew w) := by
  have H := Lib.hid h; clear h
  go_enter Try.func9, Try.ntmps9
  go_wp2_with fail
  refine (newReader_any w.heap.size _ _ _ _ (H.out.below (by (repeat' (first | (with_reducible exact Below.refl _ _) | (with_reducible refine belS ?_ (by first | omega | (simp; done) | (simp; omega) | (simp only [World.size_alloc, World.size_setCell, World.size_drew] at *; omega))) | (with_reducible refine belA ?_ (by first | omega | (simp; done) | (simp; omega) | (simp only [World.size_alloc, World.size_setCell, World.size_drew] at *; omega))) | (with_reducible refine bel_drewN ?_ _) | (with_reducible refine Below.drew ?_) | (with_reducible assumption) | (refine Hid.out ?_; with_reducible assumption) | (apply belV; (with_reducible assumption); exact (by first | omega | (simp; done) | (simp; omega) | (simp only [World.size_alloc, World.size_setCell, World.size_drew] at *; omega))))))) (by first | omega | (simp; done) | (simp; omega) | (simp only [World.size_alloc, World.size_setCell, World.size_drew] at *; omega))).mono ?_
  rintro e w1 ⟨rfl, hr, hb⟩
  have G1 : Hid (Below w.heap.size w w1) := belU hb (by (repeat' (first | (with_reducible exact Below.refl _ _) | (with_reducible refine belS ?_ (by first | omega | (simp; done) | (simp; omega) | (simp only [World.size_alloc, World.size_setCell, World.size_drew] at *; omega))) | (with_reducible refine belA ?_ (by first | omega | (simp; done) | (simp; omega) | (simp only [World.size_alloc, World.size_setCell, World.size_drew] at *; omega))) | (with_reducible refine bel_drewN ?_ _) | (with_reducible refine Below.drew ?_) | (with_reducible assumption) | (refine Hid.out ?_; with_reducible assumption) | (apply belV; (with_reducible assumption); exact (by first | omega | (simp; done) | (simp; omega) | (simp only [World.size_alloc, World.size_setCell, World.size_drew] at *; omega)))))) (by first | omega | (simp; done) | (simp; omega) | (simp only [World.size_alloc, World.size_setCell, World.size_drew] at *; omega))
  (try simp only [World.size_alloc, World.size_setCell, World.size_drew, World.heap_drewN] at hr)
  have R1 := Lib.hid hr; clear hr
  have R_1 : Hid (Box w1 (w.heap.size) #[.slice none 0 0, .slice none 0 0, .slice none 0 0]) := Lib.hid (Box.below (by (repeat' (first | (with_reducible exact Box.new _ _ _ (by first | omega | (simp; done) | (simp; omega) | (simp only [World.size_alloc, World.size_setCell, World.size_drew] at *; omega))) | (with_reducible refine Box.far ?_ (by first | omega | (simp; done) | (simp; omega) | (simp only [World.size_alloc, World.size_setCell, World.size_drew] at *; omega)) _) | (apply Box.put3_0) | (apply Box.put3_1) | (apply Box.put3_2) | (apply Box.put2_0) | (apply Box.put2_1) | (with_reducible refine Box.alloc ?_ _) | (with_reducible refine Box.drewN ?_ _) | (with_reducible refine Box.drew ?_) | (with_reducible assumption) | (refine Hid.out ?_; with_reducible assumption) | (apply Box.only; (with_reducible assumption); exact (by first | omega | (simp; done) | (simp; omega) | (simp only [World.size_alloc, World.size_setCell, World.size_drew] at *; omega))) | (apply Box.belowD; (with_reducible assumption))))) hb)
  have yR_1 : w.heap.size < w1.heap.size := R_1.out.1
  obtain ⟨R_1c0, R_1c1, R_1c2⟩ := Box.facts3 R_1.out
  have R_1f0 := Box.frz R_1.out 0 (by first | decide | simp)
  have R_1f1 := Box.frz R_1.out 1 (by first | decide | simp)
  have R_1f2 := Box.frz R_1.out 2 (by first | decide | simp)
  have z1 := hb.size
  (try simp at z1)
  have D1 := Lib.hid hb; clear hb
  have s1 := R1.out.2.1
  go_wp2_with fail
  refine (anyProblem_any w.heap.size _ 0 _ R1.out (by omega)).mono ?_
  rintro e w2 ⟨A0, A1, d0, d1, v2, p, lo, rfl, i0, i1, gr, caps, sm, hr, ho⟩
  have z2 := ho.size
  have R2 := Lib.hid hr; clear hr
  have D2 := Lib.hid ho; clear ho
  have G2 : Hid (Below w.heap.size w w2) := Lib.hid (Below.trans (by (repeat' (first | (with_reducible exact Below.refl _ _) | (with_reducible refine belS ?_ (by first | omega | (simp; done) | (simp; omega) | (simp only [World.size_alloc, World.size_setCell, World.size_drew] at *; omega))) | (with_reducible refine belA ?_ (by first | omega | (simp; done) | (simp; omega) | (simp only [World.size_alloc, World.size_setCell, World.size_drew] at *; omega))) | (with_reducible refine bel_drewN ?_ _) | (with_reducible refine Below.drew ?_) | (with_reducible assumption) | (refine Hid.out ?_; with_reducible assumption) | (apply belV; (with_reducible assumption); exact (by first | omega | (simp; done) | (simp; omega) | (simp only [World.size_alloc, World.size_setCell, World.size_drew] at *; omega)))))) (Only.below D2.out (by first | omega | (simp; done) | (simp; omega) | (simp only [World.size_alloc, World.size_setCell, World.size_drew] at *; omega)) (by first | omega | (simp; done) | (simp; omega) | (simp only [World.size_alloc, World.size_setCell, World.size_drew] at *; omega))))
  (try simp at z2)
  have I0 := Lib.hid i0; clear i0
  have I1 := Lib.hid i1; clear i1
  have GR := Lib.hid gr; clear gr
  have CP := Lib.hid caps; clear caps
  have SM := Lib.hid sm; clear sm
  have R_2 : Hid (Box w2 (w.heap.size) #[.slice none 0 0, .slice none 0 0, .slice none 0 0]) := Lib.hid (Box.only D2 (by first | omega | (simp; done) | (simp; omega) | (simp only [World.size_alloc, World.size_setCell, World.size_drew] at *; omega)) (by (repeat' (first | (with_reducible exact Box.new _ _ _ (by first | omega | (simp; done) | (simp; omega) | (simp only [World.size_alloc, World.size_setCell, World.size_drew] at *; omega))) | (with_reducible refine Box.far ?_ (by first | omega | (simp; done) | (simp; omega) | (simp only [World.size_alloc, World.size_setCell, World.size_drew] at *; omega)) _) | (apply Box.put3_0) | (apply Box.put3_1) | (apply Box.put3_2) | (apply Box.put2_0) | (apply Box.put2_1) | (with_reducible refine Box.alloc ?_ _) | (with_reducible refine Box.drewN ?_ _) | (with_reducible refine Box.drew ?_) | (with_reducible assumption) | (refine Hid.out ?_; with_reducible assumption) | (apply Box.only; (with_reducible assumption); exact (by first | omega | (simp; done) | (simp; omega) | (simp only [World.size_alloc, World.size_setCell, World.size_drew] at *; omega))) | (apply Box.belowD; (with_reducible assumption))))))
  have yR_2 : w.heap.size < w2.heap.size := R_2.out.1
  obtain ⟨R_2c0, R_2c1, R_2c2⟩ := Box.facts3 R_2.out
  have R_2f0 := Box.frz R_2.out 0 (by first | decide | simp)
  have R_2f1 := Box.frz R_2.out 1 (by first | decide | simp)
  have R_2f2 := Box.frz R_2.out 2 (by first | decide | simp)
  obtain ⟨A2, d2, rfl, ld2, md2⟩ := GR.out.shape
  obtain ⟨lolo, lohi, lc0, mc0, lc1, mc1, hA1, ow0, ow1⟩ := CP.out
  obtain ⟨sm1, sm2, sm3, -, sm5⟩ := SM.out
  have HA1 := Lib.hid hA1
  clear sm5 ow0 ow1 hA1
  go_wp2_with fail
  refine bodyPost_ret (v := .agg #[.slice A0 p.costs.length d0, .slice A1 p.uppers.length d1, .slice A2 p.rows.length d2]) (by simp [results, Try.results9, go_sem, *]) rfl ?_
  have K : ∀ j, w1.heap.size ≤ j → j < w2.heap.size → (((w2.setCell ⟨w.heap.size, 0, none⟩ (.slice A0 p.costs.length d0)).setCell ⟨w.heap.size, 1, none⟩ (.slice A1 p.uppers.length d1)).setCell ⟨w.heap.size, 2, none⟩ (.slice A2 p.rows.length d2)).heap[j]? = w2.heap[j]? := fun j h1 h2 => by
    (repeat' (first | rfl | refine (Below.heap_setCell _ _ _ _ (by simp; omega)).trans ?_))
  obtain ⟨A6, d6, e6, l6, m6, h6⟩ := (GrowR.keep GR.out (by simp [World.setCell]) (fun j h1 h2 => K j (by omega) h2)).rows
  injection e6 with a1 a2 a3
  subst a1 a3
  exact ⟨A0, A1, A2, d0, d1, d2, p, rfl, ⟨(I0.out.keepZ K).out, (I1.out.keepZ K).out, h6, lc0, lc1, l6, mc0, mc1, m6⟩, ⟨by omega, HA1.out⟩, by (repeat' (first | (with_reducible exact Below.refl _ _) | (with_reducible refine belS ?_ (by first | omega | (simp; done) | (simp; omega) | (simp only [World.size_alloc, World.size_setCell, World.size_drew] at *; omega))) | (with_reducible refine belA ?_ (by first | omega | (simp; done) | (simp; omega) | (simp only [World.size_alloc, World.size_setCell, World.size_drew] at *; omega))) | (with_reducible refine bel_drewN ?_ _) | (with_reducible refine Below.drew ?_) | (with_reducible assumption) | (refine Hid.out ?_; with_reducible assumption) | (apply belV; (with_reducible assumption); exact (by first | omega | (simp; done) | (simp; omega) | (simp only [World.size_alloc, World.size_setCell, World.size_drew] at *; omega)))))⟩

set_option maxHeartbeats 4000000 in
set_option maxRecDepth 100000 in
theorem DrawCountBest_p (len cap : Nat) (a : Option Addr) (w : World) (h : By w.heap.size w a len cap) : Calls Try.prog 14 #[.slice a len cap] w (ProbDrew w) := by
  have H := Lib.hid h; clear h
  go_enter Try.func14, Try.ntmps14
  go_wp2_with fail
  refine (newReader_any w.heap.size _ _ _ _ (H.out.below (by (repeat' (first | (with_reducible exact Below.refl _ _) | (with_reducible refine belS ?_ (by first | omega | (simp; done) | (simp; omega) | (simp only [World.size_alloc, World.size_setCell, World.size_drew] at *; omega))) | (with_reducible refine belA ?_ (by first | omega | (simp; done) | (simp; omega) | (simp only [World.size_alloc, World.size_setCell, World.size_drew] at *; omega))) | (with_reducible refine bel_drewN ?_ _) | (with_reducible refine Below.drew ?_) | (with_reducible assumption) | (refine Hid.out ?_; with_reducible assumption) | (apply belV; (with_reducible assumption); exact (by first | omega | (simp; done) | (simp; omega) | (simp only [World.size_alloc, World.size_setCell, World.size_drew] at *; omega))))))) (by first | omega | (simp; done) | (simp; omega) | (simp only [World.size_alloc, World.size_setCell, World.size_drew] at *; omega))).mono ?_
  rintro e w1 ⟨rfl, hr, hb⟩
  have G1 : Hid (Below w.heap.size w w1) := belU hb (by (repeat' (first | (with_reducible exact Below.refl _ _) | (with_reducible refine belS ?_ (by first | omega | (simp; done) | (simp; omega) | (simp only [World.size_alloc, World.size_setCell, World.size_drew] at *; omega))) | (with_reducible refine belA ?_ (by first | omega | (simp; done) | (simp; omega) | (simp only [World.size_alloc, World.size_setCell, World.size_drew] at *; omega))) | (with_reducible refine bel_drewN ?_ _) | (with_reducible refine Below.drew ?_) | (with_reducible assumption) | (refine Hid.out ?_; with_reducible assumption) | (apply belV; (with_reducible assumption); exact (by first | omega | (simp; done) | (simp; omega) | (simp only [World.size_alloc, World.size_setCell, World.size_drew] at *; omega)))))) (by first | omega | (simp; done) | (simp; omega) | (simp only [World.size_alloc, World.size_setCell, World.size_drew] at *; omega))
  (try simp only [World.size_alloc, World.size_setCell, World.size_drew, World.heap_drewN] at hr)
  have R1 := Lib.hid hr; clear hr
  have R_1 : Hid (Box w1 (w.heap.size) #[.slice none 0 0, .slice none 0 0, .slice none 0 0]) := Lib.hid (Box.below (by (repeat' (first | (with_reducible exact Box.new _ _ _ (by first | omega | (simp; done) | (simp; omega) | (simp only [World.size_alloc, World.size_setCell, World.size_drew] at *; omega))) | (with_reducible refine Box.far ?_ (by first | omega | (simp; done) | (simp; omega) | (simp only [World.size_alloc, World.size_setCell, World.size_drew] at *; omega)) _) | (apply Box.put3_0) | (apply Box.put3_1) | (apply Box.put3_2) | (apply Box.put2_0) | (apply Box.put2_1) | (with_reducible refine Box.alloc ?_ _) | (with_reducible refine Box.drewN ?_ _) | (with_reducible refine Box.drew ?_) | (with_reducible assumption) | (refine Hid.out ?_; with_reducible assumption) | (apply Box.only; (with_reducible assumption); exact (by first | omega | (simp; done) | (simp; omega) | (simp only [World.size_alloc, World.size_setCell, World.size_drew] at *; omega))) | (apply Box.belowD; (with_reducible assumption))))) hb)
  have yR_1 : w.heap.size < w1.heap.size := R_1.out.1
  obtain ⟨R_1c0, R_1c1, R_1c2⟩ := Box.facts3 R_1.out
  have R_1f0 := Box.frz R_1.out 0 (by first | decide | simp)
  have R_1f1 := Box.frz R_1.out 1 (by first | decide | simp)
  have R_1f2 := Box.frz R_1.out 2 (by first | decide | simp)
  have z1 := hb.size
  (try simp at z1)
  have D1 := Lib.hid hb; clear hb
  have s1 := R1.out.2.1
  go_wp2_with fail
  refine (anyProblem_any w.heap.size _ 0 _ R1.out (by omega)).mono ?_
  rintro e w2 ⟨A0, A1, d0, d1, v2, p, lo, rfl, i0, i1, gr, caps, sm, hr, ho⟩
  have z2 := ho.size
  have R2 := Lib.hid hr; clear hr
  have D2 := Lib.hid ho; clear ho
  have G2 : Hid (Below w.heap.size w w2) := Lib.hid (Below.trans (by (repeat' (first | (with_reducible exact Below.refl _ _) | (with_reducible refine belS ?_ (by first | omega | (simp; done) | (simp; omega) | (simp only [World.size_alloc, World.size_setCell, World.size_drew] at *; omega))) | (with_reducible refine belA ?_ (by first | omega | (simp; done) | (simp; omega) | (simp only [World.size_alloc, World.size_setCell, World.size_drew] at *; omega))) | (with_reducible refine bel_drewN ?_ _) | (with_reducible refine Below.drew ?_) | (with_reducible assumption) | (refine Hid.out ?_; with_reducible assumption) | (apply belV; (with_reducible assumption); exact (by first | omega | (simp; done) | (simp; omega) | (simp only [World.size_alloc, World.size_setCell, World.size_drew] at *; omega)))))) (Only.below D2.out (by first | omega | (simp; done) | (simp; omega) | (simp only [World.size_alloc, World.size_setCell, World.size_drew] at *; omega)) (by first | omega | (simp; done) | (simp; omega) | (simp only [World.size_alloc, World.size_setCell, World.size_drew] at *; omega))))
  (try simp at z2)
  have I0 := Lib.hid i0; clear i0
  have I1 := Lib.hid i1; clear i1
  have GR := Lib.hid gr; clear gr
  have CP := Lib.hid caps; clear caps
  have SM := Lib.hid sm; clear sm
  have R_2 : Hid (Box w2 (w.heap.size) #[.slice none 0 0, .slice none 0 0, .slice none 0 0]) := Lib.hid (Box.only D2 (by first | omega | (simp; done) | (simp; omega) | (simp only [World.size_alloc, World.size_setCell, World.size_drew] at *; omega)) (by (repeat' (first | (with_reducible exact Box.new _ _ _ (by first | omega | (simp; done) | (simp; omega) | (simp only [World.size_alloc, World.size_setCell, World.size_drew] at *; omega))) | (with_reducible refine Box.far ?_ (by first | omega | (simp; done) | (simp; omega) | (simp only [World.size_alloc, World.size_setCell, World.size_drew] at *; omega)) _) | (apply Box.put3_0) | (apply Box.put3_1) | (apply Box.put3_2) | (apply Box.put2_0) | (apply Box.put2_1) | (with_reducible refine Box.alloc ?_ _) | (with_reducible refine Box.drewN ?_ _) | (with_reducible refine Box.drew ?_) | (with_reducible assumption) | (refine Hid.out ?_; with_reducible assumption) | (apply Box.only; (with_reducible assumption); exact (by first | omega | (simp; done) | (simp; omega) | (simp only [World.size_alloc, World.size_setCell, World.size_drew] at *; omega))) | (apply Box.belowD; (with_reducible assumption))))))
  have yR_2 : w.heap.size < w2.heap.size := R_2.out.1
  obtain ⟨R_2c0, R_2c1, R_2c2⟩ := Box.facts3 R_2.out
  have R_2f0 := Box.frz R_2.out 0 (by first | decide | simp)
  have R_2f1 := Box.frz R_2.out 1 (by first | decide | simp)
  have R_2f2 := Box.frz R_2.out 2 (by first | decide | simp)
  obtain ⟨A2, d2, rfl, ld2, md2⟩ := GR.out.shape
  obtain ⟨lolo, lohi, lc0, mc0, lc1, mc1, hA1, ow0, ow1⟩ := CP.out
  obtain ⟨sm1, sm2, sm3, -, sm5⟩ := SM.out
  have HA1 := Lib.hid hA1
  clear sm5 ow0 ow1 hA1
  go_wp2_with fail
  refine bodyPost_ret (v := .agg #[.slice A0 p.costs.length d0, .slice A1 p.uppers.length d1, .slice A2 p.rows.length d2]) (by simp [results, Try.results14, go_sem, *]) rfl ?_
  have K : ∀ j, w1.heap.size ≤ j → j < w2.heap.size → (((w2.setCell ⟨w.heap.size, 0, none⟩ (.slice A0 p.costs.length d0)).setCell ⟨w.heap.size, 1, none⟩ (.slice A1 p.uppers.length d1)).setCell ⟨w.heap.size, 2, none⟩ (.slice A2 p.rows.length d2)).heap[j]? = w2.heap[j]? := fun j h1 h2 => by
    (repeat' (first | rfl | refine (Below.heap_setCell _ _ _ _ (by simp; omega)).trans ?_))
  obtain ⟨A6, d6, e6, l6, m6, h6⟩ := (GrowR.keep GR.out (by simp [World.setCell]) (fun j h1 h2 => K j (by omega) h2)).rows
  injection e6 with a1 a2 a3
  subst a1 a3
  exact ⟨A0, A1, A2, d0, d1, d2, p, rfl, ⟨(I0.out.keepZ K).out, (I1.out.keepZ K).out, h6, lc0, lc1, l6, mc0, mc1, m6⟩, ⟨by omega, HA1.out⟩, by (repeat' (first | (with_reducible exact Below.refl _ _) | (with_reducible refine belS ?_ (by first | omega | (simp; done) | (simp; omega) | (simp only [World.size_alloc, World.size_setCell, World.size_drew] at *; omega))) | (with_reducible refine belA ?_ (by first | omega | (simp; done) | (simp; omega) | (simp only [World.size_alloc, World.size_setCell, World.size_drew] at *; omega))) | (with_reducible refine bel_drewN ?_ _) | (with_reducible refine Below.drew ?_) | (with_reducible assumption) | (refine Hid.out ?_; with_reducible assumption) | (apply belV; (with_reducible assumption); exact (by first | omega | (simp; done) | (simp; omega) | (simp only [World.size_alloc, World.size_setCell, World.size_drew] at *; omega)))))⟩

end Go.Proofs.Ytangfmmjpomlgaa
