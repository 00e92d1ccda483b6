
/-
  A problem without a row.
-/
import Derived.Test.YtangfmmjpomlgaaGs
import Derived.Test.YtangfmmjpomlgaaQ4
set_option linter.unusedSimpArgs false
set_option linter.unusedVariables false
namespace Go.Proofs.Ytangfmmjpomlgaa
open Go.RowKit

/-- A problem without row i was made. -/
def Dropped (A0 A1 : Option Addr) (c0 c1 : Nat) (q : PProb) (w : World) (e : Ending) (w' : World) : Prop :=
  ∃ (A2 : Option Addr) (c2 : Nat), e = .returned (.agg #[.slice A0 q.costs.length c0, .slice A1 q.uppers.length c1, .slice A2 q.rows.length c2]) ∧ ProbV w' A0 A1 A2 c0 c1 c2 q ∧ Below w.heap.size w w'

set_option maxHeartbeats 4000000 in
set_option maxRecDepth 100000 in
theorem laws_dropRow (A0 A1 A2 : Option Addr) (c0 c1 c2 : Nat) (p : PProb) (i : Nat) (w : World) (hp : ProbV w A0 A1 A2 c0 c1 c2 p) (h6 : p.rows.length ≤ 1000) :
    Calls Try.prog 13 #[.agg #[.slice A0 p.costs.length c0, .slice A1 p.uppers.length c1, .slice A2 p.rows.length c2], .int .i64 i] w (Dropped A0 A1 c0 c1 (dropP p i) w) := by
  obtain ⟨ir, hir, hzr0, hzr1, hzr2⟩ := info_parts info_row
  have HP := Lib.hid hp; clear hp
  go_enter Try.func13, Try.ntmps13
  go_wp2_with fail
  go_loopw [5, 6] (fun s5 s6 wr => ∃ (k : Nat) (v5 : Value) (rs : List PRow), k ≤ p.rows.length ∧ v5 = s5 ∧ s6 = .int .i64 k ∧ Hid (rs = (p.rows.take k).eraseIdx i) ∧ Hid (GrowRY wr 0 (w.heap.size + 1) (w.heap.size + 2) 35 v5 rs) ∧ Hid (Box wr w.heap.size #[.slice A0 p.costs.length c0, .slice A1 p.uppers.length c1, .slice A2 p.rows.length c2]) ∧ Hid (Box wr (w.heap.size + 1) #[.slice none 0 0, .slice none 0 0, .slice none 0 0]) ∧ Hid (Below w.heap.size w wr)) (fun _ s6 _ => p.rows.length - (intOf s6).toNat)
  case atStart => exact ⟨0, _, [], by omega, rfl, rfl, Lib.hid (by simp), Lib.hid (GrowRY.lit0_at _ (by simp) (Nat.zero_le _) (by simp) (by simp) _), Lib.hid (by (repeat' (first | (with_reducible exact Box.new _ _ _ (by first | omega | (simp; done) | (simp; omega) | (simp only [World.size_alloc, World.size_setCell, World.size_drew] at *; omega))) | (with_reducible refine Box.far ?_ (by first | omega | (simp; done) | (simp; omega) | (simp only [World.size_alloc, World.size_setCell, World.size_drew] at *; omega)) _) | (apply Box.put3_0) | (apply Box.put3_1) | (apply Box.put3_2) | (apply Box.put2_0) | (apply Box.put2_1) | (with_reducible refine Box.alloc ?_ _) | (with_reducible refine Box.drewN ?_ _) | (with_reducible refine Box.drew ?_) | (with_reducible assumption) | (refine Hid.out ?_; with_reducible assumption) | (apply Box.only; (with_reducible assumption); exact (by first | omega | (simp; done) | (simp; omega) | (simp only [World.size_alloc, World.size_setCell, World.size_drew] at *; omega))) | (apply Box.belowD; (with_reducible assumption))))), Lib.hid (by (repeat' (first | (with_reducible exact Box.new _ _ _ (by first | omega | (simp; done) | (simp; omega) | (simp only [World.size_alloc, World.size_setCell, World.size_drew] at *; omega))) | (with_reducible refine Box.far ?_ (by first | omega | (simp; done) | (simp; omega) | (simp only [World.size_alloc, World.size_setCell, World.size_drew] at *; omega)) _) | (apply Box.put3_0) | (apply Box.put3_1) | (apply Box.put3_2) | (apply Box.put2_0) | (apply Box.put2_1) | (with_reducible refine Box.alloc ?_ _) | (with_reducible refine Box.drewN ?_ _) | (with_reducible refine Box.drew ?_) | (with_reducible assumption) | (refine Hid.out ?_; with_reducible assumption) | (apply Box.only; (with_reducible assumption); exact (by first | omega | (simp; done) | (simp; omega) | (simp only [World.size_alloc, World.size_setCell, World.size_drew] at *; omega))) | (apply Box.belowD; (with_reducible assumption))))), Lib.hid (by (repeat' (first | (with_reducible exact Below.refl _ _) | (with_reducible refine belS ?_ (by first | omega | (simp; done) | (simp; omega) | (simp only [World.size_alloc, World.size_setCell, World.size_drew] at *; omega))) | (with_reducible refine belA ?_ (by first | omega | (simp; done) | (simp; omega) | (simp only [World.size_alloc, World.size_setCell, World.size_drew] at *; omega))) | (with_reducible refine bel_drewN ?_ _) | (with_reducible refine Below.drew ?_) | (with_reducible assumption) | (refine Hid.out ?_; with_reducible assumption) | (apply belV; (with_reducible assumption); exact (by first | omega | (simp; done) | (simp; omega) | (simp only [World.size_alloc, World.size_setCell, World.size_drew] at *; omega))))))⟩
  case round =>
    obtain ⟨k, v5, rs, hk, rfl, rfl, hrs, hgr, hX, hR, hbel⟩ := hrel
    have y0 := hX.out.1
    have y1 := hR.out.1
    have hrl : rs.length ≤ k := by
      rw [hrs.out]
      have h1 := List.length_eraseIdx_le (p.rows.take k) i
      have h2 := List.length_take_le k p.rows
      omega
    obtain ⟨x0, x1, x2⟩ := Box.facts3 hX.out
    by_cases hlt : k < p.rows.length
    · obtain ⟨b, off, r, A', c', rfl, hb, hr, hrv, q0, q1, q2⟩ := HP.out.rs.at_ hlt
      have k0 := (hbel.out.cell (p := ⟨b, off + k * 3, none⟩) hb).trans q0
      have k1 := (hbel.out.cell (p := ⟨b, off + k * 3 + 1, none⟩) hb).trans q1
      have k2 := (hbel.out.cell (p := ⟨b, off + k * 3 + 2, none⟩) hb).trans q2
      have HE := Lib.hid (erase_step (i := i) hr)
      have HV := Lib.hid hrv
      clear q0 q1 q2 hr hrv
      by_cases hki : k = i
      · subst hki
        rw [if_pos rfl] at HE
        go_wp2_with fail
        go_roundw
        case rel => exact ⟨k + 1, _, rs, by omega, rfl, by go_num, Lib.hid (by rw [HE.out]; exact hrs.out), hgr, hX, hR, hbel⟩
        case measure => simp [intOf]; omega
      · rw [if_neg hki] at HE
        have hne : ((k : Int) != (i : Int)) = true := by simp; omega
        have hki' : ¬ (k : Int) = (i : Int) := by omega
        have hrow := hgr.out.row
        go_wp2_with (
          at_builtin
          obtain ⟨cl, hcl, hown, hcy, hrv⟩ := (hgr.out.alloc (.cells #[.slice A' r.cs.length c', .int .i64 r.s, .int .i64 r.b] 35)).cells
          refine wpList_append_own_at _ rfl (.tmp 18) (.tmp 24) 24 rfl (w.heap.size + 2) 35 ir (.agg #[.slice none 0 0, .int .i64 0, .int .i64 0]) 3 40 Try.underlying24 hir hzr0 hzr1 hzr2 rfl (by decide) v5 rs.length cl rfl hown ⟨wr.heap.size, 0, none⟩ 1 1 [.slice A' r.cs.length c', .int .i64 r.s, .int .i64 r.b] rfl rfl ?c1 ?c2 ?c3 ?c4 ?c5 ?_
          case c1 => exact news3 _ _ _ _ _
          case c2 => exact one3 _ _ _
          case c3 => unfold maxLen; omega
          case c4 => omega
          case c5 => simp; omega
          intro v' w9 hown' hgrow hnil hob)
        have G9 : Hid (GrowRY w9 0 (w.heap.size + 1) (w.heap.size + 2) 35 v' (rs ++ [r])) := Lib.hid (GrowRY.snoc (Nat.zero_le _) hcl hcy (by simp; omega) hrv hgrow hob (RowVy.of_older HV.out (by (repeat' (first | (with_reducible exact Below.refl _ _) | (with_reducible refine belS ?_ (by first | omega | (simp; done) | (simp; omega) | (simp only [World.size_alloc, World.size_setCell, World.size_drew] at *; omega))) | (with_reducible refine belA ?_ (by first | omega | (simp; done) | (simp; omega) | (simp only [World.size_alloc, World.size_setCell, World.size_drew] at *; omega))) | (with_reducible refine bel_drewN ?_ _) | (with_reducible refine Below.drew ?_) | (with_reducible assumption) | (refine Hid.out ?_; with_reducible assumption) | (apply belV; (with_reducible assumption); exact (by first | omega | (simp; done) | (simp; omega) | (simp only [World.size_alloc, World.size_setCell, World.size_drew] at *; omega)))))) (by omega) (fun j hj => by have := hrow j hj; omega)) hown')
        have Z9 : Hid (Box w9 (w.heap.size + 1) #[.slice none 0 0, .slice none 0 0, .slice none 0 0]) := Lib.hid ((hR.out.alloc _).grown hgrow (fun j hj => by have := hrow j hj; omega))
        have X9 : Hid (Box w9 w.heap.size #[.slice A0 p.costs.length c0, .slice A1 p.uppers.length c1, .slice (some ⟨b, off, none⟩) p.rows.length c2]) := Lib.hid ((hX.out.alloc _).grown hgrow (fun j hj => by have := hrow j hj; omega))
        have B9 : Hid (Below w.heap.size w w9) := Lib.hid (Below.grown (by (repeat' (first | (with_reducible exact Below.refl _ _) | (with_reducible refine belS ?_ (by first | omega | (simp; done) | (simp; omega) | (simp only [World.size_alloc, World.size_setCell, World.size_drew] at *; omega))) | (with_reducible refine belA ?_ (by first | omega | (simp; done) | (simp; omega) | (simp only [World.size_alloc, World.size_setCell, World.size_drew] at *; omega))) | (with_reducible refine bel_drewN ?_ _) | (with_reducible refine Below.drew ?_) | (with_reducible assumption) | (refine Hid.out ?_; with_reducible assumption) | (apply belV; (with_reducible assumption); exact (by first | omega | (simp; done) | (simp; omega) | (simp only [World.size_alloc, World.size_setCell, World.size_drew] at *; omega)))))) hgrow (by simp; omega) (fun j hj => by have := hrow j hj; omega))
        clear hown' hgrow hnil hob hown hrv hcy
        go_roundw
        case rel => exact ⟨k + 1, _, rs ++ [r], by omega, rfl, by go_num, Lib.hid (by rw [HE.out, ← hrs.out]), G9, X9, Z9, B9⟩
        case measure => simp [intOf]; omega
    · have hke : k = p.rows.length := by omega
      subst hke
      obtain ⟨A5, c5, rfl, l5, m5, hRS⟩ := hgr.out.rows
      have HS := Lib.hid hRS; clear hRS
      obtain ⟨r0, r1, r2⟩ := Box.facts3 hR.out
      have f0 := hR.out.frz 0 (by decide)
      have f1 := hR.out.frz 1 (by decide)
      have f2 := hR.out.frz 2 (by decide)
      have hrs' : rs = p.rows.eraseIdx i := by rw [hrs.out, List.take_of_length_le (Nat.le_refl _)]
      subst hrs'
      go_wp2_with fail
      refine bodyPost_ret (v := .agg #[.slice A0 p.costs.length c0, .slice A1 p.uppers.length c1, .slice A5 (p.rows.eraseIdx i).length c5]) (by simp [results, Try.results13, go_sem, *]) rfl ?_
      obtain ⟨A6, c6, e6, l6, m6, h6'⟩ := (((hgr.out.setY 0 (.slice A0 p.costs.length c0)).setY 1 (.slice A1 p.uppers.length c1)).setY 2 (.slice A5 (p.rows.eraseIdx i).length c5)).rows
      injection e6 with a1 a2 a3
      subst a1 a3
      obtain ⟨-, -, -, b0, b1, b2, b3, b4, b5⟩ := HP.out
      exact ⟨A5, c5, rfl, ⟨HP.out.i0.below (by (repeat' (first | (with_reducible exact Below.refl _ _) | (with_reducible refine belS ?_ (by first | omega | (simp; done) | (simp; omega) | (simp only [World.size_alloc, World.size_setCell, World.size_drew] at *; omega))) | (with_reducible refine belA ?_ (by first | omega | (simp; done) | (simp; omega) | (simp only [World.size_alloc, World.size_setCell, World.size_drew] at *; omega))) | (with_reducible refine bel_drewN ?_ _) | (with_reducible refine Below.drew ?_) | (with_reducible assumption) | (refine Hid.out ?_; with_reducible assumption) | (apply belV; (with_reducible assumption); exact (by first | omega | (simp; done) | (simp; omega) | (simp only [World.size_alloc, World.size_setCell, World.size_drew] at *; omega)))))), HP.out.i1.below (by (repeat' (first | (with_reducible exact Below.refl _ _) | (with_reducible refine belS ?_ (by first | omega | (simp; done) | (simp; omega) | (simp only [World.size_alloc, World.size_setCell, World.size_drew] at *; omega))) | (with_reducible refine belA ?_ (by first | omega | (simp; done) | (simp; omega) | (simp only [World.size_alloc, World.size_setCell, World.size_drew] at *; omega))) | (with_reducible refine bel_drewN ?_ _) | (with_reducible refine Below.drew ?_) | (with_reducible assumption) | (refine Hid.out ?_; with_reducible assumption) | (apply belV; (with_reducible assumption); exact (by first | omega | (simp; done) | (simp; omega) | (simp only [World.size_alloc, World.size_setCell, World.size_drew] at *; omega)))))), h6', b0, b1, l6, b3, b4, m6⟩, by (repeat' (first | (with_reducible exact Below.refl _ _) | (with_reducible refine belS ?_ (by first | omega | (simp; done) | (simp; omega) | (simp only [World.size_alloc, World.size_setCell, World.size_drew] at *; omega))) | (with_reducible refine belA ?_ (by first | omega | (simp; done) | (simp; omega) | (simp only [World.size_alloc, World.size_setCell, World.size_drew] at *; omega))) | (with_reducible refine bel_drewN ?_ _) | (with_reducible refine Below.drew ?_) | (with_reducible assumption) | (refine Hid.out ?_; with_reducible assumption) | (apply belV; (with_reducible assumption); exact (by first | omega | (simp; done) | (simp; omega) | (simp only [World.size_alloc, World.size_setCell, World.size_drew] at *; omega)))))⟩
end Go.Proofs.Ytangfmmjpomlgaa
