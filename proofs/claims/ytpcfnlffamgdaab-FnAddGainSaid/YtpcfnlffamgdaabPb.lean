
/-
  Problems: whether they are valid, their points: what the program's functions and the model's return.
-/
import Derived.Test.YtpcfnlffamgdaabRh
import Derived.Test.YtpcfnlffamgdaabTp
set_option linter.unusedSimpArgs false
set_option linter.unusedVariables false
namespace Go.Proofs.Ytpcfnlffamgdaab
open Go.RowKit

theorem ProbV.small {w : World} {A0 A1 A2 : Option Addr} {c0 c1 c2 : Nat} {p : PProb} (h : ProbV w A0 A1 A2 c0 c1 c2 p) : p.costs.length ≤ maxLen ∧ p.uppers.length ≤ maxLen ∧ p.rows.length ≤ maxLen :=
  ⟨Nat.le_trans h.2.2.2.1 h.2.2.2.2.2.2.1, Nat.le_trans h.2.2.2.2.1 h.2.2.2.2.2.2.2.1, Nat.le_trans h.2.2.2.2.2.1 h.2.2.2.2.2.2.2.2⟩

theorem vProb_1 {p : PProb} (h : inB p.costs.length 1 5 = false) : vProb p = false := by simp [vProb, h]
theorem vProb_2 {p : PProb} (h : ¬ p.uppers.length = p.costs.length) : vProb p = false := by simp [vProb, h]
theorem vProb_3 {p : PProb} (h : ¬ p.rows.length ≤ 6) : vProb p = false := by simp [vProb, h]
theorem vProb_4 {p : PProb} (h : vInts p.costs 0 99 = false) : vProb p = false := by simp [vProb, h]
theorem vProb_5 {p : PProb} (h : vInts p.uppers 0 9 = false) : vProb p = false := by simp [vProb, h]
theorem vProb_6 {p : PProb} (h : (p.rows.all fun r => vRow r p.costs.length) = false) : vProb p = false := by simp [vProb, h]
theorem vProb_7 {p : PProb} (h1 : inB p.costs.length 1 5 = true) (h2 : p.uppers.length = p.costs.length) (h3 : p.rows.length ≤ 6) (h6 : (p.rows.all fun r => vRow r p.costs.length) = true) : vProb p = (vInts p.costs 0 99 && vInts p.uppers 0 9) := by
  simp only [vProb, h1, h2, h3, h6]; simp

set_option maxHeartbeats 2000000 in
set_option maxRecDepth 100000 in
theorem spec_validProblem (A0 A1 A2 : Option Addr) (c0 c1 c2 : Nat) (p : PProb) (w : World) (hp : ProbV w A0 A1 A2 c0 c1 c2 p) :
    Calls Try.prog 83 #[.agg #[.slice A0 p.costs.length c0, .slice A1 p.uppers.length c1, .slice A2 p.rows.length c2]] w fun e w' => e = .returned (.bool (vProb p)) ∧ Below w.heap.size w w' := by
  have HP := Lib.hid hp
  obtain ⟨m0, m1, m2⟩ := hp.small
  clear hp
  have n0 := m0; have n1 := m1; have n2 := m2
  unfold maxLen at n0 n1 n2
  cases h1 : inB p.costs.length 1 5
  · have E := Lib.hid (vProb_1 h1)
    go_enter Try.func83, Try.ntmps83
    go_wp2_with (go_at_call 69; ((with_reducible refine (spec_inRange _ _ _ _).mono ?_); rintro e w' ⟨rfl, rfl⟩))
    go_ret
    exact ⟨ret_b E.out.symm, by (repeat' (first | (with_reducible exact Below.refl _ _) | (with_reducible refine belS ?_ (by first | omega | (simp; done) | (simp; omega) | (simp only [World.size_alloc, World.size_setCell, World.size_drew] at *; omega))) | (with_reducible refine belA ?_ (by first | omega | (simp; done) | (simp; omega) | (simp only [World.size_alloc, World.size_setCell, World.size_drew] at *; omega))) | (with_reducible refine bel_drewN ?_ _) | (with_reducible refine Below.drew ?_) | (with_reducible assumption) | (refine Hid.out ?_; with_reducible assumption) | (apply belV; (with_reducible assumption); exact (by first | omega | (simp; done) | (simp; omega) | (simp only [World.size_alloc, World.size_setCell, World.size_drew] at *; omega)))))⟩
  by_cases h2 : p.uppers.length = p.costs.length
  rotate_left
  · have E := Lib.hid (vProb_2 h2)
    have h2b : ((p.uppers.length : Int) != (p.costs.length : Int)) = true := by simp; omega
    clear h2
    go_enter Try.func83, Try.ntmps83
    go_wp2_with (go_at_call 69; ((with_reducible refine (spec_inRange _ _ _ _).mono ?_); rintro e w' ⟨rfl, rfl⟩))
    go_ret
    exact ⟨ret_b E.out.symm, by (repeat' (first | (with_reducible exact Below.refl _ _) | (with_reducible refine belS ?_ (by first | omega | (simp; done) | (simp; omega) | (simp only [World.size_alloc, World.size_setCell, World.size_drew] at *; omega))) | (with_reducible refine belA ?_ (by first | omega | (simp; done) | (simp; omega) | (simp only [World.size_alloc, World.size_setCell, World.size_drew] at *; omega))) | (with_reducible refine bel_drewN ?_ _) | (with_reducible refine Below.drew ?_) | (with_reducible assumption) | (refine Hid.out ?_; with_reducible assumption) | (apply belV; (with_reducible assumption); exact (by first | omega | (simp; done) | (simp; omega) | (simp only [World.size_alloc, World.size_setCell, World.size_drew] at *; omega)))))⟩
  have h2b : ((p.uppers.length : Int) != (p.costs.length : Int)) = false := by simp; omega
  have H2 := Lib.hid h2; clear h2
  by_cases h3 : p.rows.length ≤ 6
  rotate_left
  · have E := Lib.hid (vProb_3 h3)
    go_enter Try.func83, Try.ntmps83
    go_wp2_with (go_at_call 69; ((with_reducible refine (spec_inRange _ _ _ _).mono ?_); rintro e w' ⟨rfl, rfl⟩))
    go_ret
    exact ⟨ret_b E.out.symm, by (repeat' (first | (with_reducible exact Below.refl _ _) | (with_reducible refine belS ?_ (by first | omega | (simp; done) | (simp; omega) | (simp only [World.size_alloc, World.size_setCell, World.size_drew] at *; omega))) | (with_reducible refine belA ?_ (by first | omega | (simp; done) | (simp; omega) | (simp only [World.size_alloc, World.size_setCell, World.size_drew] at *; omega))) | (with_reducible refine bel_drewN ?_ _) | (with_reducible refine Below.drew ?_) | (with_reducible assumption) | (refine Hid.out ?_; with_reducible assumption) | (apply belV; (with_reducible assumption); exact (by first | omega | (simp; done) | (simp; omega) | (simp only [World.size_alloc, World.size_setCell, World.size_drew] at *; omega)))))⟩
  have H1 := Lib.hid h1
  cases h4 : vInts p.costs 0 99
  all_goals
    go_enter Try.func83, Try.ntmps83
    go_wp2_with (go_at_call 69; ((with_reducible refine (spec_inRange _ _ _ _).mono ?_); rintro e w' ⟨rfl, rfl⟩))
    go_loopw [4] (fun s4 wr => ∃ k : Nat, k ≤ p.rows.length ∧ s4 = .int .i64 k ∧ Hid ((p.rows.take k).all (fun r => vRow r p.costs.length) = true) ∧ Hid (Box wr w.heap.size #[.slice A0 p.costs.length c0, .slice A1 p.uppers.length c1, .slice A2 p.rows.length c2]) ∧ Hid (Below w.heap.size w wr)) (fun s4 _ => p.rows.length - (intOf s4).toNat)
    case atStart => exact ⟨0, by omega, rfl, all_zero, Box.new _ _ _ rfl, by (refine Lib.hid ?_; (repeat' (first | (with_reducible exact Below.refl _ _) | (with_reducible refine belS ?_ (by first | omega | (simp; done) | (simp; omega) | (simp only [World.size_alloc, World.size_setCell, World.size_drew] at *; omega))) | (with_reducible refine belA ?_ (by first | omega | (simp; done) | (simp; omega) | (simp only [World.size_alloc, World.size_setCell, World.size_drew] at *; omega))) | (with_reducible refine bel_drewN ?_ _) | (with_reducible refine Below.drew ?_) | (with_reducible assumption) | (refine Hid.out ?_; with_reducible assumption) | (apply belV; (with_reducible assumption); exact (by first | omega | (simp; done) | (simp; omega) | (simp only [World.size_alloc, World.size_setCell, World.size_drew] at *; omega))))))⟩
    case round =>
      obtain ⟨k, hk, rfl, hal, hbox, hbel⟩ := hrel
      have z0 := hbox.out.1
      obtain ⟨x0, x1, x2⟩ := Box.facts3 hbox.out
      by_cases hlt : k < p.rows.length
      · obtain ⟨b, off, r, A', c', rfl, hb, hr, hrv, k0, k1, k2⟩ := (HP.out.rs.below hbel.out).at_ hlt
        have HV := Lib.hid hrv; clear hrv
        have HX := Lib.hid hr; clear hr
        cases hin : vRow r p.costs.length
        · go_wp2_with fail
          refine (spec_validRow _ _ r _ _ HV.out).mono ?_
          rintro e w1 ⟨rfl, hb1⟩
          have G1 : Hid (Below w.heap.size w w1) := belU hb1 (by (repeat' (first | (with_reducible exact Below.refl _ _) | (with_reducible refine belS ?_ (by first | omega | (simp; done) | (simp; omega) | (simp only [World.size_alloc, World.size_setCell, World.size_drew] at *; omega))) | (with_reducible refine belA ?_ (by first | omega | (simp; done) | (simp; omega) | (simp only [World.size_alloc, World.size_setCell, World.size_drew] at *; omega))) | (with_reducible refine bel_drewN ?_ _) | (with_reducible refine Below.drew ?_) | (with_reducible assumption) | (refine Hid.out ?_; with_reducible assumption) | (apply belV; (with_reducible assumption); exact (by first | omega | (simp; done) | (simp; omega) | (simp only [World.size_alloc, World.size_setCell, World.size_drew] at *; omega)))))) (by first | omega | (simp; done) | (simp; omega) | (simp only [World.size_alloc, World.size_setCell, World.size_drew] at *; omega))
          clear hb1
          go_wp2_with fail
          go_ret
          exact ⟨ret_b (vProb_6 (all_no HX.out hin)).symm, by (repeat' (first | (with_reducible exact Below.refl _ _) | (with_reducible refine belS ?_ (by first | omega | (simp; done) | (simp; omega) | (simp only [World.size_alloc, World.size_setCell, World.size_drew] at *; omega))) | (with_reducible refine belA ?_ (by first | omega | (simp; done) | (simp; omega) | (simp only [World.size_alloc, World.size_setCell, World.size_drew] at *; omega))) | (with_reducible refine bel_drewN ?_ _) | (with_reducible refine Below.drew ?_) | (with_reducible assumption) | (refine Hid.out ?_; with_reducible assumption) | (apply belV; (with_reducible assumption); exact (by first | omega | (simp; done) | (simp; omega) | (simp only [World.size_alloc, World.size_setCell, World.size_drew] at *; omega)))))⟩
        · go_wp2_with fail
          refine (spec_validRow _ _ r _ _ HV.out).mono ?_
          rintro e w1 ⟨rfl, hb1⟩
          have G1 : Hid (Below w.heap.size w w1) := belU hb1 (by (repeat' (first | (with_reducible exact Below.refl _ _) | (with_reducible refine belS ?_ (by first | omega | (simp; done) | (simp; omega) | (simp only [World.size_alloc, World.size_setCell, World.size_drew] at *; omega))) | (with_reducible refine belA ?_ (by first | omega | (simp; done) | (simp; omega) | (simp only [World.size_alloc, World.size_setCell, World.size_drew] at *; omega))) | (with_reducible refine bel_drewN ?_ _) | (with_reducible refine Below.drew ?_) | (with_reducible assumption) | (refine Hid.out ?_; with_reducible assumption) | (apply belV; (with_reducible assumption); exact (by first | omega | (simp; done) | (simp; omega) | (simp only [World.size_alloc, World.size_setCell, World.size_drew] at *; omega)))))) (by first | omega | (simp; done) | (simp; omega) | (simp only [World.size_alloc, World.size_setCell, World.size_drew] at *; omega))
          have B1 : Hid (Box w1 w.heap.size _) := hbox.out.below hb1
          clear hb1
          go_wp2_with fail
          go_roundw
          case rel => exact ⟨k + 1, by omega, by go_num, all_step HX.out hal.out hin, B1, G1⟩
          case measure => simp [intOf]; omega
      · have h6 : (p.rows.all fun r => vRow r p.costs.length) = true := all_end (by omega) hal.out
        have E := Lib.hid (vProb_7 H1.out H2.out h3 h6)
        rw [h4] at E
        clear h6
        have hbel' := hbel.out
        go_wp2_with (first | (go_at_call 112; ((with_reducible refine (spec_allIn _ _ _ _ _ p.costs _ (HP.out.i0.below (by (repeat' (first | (with_reducible exact Below.refl _ _) | (with_reducible refine belS ?_ (by first | omega | (simp; done) | (simp; omega) | (simp only [World.size_alloc, World.size_setCell, World.size_drew] at *; omega))) | (with_reducible refine belA ?_ (by first | omega | (simp; done) | (simp; omega) | (simp only [World.size_alloc, World.size_setCell, World.size_drew] at *; omega))) | (with_reducible refine bel_drewN ?_ _) | (with_reducible refine Below.drew ?_) | (with_reducible assumption) | (refine Hid.out ?_; with_reducible assumption) | (apply belV; (with_reducible assumption); exact (by first | omega | (simp; done) | (simp; omega) | (simp only [World.size_alloc, World.size_setCell, World.size_drew] at *; omega))))))) m0).mono ?_); rintro e w' ⟨rfl, rfl⟩)) | (go_at_call 112; ((with_reducible refine (spec_allIn _ _ _ _ _ p.uppers _ (HP.out.i1.below (by (repeat' (first | (with_reducible exact Below.refl _ _) | (with_reducible refine belS ?_ (by first | omega | (simp; done) | (simp; omega) | (simp only [World.size_alloc, World.size_setCell, World.size_drew] at *; omega))) | (with_reducible refine belA ?_ (by first | omega | (simp; done) | (simp; omega) | (simp only [World.size_alloc, World.size_setCell, World.size_drew] at *; omega))) | (with_reducible refine bel_drewN ?_ _) | (with_reducible refine Below.drew ?_) | (with_reducible assumption) | (refine Hid.out ?_; with_reducible assumption) | (apply belV; (with_reducible assumption); exact (by first | omega | (simp; done) | (simp; omega) | (simp only [World.size_alloc, World.size_setCell, World.size_drew] at *; omega))))))) m1).mono ?_); rintro e w' ⟨rfl, rfl⟩)))
        go_ret
        exact ⟨ret_b (by rw [E.out]; simp), by (repeat' (first | (with_reducible exact Below.refl _ _) | (with_reducible refine belS ?_ (by first | omega | (simp; done) | (simp; omega) | (simp only [World.size_alloc, World.size_setCell, World.size_drew] at *; omega))) | (with_reducible refine belA ?_ (by first | omega | (simp; done) | (simp; omega) | (simp only [World.size_alloc, World.size_setCell, World.size_drew] at *; omega))) | (with_reducible refine bel_drewN ?_ _) | (with_reducible refine Below.drew ?_) | (with_reducible assumption) | (refine Hid.out ?_; with_reducible assumption) | (apply belV; (with_reducible assumption); exact (by first | omega | (simp; done) | (simp; omega) | (simp only [World.size_alloc, World.size_setCell, World.size_drew] at *; omega)))))⟩
end Go.Proofs.Ytpcfnlffamgdaab
