
/-
  Problems: the program's test of validity.
-/
import Derived.Test.YtpcfnlffamgdaabPb
set_option linter.unusedSimpArgs false
set_option linter.unusedVariables false
namespace Go.Proofs.Ytpcfnlffamgdaab
open Go.RowKit

set_option maxHeartbeats 2000000 in
set_option maxRecDepth 100000 in
theorem impl_ValidProblem (A0 A1 A2 : Option Addr) (c0 c1 c2 : Nat) (p : PProb) (w : World) (hp : ProbV w A0 A1 A2 c0 c1 c2 p) :
    Calls Try.prog 39 #[.agg #[.slice A0 p.costs.length c0, .slice A1 p.uppers.length c1, .slice A2 p.rows.length c2]] w fun e w' => e = .returned (.bool (vProb p)) ∧ Below w.heap.size w w' := by
  have HP := Lib.hid hp
  obtain ⟨m0, m1, m2⟩ := hp.small
  clear hp
  unfold maxLen at m0 m1 m2
  cases h1 : inB p.costs.length 1 5
  · have E := Lib.hid (vProb_1 h1)
    go_enter Try.func39, Try.ntmps39
    go_wp2_with (go_at_call 67; ((with_reducible refine (impl_inRange _ _ _ _).mono ?_); rintro e w' ⟨rfl, rfl⟩))
    go_ret
    exact ⟨ret_b E.out.symm, by (repeat' (first | (with_reducible exact Below.refl _ _) | (with_reducible refine belS ?_ (by first | omega | (simp; done) | (simp; omega) | (simp only [World.size_alloc, World.size_setCell, World.size_drew] at *; omega))) | (with_reducible refine belA ?_ (by first | omega | (simp; done) | (simp; omega) | (simp only [World.size_alloc, World.size_setCell, World.size_drew] at *; omega))) | (with_reducible refine bel_drewN ?_ _) | (with_reducible refine Below.drew ?_) | (with_reducible assumption) | (refine Hid.out ?_; with_reducible assumption) | (apply belV; (with_reducible assumption); exact (by first | omega | (simp; done) | (simp; omega) | (simp only [World.size_alloc, World.size_setCell, World.size_drew] at *; omega)))))⟩
  by_cases h2 : p.uppers.length = p.costs.length
  rotate_left
  · have E := Lib.hid (vProb_2 h2)
    have h2b : ((p.uppers.length : Int) != (p.costs.length : Int)) = true := by simp; omega
    clear h2
    go_enter Try.func39, Try.ntmps39
    go_wp2_with (go_at_call 67; ((with_reducible refine (impl_inRange _ _ _ _).mono ?_); rintro e w' ⟨rfl, rfl⟩))
    go_ret
    exact ⟨ret_b E.out.symm, by (repeat' (first | (with_reducible exact Below.refl _ _) | (with_reducible refine belS ?_ (by first | omega | (simp; done) | (simp; omega) | (simp only [World.size_alloc, World.size_setCell, World.size_drew] at *; omega))) | (with_reducible refine belA ?_ (by first | omega | (simp; done) | (simp; omega) | (simp only [World.size_alloc, World.size_setCell, World.size_drew] at *; omega))) | (with_reducible refine bel_drewN ?_ _) | (with_reducible refine Below.drew ?_) | (with_reducible assumption) | (refine Hid.out ?_; with_reducible assumption) | (apply belV; (with_reducible assumption); exact (by first | omega | (simp; done) | (simp; omega) | (simp only [World.size_alloc, World.size_setCell, World.size_drew] at *; omega)))))⟩
  have h2b : ((p.uppers.length : Int) != (p.costs.length : Int)) = false := by simp; omega
  have h2c : p.uppers.length ≤ p.costs.length ∧ p.costs.length ≤ p.uppers.length := ⟨by omega, by omega⟩
  have H2 := Lib.hid h2; clear h2
  by_cases h3 : p.rows.length ≤ 6
  rotate_left
  · have E := Lib.hid (vProb_3 h3)
    go_enter Try.func39, Try.ntmps39
    go_wp2_with (go_at_call 67; ((with_reducible refine (impl_inRange _ _ _ _).mono ?_); rintro e w' ⟨rfl, rfl⟩))
    go_ret
    exact ⟨ret_b E.out.symm, by (repeat' (first | (with_reducible exact Below.refl _ _) | (with_reducible refine belS ?_ (by first | omega | (simp; done) | (simp; omega) | (simp only [World.size_alloc, World.size_setCell, World.size_drew] at *; omega))) | (with_reducible refine belA ?_ (by first | omega | (simp; done) | (simp; omega) | (simp only [World.size_alloc, World.size_setCell, World.size_drew] at *; omega))) | (with_reducible refine bel_drewN ?_ _) | (with_reducible refine Below.drew ?_) | (with_reducible assumption) | (refine Hid.out ?_; with_reducible assumption) | (apply belV; (with_reducible assumption); exact (by first | omega | (simp; done) | (simp; omega) | (simp only [World.size_alloc, World.size_setCell, World.size_drew] at *; omega)))))⟩
  have H1 := Lib.hid h1
  go_enter Try.func39, Try.ntmps39
  go_wp2_with (go_at_call 67; ((with_reducible refine (impl_inRange _ _ _ _).mono ?_); rintro e w' ⟨rfl, rfl⟩))
  go_loop [4, 5, 30] (fun s4 s5 s30 => ∃ (k : Nat) (u v : Value), k ≤ p.costs.length ∧ s4 = u ∧ s5 = v ∧ s30 = .int .i64 k ∧ Hid ((p.costs.take k).all (fun x => inB x 0 99) = true) ∧ Hid ((p.uppers.take k).all (fun x => inB x 0 9) = true)) (fun _ _ s30 => p.costs.length - (intOf s30).toNat)
  case atStart => exact ⟨0, _, _, by omega, rfl, rfl, rfl, all_zero, all_zero⟩
  case round =>
    obtain ⟨k, u, v, hk, rfl, rfl, rfl, ha, hb⟩ := hrel
    by_cases hlt : k < p.costs.length
    · obtain ⟨b, off, x, rfl, hb1, hx, hlo, hhi, hc⟩ := HP.out.i0.at_ hlt
      obtain ⟨b', off', y, rfl, hb2, hy, hlo', hhi', hc'⟩ := HP.out.i1.at_ (show k < p.uppers.length by omega)
      have HX := Lib.hid hx; clear hx
      have HY := Lib.hid hy; clear hy
      cases hin : inB x 0 99
      · go_wp2_with (go_at_call 67; ((with_reducible refine (impl_inRange _ _ _ _).mono ?_); rintro e w' ⟨rfl, rfl⟩))
        go_ret
        exact ⟨ret_b (vProb_4 (all_no HX.out hin)).symm, by (repeat' (first | (with_reducible exact Below.refl _ _) | (with_reducible refine belS ?_ (by first | omega | (simp; done) | (simp; omega) | (simp only [World.size_alloc, World.size_setCell, World.size_drew] at *; omega))) | (with_reducible refine belA ?_ (by first | omega | (simp; done) | (simp; omega) | (simp only [World.size_alloc, World.size_setCell, World.size_drew] at *; omega))) | (with_reducible refine bel_drewN ?_ _) | (with_reducible refine Below.drew ?_) | (with_reducible assumption) | (refine Hid.out ?_; with_reducible assumption) | (apply belV; (with_reducible assumption); exact (by first | omega | (simp; done) | (simp; omega) | (simp only [World.size_alloc, World.size_setCell, World.size_drew] at *; omega)))))⟩
      cases hiu : inB y 0 9
      · go_wp2_with (go_at_call 67; ((with_reducible refine (impl_inRange _ _ _ _).mono ?_); rintro e w' ⟨rfl, rfl⟩))
        go_ret
        exact ⟨ret_b (vProb_5 (all_no HY.out hiu)).symm, by (repeat' (first | (with_reducible exact Below.refl _ _) | (with_reducible refine belS ?_ (by first | omega | (simp; done) | (simp; omega) | (simp only [World.size_alloc, World.size_setCell, World.size_drew] at *; omega))) | (with_reducible refine belA ?_ (by first | omega | (simp; done) | (simp; omega) | (simp only [World.size_alloc, World.size_setCell, World.size_drew] at *; omega))) | (with_reducible refine bel_drewN ?_ _) | (with_reducible refine Below.drew ?_) | (with_reducible assumption) | (refine Hid.out ?_; with_reducible assumption) | (apply belV; (with_reducible assumption); exact (by first | omega | (simp; done) | (simp; omega) | (simp only [World.size_alloc, World.size_setCell, World.size_drew] at *; omega)))))⟩
      · go_wp2_with (go_at_call 67; ((with_reducible refine (impl_inRange _ _ _ _).mono ?_); rintro e w' ⟨rfl, rfl⟩))
        go_round
        case rel => exact ⟨k + 1, _, _, by omega, rfl, rfl, by go_num, all_step HX.out ha.out hin, all_step HY.out hb.out hiu⟩
        case measure => simp [intOf]; omega
    · have h4 : vInts p.costs 0 99 = true := all_end (by omega) ha.out
      have h5 : vInts p.uppers 0 9 = true := all_end (by omega) hb.out
      have H4 := Lib.hid h4; clear h4
      have H5 := Lib.hid h5; clear h5
      clear ha hb
      go_wp2_with fail
      go_loopw [7, 51] (fun s7 s51 wr => ∃ (k : Nat) (v : Value), k ≤ p.rows.length ∧ s7 = v ∧ s51 = .int .i64 k ∧ Hid ((p.rows.take k).all (fun r => vRow r p.costs.length) = true) ∧ Hid (Box wr w.heap.size #[.slice A0 p.costs.length c0, .slice A1 p.uppers.length c1, .slice A2 p.rows.length c2]) ∧ Hid (Below w.heap.size w wr)) (fun _ s51 _ => p.rows.length - (intOf s51).toNat)
      case atStart => exact ⟨0, _, by omega, rfl, rfl, all_zero, Box.new _ _ _ rfl, by (refine Lib.hid ?_; (repeat' (first | (with_reducible exact Below.refl _ _) | (with_reducible refine belS ?_ (by first | omega | (simp; done) | (simp; omega) | (simp only [World.size_alloc, World.size_setCell, World.size_drew] at *; omega))) | (with_reducible refine belA ?_ (by first | omega | (simp; done) | (simp; omega) | (simp only [World.size_alloc, World.size_setCell, World.size_drew] at *; omega))) | (with_reducible refine bel_drewN ?_ _) | (with_reducible refine Below.drew ?_) | (with_reducible assumption) | (refine Hid.out ?_; with_reducible assumption) | (apply belV; (with_reducible assumption); exact (by first | omega | (simp; done) | (simp; omega) | (simp only [World.size_alloc, World.size_setCell, World.size_drew] at *; omega))))))⟩
      case round =>
        obtain ⟨k, v, hk, rfl, rfl, hal, hbox, hbel⟩ := hrel
        have z0 := hbox.out.1
        by_cases hlt : k < p.rows.length
        · obtain ⟨b, off, r, A', c', rfl, hb, hr, hrv, k0, k1, k2⟩ := (HP.out.rs.below hbel.out).at_ hlt
          have HV := Lib.hid hrv; clear hrv
          have HX := Lib.hid hr; clear hr
          have HW : Hid (RowV (wr.alloc (.cells #[.slice A' r.cs.length c', .int .i64 r.s, .int .i64 r.b] 73)) A' c' r) := HV.out.below (by (repeat' (first | (with_reducible exact Below.refl _ _) | (with_reducible refine belS ?_ (by first | omega | (simp; done) | (simp; omega) | (simp only [World.size_alloc, World.size_setCell, World.size_drew] at *; omega))) | (with_reducible refine belA ?_ (by first | omega | (simp; done) | (simp; omega) | (simp only [World.size_alloc, World.size_setCell, World.size_drew] at *; omega))) | (with_reducible refine bel_drewN ?_ _) | (with_reducible refine Below.drew ?_) | (with_reducible assumption) | (refine Hid.out ?_; with_reducible assumption) | (apply belV; (with_reducible assumption); exact (by first | omega | (simp; done) | (simp; omega) | (simp only [World.size_alloc, World.size_setCell, World.size_drew] at *; omega))))))
          cases hin : vRow r p.costs.length
          · go_wp2_with fail
            refine (impl_ValidRow _ _ r _ _ (HW.out.below (by (repeat' (first | (with_reducible exact Below.refl _ _) | (with_reducible refine belS ?_ (by first | omega | (simp; done) | (simp; omega) | (simp only [World.size_alloc, World.size_setCell, World.size_drew] at *; omega))) | (with_reducible refine belA ?_ (by first | omega | (simp; done) | (simp; omega) | (simp only [World.size_alloc, World.size_setCell, World.size_drew] at *; omega))) | (with_reducible refine bel_drewN ?_ _) | (with_reducible refine Below.drew ?_) | (with_reducible assumption) | (refine Hid.out ?_; with_reducible assumption) | (apply belV; (with_reducible assumption); exact (by first | omega | (simp; done) | (simp; omega) | (simp only [World.size_alloc, World.size_setCell, World.size_drew] at *; omega)))))))).mono ?_
            rintro e w1 ⟨rfl, hb1⟩
            have G1 : Hid (Below w.heap.size w w1) := belU hb1 (by (repeat' (first | (with_reducible exact Below.refl _ _) | (with_reducible refine belS ?_ (by first | omega | (simp; done) | (simp; omega) | (simp only [World.size_alloc, World.size_setCell, World.size_drew] at *; omega))) | (with_reducible refine belA ?_ (by first | omega | (simp; done) | (simp; omega) | (simp only [World.size_alloc, World.size_setCell, World.size_drew] at *; omega))) | (with_reducible refine bel_drewN ?_ _) | (with_reducible refine Below.drew ?_) | (with_reducible assumption) | (refine Hid.out ?_; with_reducible assumption) | (apply belV; (with_reducible assumption); exact (by first | omega | (simp; done) | (simp; omega) | (simp only [World.size_alloc, World.size_setCell, World.size_drew] at *; omega)))))) (by first | omega | (simp; done) | (simp; omega) | (simp only [World.size_alloc, World.size_setCell, World.size_drew] at *; omega))
            clear hb1
            go_wp2_with fail
            go_ret
            exact ⟨ret_b (vProb_6 (all_no HX.out hin)).symm, by (repeat' (first | (with_reducible exact Below.refl _ _) | (with_reducible refine belS ?_ (by first | omega | (simp; done) | (simp; omega) | (simp only [World.size_alloc, World.size_setCell, World.size_drew] at *; omega))) | (with_reducible refine belA ?_ (by first | omega | (simp; done) | (simp; omega) | (simp only [World.size_alloc, World.size_setCell, World.size_drew] at *; omega))) | (with_reducible refine bel_drewN ?_ _) | (with_reducible refine Below.drew ?_) | (with_reducible assumption) | (refine Hid.out ?_; with_reducible assumption) | (apply belV; (with_reducible assumption); exact (by first | omega | (simp; done) | (simp; omega) | (simp only [World.size_alloc, World.size_setCell, World.size_drew] at *; omega)))))⟩
          · go_wp2_with fail
            refine (impl_ValidRow _ _ r _ _ (HW.out.below (by (repeat' (first | (with_reducible exact Below.refl _ _) | (with_reducible refine belS ?_ (by first | omega | (simp; done) | (simp; omega) | (simp only [World.size_alloc, World.size_setCell, World.size_drew] at *; omega))) | (with_reducible refine belA ?_ (by first | omega | (simp; done) | (simp; omega) | (simp only [World.size_alloc, World.size_setCell, World.size_drew] at *; omega))) | (with_reducible refine bel_drewN ?_ _) | (with_reducible refine Below.drew ?_) | (with_reducible assumption) | (refine Hid.out ?_; with_reducible assumption) | (apply belV; (with_reducible assumption); exact (by first | omega | (simp; done) | (simp; omega) | (simp only [World.size_alloc, World.size_setCell, World.size_drew] at *; omega)))))))).mono ?_
            rintro e w1 ⟨rfl, hb1⟩
            have G1 : Hid (Below w.heap.size w w1) := belU hb1 (by (repeat' (first | (with_reducible exact Below.refl _ _) | (with_reducible refine belS ?_ (by first | omega | (simp; done) | (simp; omega) | (simp only [World.size_alloc, World.size_setCell, World.size_drew] at *; omega))) | (with_reducible refine belA ?_ (by first | omega | (simp; done) | (simp; omega) | (simp only [World.size_alloc, World.size_setCell, World.size_drew] at *; omega))) | (with_reducible refine bel_drewN ?_ _) | (with_reducible refine Below.drew ?_) | (with_reducible assumption) | (refine Hid.out ?_; with_reducible assumption) | (apply belV; (with_reducible assumption); exact (by first | omega | (simp; done) | (simp; omega) | (simp only [World.size_alloc, World.size_setCell, World.size_drew] at *; omega)))))) (by first | omega | (simp; done) | (simp; omega) | (simp only [World.size_alloc, World.size_setCell, World.size_drew] at *; omega))
            have B1 : Hid (Box w1 w.heap.size _) := (hbox.out.alloc _).below hb1
            clear hb1
            go_wp2_with fail
            go_roundw
            case rel => exact ⟨k + 1, _, by omega, rfl, by go_num, all_step HX.out hal.out hin, B1, G1⟩
            case measure => simp [intOf]; omega
        · have h6 : (p.rows.all fun r => vRow r p.costs.length) = true := all_end (by omega) hal.out
          have E := Lib.hid (vProb_7 H1.out H2.out h3 h6)
          clear h6
          have hbel' := hbel.out
          go_wp2_with fail
          go_ret
          exact ⟨ret_b (by rw [E.out, H4.out, H5.out]; rfl), by (repeat' (first | (with_reducible exact Below.refl _ _) | (with_reducible refine belS ?_ (by first | omega | (simp; done) | (simp; omega) | (simp only [World.size_alloc, World.size_setCell, World.size_drew] at *; omega))) | (with_reducible refine belA ?_ (by first | omega | (simp; done) | (simp; omega) | (simp only [World.size_alloc, World.size_setCell, World.size_drew] at *; omega))) | (with_reducible refine bel_drewN ?_ _) | (with_reducible refine Below.drew ?_) | (with_reducible assumption) | (refine Hid.out ?_; with_reducible assumption) | (apply belV; (with_reducible assumption); exact (by first | omega | (simp; done) | (simp; omega) | (simp only [World.size_alloc, World.size_setCell, World.size_drew] at *; omega)))))⟩

end Go.Proofs.Ytpcfnlffamgdaab
