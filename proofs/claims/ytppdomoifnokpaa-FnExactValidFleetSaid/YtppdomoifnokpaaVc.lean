
/-
  Fleets: the model's test of validity.
-/
import Derived.Test.YtppdomoifnokpaaVb
set_option linter.unusedSimpArgs false
set_option linter.unusedVariables false
namespace Go.Proofs.Ytppdomoifnokpaa
open Go.RowKit

set_option maxHeartbeats 4000000 in
set_option maxRecDepth 100000 in
theorem spec_validFleet (A0 A1 : Option Addr) (c0 c1 : Nat) (f : PFleet) (w : World) (hf : FleetV w A0 A1 c0 c1 f) :
    Calls Try.prog 61 #[.agg #[.slice A0 f.ns c0, .slice A1 f.times.length c1, .int .i64 f.cap]] w fun e w' => e = .returned (.bool (vFleet f)) ∧ Below w.heap.size w w' := by
  obtain ⟨m0, m1⟩ := hf.small
  have HF := Lib.hid hf; clear hf
  have n0 := m0; have n1 := m1
  unfold maxLen at n0 n1
  by_cases hA : f.ns ≤ 5
  rotate_left
  · have E := Lib.hid (vFleet_A hA)
    go_enter Try.func61, Try.ntmps61
    go_wp2_with fail
    go_ret
    exact ⟨ret_b E.out.symm, by (repeat' (first | (with_reducible exact Below.refl _ _) | (with_reducible refine belS ?_ (by first | omega | (simp; done) | (simp; omega) | (simp only [World.size_alloc, World.size_setCell, World.size_drew] at *; omega))) | (with_reducible refine belA ?_ (by first | omega | (simp; done) | (simp; omega) | (simp only [World.size_alloc, World.size_setCell, World.size_drew] at *; omega))) | (with_reducible refine bel_drewN ?_ _) | (with_reducible refine Below.drew ?_) | (with_reducible assumption) | (refine Hid.out ?_; with_reducible assumption) | (apply belV; (with_reducible assumption); exact (by first | omega | (simp; done) | (simp; omega) | (simp only [World.size_alloc, World.size_setCell, World.size_drew] at *; omega)))))⟩
  by_cases hB : f.times.length = f.ns + 1
  rotate_left
  · have E := Lib.hid (vFleet_B hB)
    have hb : ((f.times.length : Int) != (f.ns : Int) + 1) = true := by simp; omega
    clear hB
    go_enter Try.func61, Try.ntmps61
    go_wp2_with fail
    go_ret
    exact ⟨ret_b E.out.symm, by (repeat' (first | (with_reducible exact Below.refl _ _) | (with_reducible refine belS ?_ (by first | omega | (simp; done) | (simp; omega) | (simp only [World.size_alloc, World.size_setCell, World.size_drew] at *; omega))) | (with_reducible refine belA ?_ (by first | omega | (simp; done) | (simp; omega) | (simp only [World.size_alloc, World.size_setCell, World.size_drew] at *; omega))) | (with_reducible refine bel_drewN ?_ _) | (with_reducible refine Below.drew ?_) | (with_reducible assumption) | (refine Hid.out ?_; with_reducible assumption) | (apply belV; (with_reducible assumption); exact (by first | omega | (simp; done) | (simp; omega) | (simp only [World.size_alloc, World.size_setCell, World.size_drew] at *; omega)))))⟩
  have hb : ((f.times.length : Int) != (f.ns : Int) + 1) = false := by simp; omega
  have HB := Lib.hid hB; clear hB
  cases hD : inB f.cap 0 30
  · have E := Lib.hid (vFleet_D hD)
    go_enter Try.func61, Try.ntmps61
    go_wp2_with (go_at_call 55; ((with_reducible refine (spec_inRange _ _ _ _).mono ?_); rintro e w' ⟨rfl, rfl⟩))
    go_ret
    exact ⟨ret_b E.out.symm, by (repeat' (first | (with_reducible exact Below.refl _ _) | (with_reducible refine belS ?_ (by first | omega | (simp; done) | (simp; omega) | (simp only [World.size_alloc, World.size_setCell, World.size_drew] at *; omega))) | (with_reducible refine belA ?_ (by first | omega | (simp; done) | (simp; omega) | (simp only [World.size_alloc, World.size_setCell, World.size_drew] at *; omega))) | (with_reducible refine bel_drewN ?_ _) | (with_reducible refine Below.drew ?_) | (with_reducible assumption) | (refine Hid.out ?_; with_reducible assumption) | (apply belV; (with_reducible assumption); exact (by first | omega | (simp; done) | (simp; omega) | (simp only [World.size_alloc, World.size_setCell, World.size_drew] at *; omega)))))⟩
  go_enter Try.func61, Try.ntmps61
  go_wp2_with (go_at_call 55; ((with_reducible refine (spec_inRange _ _ _ _).mono ?_); rintro e w' ⟨rfl, rfl⟩))
  clear hb
  go_loopw [4, 5] (fun s4 s5 wr => ∃ (k : Nat) (u5 : Value), k ≤ f.ns ∧ u5 = s5 ∧ s4 = .int .i64 k ∧ Hid (rall (stopOK f.stops) k = true) ∧ Hid (Box wr w.heap.size #[.slice A0 f.ns c0, .slice A1 f.times.length c1, .int .i64 f.cap]) ∧ Hid (Below w.heap.size w wr)) (fun s4 _ _ => f.ns - (intOf s4).toNat)
  case atStart => exact ⟨0, _, by omega, rfl, rfl, rall_0, Box.new _ _ _ rfl, by (refine Lib.hid ?_; (repeat' (first | (with_reducible exact Below.refl _ _) | (with_reducible refine belS ?_ (by first | omega | (simp; done) | (simp; omega) | (simp only [World.size_alloc, World.size_setCell, World.size_drew] at *; omega))) | (with_reducible refine belA ?_ (by first | omega | (simp; done) | (simp; omega) | (simp only [World.size_alloc, World.size_setCell, World.size_drew] at *; omega))) | (with_reducible refine bel_drewN ?_ _) | (with_reducible refine Below.drew ?_) | (with_reducible assumption) | (refine Hid.out ?_; with_reducible assumption) | (apply belV; (with_reducible assumption); exact (by first | omega | (simp; done) | (simp; omega) | (simp only [World.size_alloc, World.size_setCell, World.size_drew] at *; omega))))))⟩
  case round =>
    obtain ⟨k, u5, hk, rfl, rfl, hal, hbox, hbel⟩ := hrel
    have z0 := hbox.out.1
    obtain ⟨x0, x1, x2⟩ := Box.facts3 hbox.out
    by_cases hlt : k < f.ns
    · obtain ⟨b, off, y0, y1, y2, y3, rfl, hb, hy0, hy1, hy2, hy3, iy0, iy1, iy2, iy3, d0, d1, d2, d3⟩ := (HF.out.i0.below hbel.out).at4 hlt
      have SA := Lib.hid (stopOK_at hy0 hy1 hy2 hy3)
      clear hy0 hy1 hy2 hy3 iy0 iy1 iy2 iy3
      cases h1 : inB y0 0 30
      · go_wp2_with (go_at_call 55; ((with_reducible refine (spec_inRange _ _ _ _).mono ?_); rintro e w' ⟨rfl, rfl⟩))
        go_ret
        exact ⟨ret_b (vFleet_S (rall_no hlt (by rw [SA.out, stopB_1 h1]))).symm, by (repeat' (first | (with_reducible exact Below.refl _ _) | (with_reducible refine belS ?_ (by first | omega | (simp; done) | (simp; omega) | (simp only [World.size_alloc, World.size_setCell, World.size_drew] at *; omega))) | (with_reducible refine belA ?_ (by first | omega | (simp; done) | (simp; omega) | (simp only [World.size_alloc, World.size_setCell, World.size_drew] at *; omega))) | (with_reducible refine bel_drewN ?_ _) | (with_reducible refine Below.drew ?_) | (with_reducible assumption) | (refine Hid.out ?_; with_reducible assumption) | (apply belV; (with_reducible assumption); exact (by first | omega | (simp; done) | (simp; omega) | (simp only [World.size_alloc, World.size_setCell, World.size_drew] at *; omega)))))⟩
      cases h2 : inB y1 0 200
      · go_wp2_with (go_at_call 55; ((with_reducible refine (spec_inRange _ _ _ _).mono ?_); rintro e w' ⟨rfl, rfl⟩))
        go_ret
        exact ⟨ret_b (vFleet_S (rall_no hlt (by rw [SA.out, stopB_2 h2]))).symm, by (repeat' (first | (with_reducible exact Below.refl _ _) | (with_reducible refine belS ?_ (by first | omega | (simp; done) | (simp; omega) | (simp only [World.size_alloc, World.size_setCell, World.size_drew] at *; omega))) | (with_reducible refine belA ?_ (by first | omega | (simp; done) | (simp; omega) | (simp only [World.size_alloc, World.size_setCell, World.size_drew] at *; omega))) | (with_reducible refine bel_drewN ?_ _) | (with_reducible refine Below.drew ?_) | (with_reducible assumption) | (refine Hid.out ?_; with_reducible assumption) | (apply belV; (with_reducible assumption); exact (by first | omega | (simp; done) | (simp; omega) | (simp only [World.size_alloc, World.size_setCell, World.size_drew] at *; omega)))))⟩
      cases h3 : inB y2 y1 200
      · go_wp2_with (go_at_call 55; ((with_reducible refine (spec_inRange _ _ _ _).mono ?_); rintro e w' ⟨rfl, rfl⟩))
        go_ret
        exact ⟨ret_b (vFleet_S (rall_no hlt (by rw [SA.out, stopB_3 h3]))).symm, by (repeat' (first | (with_reducible exact Below.refl _ _) | (with_reducible refine belS ?_ (by first | omega | (simp; done) | (simp; omega) | (simp only [World.size_alloc, World.size_setCell, World.size_drew] at *; omega))) | (with_reducible refine belA ?_ (by first | omega | (simp; done) | (simp; omega) | (simp only [World.size_alloc, World.size_setCell, World.size_drew] at *; omega))) | (with_reducible refine bel_drewN ?_ _) | (with_reducible refine Below.drew ?_) | (with_reducible assumption) | (refine Hid.out ?_; with_reducible assumption) | (apply belV; (with_reducible assumption); exact (by first | omega | (simp; done) | (simp; omega) | (simp only [World.size_alloc, World.size_setCell, World.size_drew] at *; omega)))))⟩
      cases h4 : inB y3 0 50
      · go_wp2_with (go_at_call 55; ((with_reducible refine (spec_inRange _ _ _ _).mono ?_); rintro e w' ⟨rfl, rfl⟩))
        go_ret
        exact ⟨ret_b (vFleet_S (rall_no hlt (by rw [SA.out, stopB_4 h4]))).symm, by (repeat' (first | (with_reducible exact Below.refl _ _) | (with_reducible refine belS ?_ (by first | omega | (simp; done) | (simp; omega) | (simp only [World.size_alloc, World.size_setCell, World.size_drew] at *; omega))) | (with_reducible refine belA ?_ (by first | omega | (simp; done) | (simp; omega) | (simp only [World.size_alloc, World.size_setCell, World.size_drew] at *; omega))) | (with_reducible refine bel_drewN ?_ _) | (with_reducible refine Below.drew ?_) | (with_reducible assumption) | (refine Hid.out ?_; with_reducible assumption) | (apply belV; (with_reducible assumption); exact (by first | omega | (simp; done) | (simp; omega) | (simp only [World.size_alloc, World.size_setCell, World.size_drew] at *; omega)))))⟩
      · go_wp2_with (go_at_call 55; ((with_reducible refine (spec_inRange _ _ _ _).mono ?_); rintro e w' ⟨rfl, rfl⟩))
        go_roundw
        case rel => exact ⟨k + 1, _, by omega, rfl, by go_num, Lib.hid (rall_yes hal.out (by rw [SA.out, stopB_5 h1 h2 h3 h4])), by (refine Lib.hid ?_; (repeat' (first | (with_reducible exact Box.new _ _ _ (by first | omega | (simp; done) | (simp; omega) | (simp only [World.size_alloc, World.size_setCell, World.size_drew] at *; omega))) | (with_reducible refine Box.far ?_ (by first | omega | (simp; done) | (simp; omega) | (simp only [World.size_alloc, World.size_setCell, World.size_drew] at *; omega)) _) | (apply Box.put3_0) | (apply Box.put3_1) | (apply Box.put3_2) | (apply Box.put2_0) | (apply Box.put2_1) | (with_reducible refine Box.alloc ?_ _) | (with_reducible refine Box.drewN ?_ _) | (with_reducible refine Box.drew ?_) | (with_reducible assumption) | (refine Hid.out ?_; with_reducible assumption) | (apply Box.only; (with_reducible assumption); exact (by first | omega | (simp; done) | (simp; omega) | (simp only [World.size_alloc, World.size_setCell, World.size_drew] at *; omega))) | (apply Box.belowD; (with_reducible assumption))))), by (refine Lib.hid ?_; (repeat' (first | (with_reducible exact Below.refl _ _) | (with_reducible refine belS ?_ (by first | omega | (simp; done) | (simp; omega) | (simp only [World.size_alloc, World.size_setCell, World.size_drew] at *; omega))) | (with_reducible refine belA ?_ (by first | omega | (simp; done) | (simp; omega) | (simp only [World.size_alloc, World.size_setCell, World.size_drew] at *; omega))) | (with_reducible refine bel_drewN ?_ _) | (with_reducible refine Below.drew ?_) | (with_reducible assumption) | (refine Hid.out ?_; with_reducible assumption) | (apply belV; (with_reducible assumption); exact (by first | omega | (simp; done) | (simp; omega) | (simp only [World.size_alloc, World.size_setCell, World.size_drew] at *; omega))))))⟩
        case measure => simp [intOf]; omega
    · have hke : k = f.ns := by omega
      have HK := Lib.hid hke; clear hke
      have AL : Hid (rall (stopOK f.stops) f.ns = true) := Lib.hid (by rw [← HK.out]; exact hal.out)
      go_wp2_with fail
      go_loopw [6] (fun s6 wr => ∃ k : Nat, k ≤ f.ns + 1 ∧ s6 = .int .i64 k ∧ Hid ((f.times.take k).all (fun t => decide (t.length = f.ns + 1)) = true) ∧ Hid ((f.times.take k).all (fun t => vInts t 0 50) = true) ∧ Hid (Box wr w.heap.size #[.slice A0 f.ns c0, .slice A1 f.times.length c1, .int .i64 f.cap]) ∧ Hid (Below w.heap.size w wr)) (fun s6 _ => f.ns + 1 - (intOf s6).toNat)
      case atStart => exact ⟨0, by omega, rfl, all_zero, all_zero, hbox, hbel⟩
      case round =>
        obtain ⟨k, hk, rfl, hal, hal2, hbox, hbel⟩ := hrel
        have z0 := hbox.out.1
        obtain ⟨x0, x1, x2⟩ := Box.facts3 hbox.out
        by_cases hlt : k ≤ f.ns
        · have hlt2 : k < f.times.length := by have := HB.out; omega
          obtain ⟨b, off, t, A', c', rfl, hb, ht, hti, lt, mt, hc⟩ := (HF.out.i1.below hbel.out).at_ hlt2
          have HX := Lib.hid ht; clear ht
          have HTI := Lib.hid hti; clear hti
          have hm5 : t.length ≤ maxLen := Nat.le_trans lt mt
          by_cases hlen : t.length = f.ns + 1
          rotate_left
          · have hb2 : ((t.length : Int) != (f.ns : Int) + 1) = true := by simp; omega
            have NX := Lib.hid (all_no (p := fun t : List Int => decide (t.length = f.ns + 1)) HX.out (by simpa using hlen))
            clear hlen
            go_wp2_with fail
            go_ret
            exact ⟨ret_b (vFleet_C NX.out).symm, by (repeat' (first | (with_reducible exact Below.refl _ _) | (with_reducible refine belS ?_ (by first | omega | (simp; done) | (simp; omega) | (simp only [World.size_alloc, World.size_setCell, World.size_drew] at *; omega))) | (with_reducible refine belA ?_ (by first | omega | (simp; done) | (simp; omega) | (simp only [World.size_alloc, World.size_setCell, World.size_drew] at *; omega))) | (with_reducible refine bel_drewN ?_ _) | (with_reducible refine Below.drew ?_) | (with_reducible assumption) | (refine Hid.out ?_; with_reducible assumption) | (apply belV; (with_reducible assumption); exact (by first | omega | (simp; done) | (simp; omega) | (simp only [World.size_alloc, World.size_setCell, World.size_drew] at *; omega)))))⟩
          have hb2 : ((t.length : Int) != (f.ns : Int) + 1) = false := by simp; omega
          have NX := Lib.hid (all_step (p := fun t : List Int => decide (t.length = f.ns + 1)) HX.out hal.out (by simpa using hlen))
          clear hlen
          cases hin : vInts t 0 50
          · go_wp2_with (go_at_call 80; ((with_reducible refine (spec_allIn _ _ _ _ _ t _ HTI.out hm5).mono ?_); rintro e w' ⟨rfl, rfl⟩))
            go_ret
            exact ⟨ret_b (vFleet_E (all_no HX.out hin)).symm, by (repeat' (first | (with_reducible exact Below.refl _ _) | (with_reducible refine belS ?_ (by first | omega | (simp; done) | (simp; omega) | (simp only [World.size_alloc, World.size_setCell, World.size_drew] at *; omega))) | (with_reducible refine belA ?_ (by first | omega | (simp; done) | (simp; omega) | (simp only [World.size_alloc, World.size_setCell, World.size_drew] at *; omega))) | (with_reducible refine bel_drewN ?_ _) | (with_reducible refine Below.drew ?_) | (with_reducible assumption) | (refine Hid.out ?_; with_reducible assumption) | (apply belV; (with_reducible assumption); exact (by first | omega | (simp; done) | (simp; omega) | (simp only [World.size_alloc, World.size_setCell, World.size_drew] at *; omega)))))⟩
          · go_wp2_with (go_at_call 80; ((with_reducible refine (spec_allIn _ _ _ _ _ t _ HTI.out hm5).mono ?_); rintro e w' ⟨rfl, rfl⟩))
            go_roundw
            case rel => exact ⟨k + 1, by omega, by go_num, NX, all_step HX.out hal2.out hin, hbox, hbel⟩
            case measure => simp [intOf]; omega
        · have hC : Hid (allLen f.times (f.ns + 1) = true) := Lib.hid (all_end (by have := HB.out; omega) hal.out)
          have hE : Hid (allTim f.times = true) := Lib.hid (all_end (by have := HB.out; omega) hal2.out)
          go_wp2_with fail
          go_ret
          exact ⟨ret_b (vFleet_ok hA HB.out hC.out hD hE.out AL.out).symm, by (repeat' (first | (with_reducible exact Below.refl _ _) | (with_reducible refine belS ?_ (by first | omega | (simp; done) | (simp; omega) | (simp only [World.size_alloc, World.size_setCell, World.size_drew] at *; omega))) | (with_reducible refine belA ?_ (by first | omega | (simp; done) | (simp; omega) | (simp only [World.size_alloc, World.size_setCell, World.size_drew] at *; omega))) | (with_reducible refine bel_drewN ?_ _) | (with_reducible refine Below.drew ?_) | (with_reducible assumption) | (refine Hid.out ?_; with_reducible assumption) | (apply belV; (with_reducible assumption); exact (by first | omega | (simp; done) | (simp; omega) | (simp only [World.size_alloc, World.size_setCell, World.size_drew] at *; omega)))))⟩
theorem spec_ValidFleet (A0 A1 : Option Addr) (c0 c1 : Nat) (f : PFleet) (w : World) (hf : FleetV w A0 A1 c0 c1 f) :
    Calls Try.prog 24 #[.agg #[.slice A0 f.ns c0, .slice A1 f.times.length c1, .int .i64 f.cap]] w fun e w' => e = .returned (.bool (vFleet f)) ∧ Below w.heap.size w w' := by
  have HF := Lib.hid hf; clear hf
  go_enter Try.func24, Try.ntmps24
  go_wp2_with fail
  refine (spec_validFleet _ _ _ _ f _ (HF.out.below (by (repeat' (first | (with_reducible exact Below.refl _ _) | (with_reducible refine belS ?_ (by first | omega | (simp; done) | (simp; omega) | (simp only [World.size_alloc, World.size_setCell, World.size_drew] at *; omega))) | (with_reducible refine belA ?_ (by first | omega | (simp; done) | (simp; omega) | (simp only [World.size_alloc, World.size_setCell, World.size_drew] at *; omega))) | (with_reducible refine bel_drewN ?_ _) | (with_reducible refine Below.drew ?_) | (with_reducible assumption) | (refine Hid.out ?_; with_reducible assumption) | (apply belV; (with_reducible assumption); exact (by first | omega | (simp; done) | (simp; omega) | (simp only [World.size_alloc, World.size_setCell, World.size_drew] at *; omega)))))))).mono ?_
  rintro e w1 ⟨rfl, hb⟩
  have G1 : Hid (Below w.heap.size w w1) := belU hb (by (repeat' (first | (with_reducible exact Below.refl _ _) | (with_reducible refine belS ?_ (by first | omega | (simp; done) | (simp; omega) | (simp only [World.size_alloc, World.size_setCell, World.size_drew] at *; omega))) | (with_reducible refine belA ?_ (by first | omega | (simp; done) | (simp; omega) | (simp only [World.size_alloc, World.size_setCell, World.size_drew] at *; omega))) | (with_reducible refine bel_drewN ?_ _) | (with_reducible refine Below.drew ?_) | (with_reducible assumption) | (refine Hid.out ?_; with_reducible assumption) | (apply belV; (with_reducible assumption); exact (by first | omega | (simp; done) | (simp; omega) | (simp only [World.size_alloc, World.size_setCell, World.size_drew] at *; omega)))))) (by first | omega | (simp; done) | (simp; omega) | (simp only [World.size_alloc, World.size_setCell, World.size_drew] at *; omega))
  have z1 := hb.size
  (try simp at z1)
  have D1 := Lib.hid hb; clear hb
  go_wp2_with fail
  go_ret
  exact ⟨rfl, by (repeat' (first | (with_reducible exact Below.refl _ _) | (with_reducible refine belS ?_ (by first | omega | (simp; done) | (simp; omega) | (simp only [World.size_alloc, World.size_setCell, World.size_drew] at *; omega))) | (with_reducible refine belA ?_ (by first | omega | (simp; done) | (simp; omega) | (simp only [World.size_alloc, World.size_setCell, World.size_drew] at *; omega))) | (with_reducible refine bel_drewN ?_ _) | (with_reducible refine Below.drew ?_) | (with_reducible assumption) | (refine Hid.out ?_; with_reducible assumption) | (apply belV; (with_reducible assumption); exact (by first | omega | (simp; done) | (simp; omega) | (simp only [World.size_alloc, World.size_setCell, World.size_drew] at *; omega)))))⟩
end Go.Proofs.Ytppdomoifnokpaa
