
/-
  Fleets: whether they are valid: what the program's function and the model's answer.
-/
import Derived.Test.YtppdomoifnokpaaVa
import Derived.Test.YtppdomoifnokpaaKn
set_option linter.unusedSimpArgs false
set_option linter.unusedVariables false
namespace Go.Proofs.Ytppdomoifnokpaa
open Go.RowKit

set_option maxHeartbeats 1000000 in
theorem impl_isTable (A : Option Addr) (n c : Nat) (r m : Nat) (r' m' : Int) (xss : List (List Int)) (w : World) (hI : Lists w A n xss) (hn : n ≤ maxLen) (er : r' = (r : Int)) (em : m' = (m : Int)) :
    Calls Try.prog 64 #[.slice A n c, .int .i64 r', .int .i64 m'] w fun e w' => e = .returned (.bool (decide (n = r) && allLen xss m)) ∧ w = w' := by
  subst er em
  unfold maxLen at hn
  have HI := Lib.hid hI; clear hI
  by_cases hr : n = r
  rotate_left
  · have hb : ((n : Int) != (r : Int)) = true := by simp; omega
    go_enter Try.func64, Try.ntmps64
    go_wp2
    go_ret
    exact ⟨ret_b (by simp [hr]), rfl⟩
  have hb : ((n : Int) != (r : Int)) = false := by simp; omega
  have HR : Hid (n = r) := hr
  clear hr
  go_enter Try.func64, Try.ntmps64
  go_wp2
  clear hb
  go_loop [8, 15] (fun s8 s15 => ∃ (k : Nat) (u : Value), k ≤ n ∧ u = s8 ∧ s15 = .int .i64 k ∧ Hid ((xss.take k).all (fun t => decide (t.length = m)) = true)) (fun _ s15 => n - (intOf s15).toNat)
  case atStart => exact ⟨0, _, by omega, rfl, rfl, all_zero⟩
  case round =>
    obtain ⟨k, u, hk, rfl, rfl, hal⟩ := hrel
    by_cases hlt : k < n
    · obtain ⟨b, off, xs, A', c', rfl, hb, hx, hxi, lx, mx, hc⟩ := HI.out.at_ hlt
      have HX := Lib.hid hx; clear hx hxi
      by_cases hlen : xs.length = m
      · have hb2 : ((xs.length : Int) != (m : Int)) = false := by simp; omega
        have NX := Lib.hid (all_step (p := fun t : List Int => decide (t.length = m)) HX.out hal.out (by simpa using hlen))
        clear hlen
        go_wp2
        go_round
        case rel => exact ⟨k + 1, _, by omega, rfl, by go_num, NX⟩
        case measure => simp [intOf]; omega
      · have hb2 : ((xs.length : Int) != (m : Int)) = true := by simp; omega
        have NX := Lib.hid (all_no (p := fun t : List Int => decide (t.length = m)) HX.out (by simpa using hlen))
        clear hlen
        go_wp2
        go_ret
        exact ⟨ret_b (by unfold allLen; rw [NX.out]; simp), rfl⟩
    · go_wp2
      go_ret
      exact ⟨ret_b (by unfold allLen; rw [all_end (by rw [HI.out.len]; omega) hal.out]; simp [HR.out]), rfl⟩

set_option maxHeartbeats 2000000 in
theorem impl_stopValid (x0 x1 x2 x3 : Int) (w : World) : Calls Try.prog 66 #[.agg #[.int .i64 x0, .int .i64 x1, .int .i64 x2, .int .i64 x3]] w fun e w' => e = .returned (.bool (stopB x0 x1 x2 x3)) ∧ Below w.heap.size w w' := by
  cases h1 : inB x0 0 30
  · have E := Lib.hid (stopB_1 (x1 := x1) (x2 := x2) (x3 := x3) h1)
    go_enter Try.func66, Try.ntmps66
    go_wp2_with (go_at_call 56; ((with_reducible refine (impl_inRange _ _ _ _).mono ?_); rintro e w' ⟨rfl, rfl⟩))
    go_ret
    exact ⟨ret_b E.out.symm, by (repeat' (first | (with_reducible exact Below.refl _ _) | (with_reducible refine belS ?_ (by first | omega | (simp; done) | (simp; omega) | (simp only [World.size_alloc, World.size_setCell, World.size_drew] at *; omega))) | (with_reducible refine belA ?_ (by first | omega | (simp; done) | (simp; omega) | (simp only [World.size_alloc, World.size_setCell, World.size_drew] at *; omega))) | (with_reducible refine bel_drewN ?_ _) | (with_reducible refine Below.drew ?_) | (with_reducible assumption) | (refine Hid.out ?_; with_reducible assumption) | (apply belV; (with_reducible assumption); exact (by first | omega | (simp; done) | (simp; omega) | (simp only [World.size_alloc, World.size_setCell, World.size_drew] at *; omega)))))⟩
  by_cases h2 : 0 ≤ x1
  rotate_left
  · have E := Lib.hid (stopB_6 (x0 := x0) (x2 := x2) (x3 := x3) h2)
    go_enter Try.func66, Try.ntmps66
    go_wp2_with (go_at_call 56; ((with_reducible refine (impl_inRange _ _ _ _).mono ?_); rintro e w' ⟨rfl, rfl⟩))
    go_ret
    exact ⟨ret_b (by rw [E.out]), by (repeat' (first | (with_reducible exact Below.refl _ _) | (with_reducible refine belS ?_ (by first | omega | (simp; done) | (simp; omega) | (simp only [World.size_alloc, World.size_setCell, World.size_drew] at *; omega))) | (with_reducible refine belA ?_ (by first | omega | (simp; done) | (simp; omega) | (simp only [World.size_alloc, World.size_setCell, World.size_drew] at *; omega))) | (with_reducible refine bel_drewN ?_ _) | (with_reducible refine Below.drew ?_) | (with_reducible assumption) | (refine Hid.out ?_; with_reducible assumption) | (apply belV; (with_reducible assumption); exact (by first | omega | (simp; done) | (simp; omega) | (simp only [World.size_alloc, World.size_setCell, World.size_drew] at *; omega)))))⟩
  cases h3 : inB x2 x1 200
  · have E := Lib.hid (stopB_3 (x0 := x0) (x3 := x3) h3)
    go_enter Try.func66, Try.ntmps66
    go_wp2_with (go_at_call 56; ((with_reducible refine (impl_inRange _ _ _ _).mono ?_); rintro e w' ⟨rfl, rfl⟩))
    go_ret
    exact ⟨ret_b E.out.symm, by (repeat' (first | (with_reducible exact Below.refl _ _) | (with_reducible refine belS ?_ (by first | omega | (simp; done) | (simp; omega) | (simp only [World.size_alloc, World.size_setCell, World.size_drew] at *; omega))) | (with_reducible refine belA ?_ (by first | omega | (simp; done) | (simp; omega) | (simp only [World.size_alloc, World.size_setCell, World.size_drew] at *; omega))) | (with_reducible refine bel_drewN ?_ _) | (with_reducible refine Below.drew ?_) | (with_reducible assumption) | (refine Hid.out ?_; with_reducible assumption) | (apply belV; (with_reducible assumption); exact (by first | omega | (simp; done) | (simp; omega) | (simp only [World.size_alloc, World.size_setCell, World.size_drew] at *; omega)))))⟩
  · have E := Lib.hid (stopB_7 (x3 := x3) h1 h2 h3)
    go_enter Try.func66, Try.ntmps66
    go_wp2_with (go_at_call 56; ((with_reducible refine (impl_inRange _ _ _ _).mono ?_); rintro e w' ⟨rfl, rfl⟩))
    go_ret
    exact ⟨ret_b E.out.symm, by (repeat' (first | (with_reducible exact Below.refl _ _) | (with_reducible refine belS ?_ (by first | omega | (simp; done) | (simp; omega) | (simp only [World.size_alloc, World.size_setCell, World.size_drew] at *; omega))) | (with_reducible refine belA ?_ (by first | omega | (simp; done) | (simp; omega) | (simp only [World.size_alloc, World.size_setCell, World.size_drew] at *; omega))) | (with_reducible refine bel_drewN ?_ _) | (with_reducible refine Below.drew ?_) | (with_reducible assumption) | (refine Hid.out ?_; with_reducible assumption) | (apply belV; (with_reducible assumption); exact (by first | omega | (simp; done) | (simp; omega) | (simp only [World.size_alloc, World.size_setCell, World.size_drew] at *; omega)))))⟩

set_option maxHeartbeats 4000000 in
set_option maxRecDepth 100000 in
theorem impl_ValidFleet (A0 A1 : Option Addr) (c0 c1 : Nat) (f : PFleet) (w : World) (hf : FleetV w A0 A1 c0 c1 f) :
    Calls Try.prog 26 #[.agg #[.slice A0 f.ns c0, .slice A1 f.times.length c1, .int .i64 f.cap]] w fun e w' => e = .returned (.bool (vFleet f)) ∧ Below w.heap.size w w' := by
  obtain ⟨m0, m1⟩ := hf.small
  have HF := Lib.hid hf; clear hf
  have n0 := m0; have n1 := m1
  unfold maxLen at n0 n1
  by_cases hA : f.ns ≤ 5
  rotate_left
  · have E := Lib.hid (vFleet_A hA)
    go_enter Try.func26, Try.ntmps26
    go_wp2_with fail
    go_ret
    exact ⟨ret_b E.out.symm, by (repeat' (first | (with_reducible exact Below.refl _ _) | (with_reducible refine belS ?_ (by first | omega | (simp; done) | (simp; omega) | (simp only [World.size_alloc, World.size_setCell, World.size_drew] at *; omega))) | (with_reducible refine belA ?_ (by first | omega | (simp; done) | (simp; omega) | (simp only [World.size_alloc, World.size_setCell, World.size_drew] at *; omega))) | (with_reducible refine bel_drewN ?_ _) | (with_reducible refine Below.drew ?_) | (with_reducible assumption) | (refine Hid.out ?_; with_reducible assumption) | (apply belV; (with_reducible assumption); exact (by first | omega | (simp; done) | (simp; omega) | (simp only [World.size_alloc, World.size_setCell, World.size_drew] at *; omega)))))⟩
  cases hT : decide (f.times.length = f.ns + 1) && allLen f.times (f.ns + 1)
  · have E : Hid (vFleet f = false) := by
      rcases Bool.and_eq_false_iff.1 hT with h | h
      · exact Lib.hid (vFleet_B (by simpa using h))
      · exact Lib.hid (vFleet_C h)
    go_enter Try.func26, Try.ntmps26
    go_wp2_with (go_at_call 64; ((with_reducible refine (impl_isTable _ _ _ (f.ns + 1) (f.ns + 1) _ _ f.times _ (HF.out.i1.below (by (repeat' (first | (with_reducible exact Below.refl _ _) | (with_reducible refine belS ?_ (by first | omega | (simp; done) | (simp; omega) | (simp only [World.size_alloc, World.size_setCell, World.size_drew] at *; omega))) | (with_reducible refine belA ?_ (by first | omega | (simp; done) | (simp; omega) | (simp only [World.size_alloc, World.size_setCell, World.size_drew] at *; omega))) | (with_reducible refine bel_drewN ?_ _) | (with_reducible refine Below.drew ?_) | (with_reducible assumption) | (refine Hid.out ?_; with_reducible assumption) | (apply belV; (with_reducible assumption); exact (by first | omega | (simp; done) | (simp; omega) | (simp only [World.size_alloc, World.size_setCell, World.size_drew] at *; omega))))))) m1 (by omega) (by omega)).mono ?_); rintro e w' ⟨rfl, rfl⟩))
    go_ret
    exact ⟨ret_b E.out.symm, by (repeat' (first | (with_reducible exact Below.refl _ _) | (with_reducible refine belS ?_ (by first | omega | (simp; done) | (simp; omega) | (simp only [World.size_alloc, World.size_setCell, World.size_drew] at *; omega))) | (with_reducible refine belA ?_ (by first | omega | (simp; done) | (simp; omega) | (simp only [World.size_alloc, World.size_setCell, World.size_drew] at *; omega))) | (with_reducible refine bel_drewN ?_ _) | (with_reducible refine Below.drew ?_) | (with_reducible assumption) | (refine Hid.out ?_; with_reducible assumption) | (apply belV; (with_reducible assumption); exact (by first | omega | (simp; done) | (simp; omega) | (simp only [World.size_alloc, World.size_setCell, World.size_drew] at *; omega)))))⟩
  obtain ⟨hB, hC⟩ := Bool.and_eq_true_iff.1 hT
  have HB : Hid (f.times.length = f.ns + 1) := Lib.hid (by simpa using hB)
  have HC := Lib.hid hC
  clear hB hC
  cases hD : inB f.cap 0 30
  · have E := Lib.hid (vFleet_D hD)
    go_enter Try.func26, Try.ntmps26
    go_wp2_with (first | (go_at_call 64; ((with_reducible refine (impl_isTable _ _ _ (f.ns + 1) (f.ns + 1) _ _ f.times _ (HF.out.i1.below (by (repeat' (first | (with_reducible exact Below.refl _ _) | (with_reducible refine belS ?_ (by first | omega | (simp; done) | (simp; omega) | (simp only [World.size_alloc, World.size_setCell, World.size_drew] at *; omega))) | (with_reducible refine belA ?_ (by first | omega | (simp; done) | (simp; omega) | (simp only [World.size_alloc, World.size_setCell, World.size_drew] at *; omega))) | (with_reducible refine bel_drewN ?_ _) | (with_reducible refine Below.drew ?_) | (with_reducible assumption) | (refine Hid.out ?_; with_reducible assumption) | (apply belV; (with_reducible assumption); exact (by first | omega | (simp; done) | (simp; omega) | (simp only [World.size_alloc, World.size_setCell, World.size_drew] at *; omega))))))) m1 (by omega) (by omega)).mono ?_); rintro e w' ⟨rfl, rfl⟩)) | (go_at_call 56; ((with_reducible refine (impl_inRange _ _ _ _).mono ?_); rintro e w' ⟨rfl, rfl⟩)))
    go_ret
    exact ⟨ret_b E.out.symm, by (repeat' (first | (with_reducible exact Below.refl _ _) | (with_reducible refine belS ?_ (by first | omega | (simp; done) | (simp; omega) | (simp only [World.size_alloc, World.size_setCell, World.size_drew] at *; omega))) | (with_reducible refine belA ?_ (by first | omega | (simp; done) | (simp; omega) | (simp only [World.size_alloc, World.size_setCell, World.size_drew] at *; omega))) | (with_reducible refine bel_drewN ?_ _) | (with_reducible refine Below.drew ?_) | (with_reducible assumption) | (refine Hid.out ?_; with_reducible assumption) | (apply belV; (with_reducible assumption); exact (by first | omega | (simp; done) | (simp; omega) | (simp only [World.size_alloc, World.size_setCell, World.size_drew] at *; omega)))))⟩
  go_enter Try.func26, Try.ntmps26
  go_wp2_with (first | (go_at_call 64; ((with_reducible refine (impl_isTable _ _ _ (f.ns + 1) (f.ns + 1) _ _ f.times _ (HF.out.i1.below (by (repeat' (first | (with_reducible exact Below.refl _ _) | (with_reducible refine belS ?_ (by first | omega | (simp; done) | (simp; omega) | (simp only [World.size_alloc, World.size_setCell, World.size_drew] at *; omega))) | (with_reducible refine belA ?_ (by first | omega | (simp; done) | (simp; omega) | (simp only [World.size_alloc, World.size_setCell, World.size_drew] at *; omega))) | (with_reducible refine bel_drewN ?_ _) | (with_reducible refine Below.drew ?_) | (with_reducible assumption) | (refine Hid.out ?_; with_reducible assumption) | (apply belV; (with_reducible assumption); exact (by first | omega | (simp; done) | (simp; omega) | (simp only [World.size_alloc, World.size_setCell, World.size_drew] at *; omega))))))) m1 (by omega) (by omega)).mono ?_); rintro e w' ⟨rfl, rfl⟩)) | (go_at_call 56; ((with_reducible refine (impl_inRange _ _ _ _).mono ?_); rintro e w' ⟨rfl, rfl⟩)))
  go_loopw [5, 33] (fun s5 s33 wr => ∃ (k : Nat) (u5 : Value), k ≤ f.times.length ∧ u5 = s5 ∧ s33 = .int .i64 k ∧ Hid ((f.times.take k).all (fun t => vInts t 0 50) = true) ∧ Hid (Box wr w.heap.size #[.slice A0 f.ns c0, .slice A1 f.times.length c1, .int .i64 f.cap]) ∧ Hid (Below w.heap.size w wr)) (fun _ s33 _ => f.times.length - (intOf s33).toNat)
  case atStart => exact ⟨0, _, by omega, rfl, rfl, all_zero, Box.new _ _ _ rfl, by (refine Lib.hid ?_; (repeat' (first | (with_reducible exact Below.refl _ _) | (with_reducible refine belS ?_ (by first | omega | (simp; done) | (simp; omega) | (simp only [World.size_alloc, World.size_setCell, World.size_drew] at *; omega))) | (with_reducible refine belA ?_ (by first | omega | (simp; done) | (simp; omega) | (simp only [World.size_alloc, World.size_setCell, World.size_drew] at *; omega))) | (with_reducible refine bel_drewN ?_ _) | (with_reducible refine Below.drew ?_) | (with_reducible assumption) | (refine Hid.out ?_; with_reducible assumption) | (apply belV; (with_reducible assumption); exact (by first | omega | (simp; done) | (simp; omega) | (simp only [World.size_alloc, World.size_setCell, World.size_drew] at *; omega))))))⟩
  case round =>
    obtain ⟨k, u5, hk, rfl, rfl, hal, hbox, hbel⟩ := hrel
    have z0 := hbox.out.1
    obtain ⟨x0, x1, x2⟩ := Box.facts3 hbox.out
    by_cases hlt : k < f.times.length
    · obtain ⟨b, off, t, A', c', rfl, hb, ht, hti, lt, mt, hc⟩ := (HF.out.i1.below hbel.out).at_ hlt
      have HX := Lib.hid ht; clear ht
      have HTI := Lib.hid hti; clear hti
      have hm5 : t.length ≤ maxLen := Nat.le_trans lt mt
      cases hin : vInts t 0 50
      · go_wp2_with (go_at_call 65; ((with_reducible refine (impl_allInRange _ _ _ _ _ t _ HTI.out hm5).mono ?_); rintro e w' ⟨rfl, rfl⟩))
        go_ret
        exact ⟨ret_b (vFleet_E (all_no HX.out hin)).symm, by (repeat' (first | (with_reducible exact Below.refl _ _) | (with_reducible refine belS ?_ (by first | omega | (simp; done) | (simp; omega) | (simp only [World.size_alloc, World.size_setCell, World.size_drew] at *; omega))) | (with_reducible refine belA ?_ (by first | omega | (simp; done) | (simp; omega) | (simp only [World.size_alloc, World.size_setCell, World.size_drew] at *; omega))) | (with_reducible refine bel_drewN ?_ _) | (with_reducible refine Below.drew ?_) | (with_reducible assumption) | (refine Hid.out ?_; with_reducible assumption) | (apply belV; (with_reducible assumption); exact (by first | omega | (simp; done) | (simp; omega) | (simp only [World.size_alloc, World.size_setCell, World.size_drew] at *; omega)))))⟩
      · go_wp2_with (go_at_call 65; ((with_reducible refine (impl_allInRange _ _ _ _ _ t _ HTI.out hm5).mono ?_); rintro e w' ⟨rfl, rfl⟩))
        go_roundw
        case rel => exact ⟨k + 1, _, by omega, rfl, by go_num, all_step HX.out hal.out hin, hbox, hbel⟩
        case measure => simp [intOf]; omega
    · have hE : Hid (allTim f.times = true) := Lib.hid (all_end (by omega) hal.out)
      go_wp2_with fail
      obtain ⟨wo, hwo⟩ : ∃ wo, wo = wr := ⟨_, rfl⟩
      go_loopw [7, 44] (fun s7 s44 wr => ∃ (k : Nat) (u7 : Value), k ≤ f.ns ∧ u7 = s7 ∧ s44 = .int .i64 k ∧ Hid (rall (stopOK f.stops) k = true) ∧ Hid (Box wr w.heap.size #[.slice A0 f.ns c0, .slice A1 f.times.length c1, .int .i64 f.cap]) ∧ Hid (Below w.heap.size w wr)) (fun _ s44 _ => f.ns - (intOf s44).toNat)
      case atStart => exact ⟨0, _, by omega, rfl, rfl, rall_0, hbox, hbel⟩
      case round =>
        obtain ⟨k, u7, hk, rfl, rfl, hal, hbox, hbel⟩ := hrel
        have z0 := hbox.out.1
        obtain ⟨x0, x1, x2⟩ := Box.facts3 hbox.out
        by_cases hlt : k < f.ns
        · obtain ⟨b, off, y0, y1, y2, y3, rfl, hb, hy0, hy1, hy2, hy3, iy0, iy1, iy2, iy3, d0, d1, d2, d3⟩ := (HF.out.i0.below hbel.out).at4 hlt
          have SA := Lib.hid (stopOK_at hy0 hy1 hy2 hy3)
          clear hy0 hy1 hy2 hy3 iy0 iy1 iy2 iy3
          go_wp2_with fail
          refine (impl_stopValid y0 y1 y2 y3 _).mono ?_
          rintro e w1 ⟨rfl, hb1⟩
          have G1 : Hid (Below w.heap.size w w1) := belU hb1 (by (repeat' (first | (with_reducible exact Below.refl _ _) | (with_reducible refine belS ?_ (by first | omega | (simp; done) | (simp; omega) | (simp only [World.size_alloc, World.size_setCell, World.size_drew] at *; omega))) | (with_reducible refine belA ?_ (by first | omega | (simp; done) | (simp; omega) | (simp only [World.size_alloc, World.size_setCell, World.size_drew] at *; omega))) | (with_reducible refine bel_drewN ?_ _) | (with_reducible refine Below.drew ?_) | (with_reducible assumption) | (refine Hid.out ?_; with_reducible assumption) | (apply belV; (with_reducible assumption); exact (by first | omega | (simp; done) | (simp; omega) | (simp only [World.size_alloc, World.size_setCell, World.size_drew] at *; omega)))))) (by first | omega | (simp; done) | (simp; omega) | (simp only [World.size_alloc, World.size_setCell, World.size_drew] at *; omega))
          have X1 : Hid (Box w1 w.heap.size #[.slice (some ⟨b, off, none⟩) f.ns c0, .slice A1 f.times.length c1, .int .i64 f.cap]) := Lib.hid (Box.below (by (repeat' (first | (with_reducible exact Box.new _ _ _ (by first | omega | (simp; done) | (simp; omega) | (simp only [World.size_alloc, World.size_setCell, World.size_drew] at *; omega))) | (with_reducible refine Box.far ?_ (by first | omega | (simp; done) | (simp; omega) | (simp only [World.size_alloc, World.size_setCell, World.size_drew] at *; omega)) _) | (apply Box.put3_0) | (apply Box.put3_1) | (apply Box.put3_2) | (apply Box.put2_0) | (apply Box.put2_1) | (with_reducible refine Box.alloc ?_ _) | (with_reducible refine Box.drewN ?_ _) | (with_reducible refine Box.drew ?_) | (with_reducible assumption) | (refine Hid.out ?_; with_reducible assumption) | (apply Box.only; (with_reducible assumption); exact (by first | omega | (simp; done) | (simp; omega) | (simp only [World.size_alloc, World.size_setCell, World.size_drew] at *; omega))) | (apply Box.belowD; (with_reducible assumption))))) hb1)
          have z1 := X1.out.1
          clear hb1
          cases hs : stopB y0 y1 y2 y3
          · go_wp2_with fail
            go_ret
            exact ⟨ret_b (vFleet_S (rall_no hlt (by rw [SA.out, hs]))).symm, by (repeat' (first | (with_reducible exact Below.refl _ _) | (with_reducible refine belS ?_ (by first | omega | (simp; done) | (simp; omega) | (simp only [World.size_alloc, World.size_setCell, World.size_drew] at *; omega))) | (with_reducible refine belA ?_ (by first | omega | (simp; done) | (simp; omega) | (simp only [World.size_alloc, World.size_setCell, World.size_drew] at *; omega))) | (with_reducible refine bel_drewN ?_ _) | (with_reducible refine Below.drew ?_) | (with_reducible assumption) | (refine Hid.out ?_; with_reducible assumption) | (apply belV; (with_reducible assumption); exact (by first | omega | (simp; done) | (simp; omega) | (simp only [World.size_alloc, World.size_setCell, World.size_drew] at *; omega)))))⟩
          · go_wp2_with fail
            go_roundw
            case rel => exact ⟨k + 1, _, by omega, rfl, by go_num, Lib.hid (rall_yes hal.out (by rw [SA.out, hs])), X1, G1⟩
            case measure => simp [intOf]; omega
        · have hke : k = f.ns := by omega
          have HK := Lib.hid hke; clear hke
          have AL : Hid (rall (stopOK f.stops) f.ns = true) := Lib.hid (by rw [← HK.out]; exact hal.out)
          go_wp2_with fail
          go_ret
          exact ⟨ret_b (vFleet_ok hA HB.out HC.out hD hE.out AL.out).symm, by (repeat' (first | (with_reducible exact Below.refl _ _) | (with_reducible refine belS ?_ (by first | omega | (simp; done) | (simp; omega) | (simp only [World.size_alloc, World.size_setCell, World.size_drew] at *; omega))) | (with_reducible refine belA ?_ (by first | omega | (simp; done) | (simp; omega) | (simp only [World.size_alloc, World.size_setCell, World.size_drew] at *; omega))) | (with_reducible refine bel_drewN ?_ _) | (with_reducible refine Below.drew ?_) | (with_reducible assumption) | (refine Hid.out ?_; with_reducible assumption) | (apply belV; (with_reducible assumption); exact (by first | omega | (simp; done) | (simp; omega) | (simp only [World.size_alloc, World.size_setCell, World.size_drew] at *; omega)))))⟩
end Go.Proofs.Ytppdomoifnokpaa
