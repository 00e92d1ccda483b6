
/-
  Validity of networks, as the program's function and the model's answer it.
-/
import Derived.Test.YtjbgjljcgdligaaIa
import Derived.Test.YtjbgjljcgdligaaJe
import Derived.BigQuiet
set_option linter.unusedSimpArgs false
set_option linter.unusedVariables false
namespace Go.Proofs.Ytjbgjljcgdligaa
open Go.RowKit

theorem impl_two (n a b : Int) (w : World) (hn : 1 ≤ n ∧ n ≤ 8) : Calls Try.prog 128 #[.int .i64 n, .int .i64 a, .int .i64 b] w fun e w' => e = .returned (.bool (twoB n a b)) ∧ w = w' := by
  obtain ⟨n1, n2⟩ := hn
  cases h1 : inB a 0 (n - 1)
  · have E := Lib.hid (twoB_1 (b := b) h1)
    go_enter Try.func128, Try.ntmps128
    go_wp2_with (go_at_call 88; ((with_reducible refine (impl_inRange _ _ _ _).mono ?_); rintro e w' ⟨rfl, rfl⟩))
    go_ret
    exact ⟨ret_b E.out.symm, rfl⟩
  cases h2 : inB b 0 (n - 1)
  · have E := Lib.hid (twoB_2 (a := a) h2)
    go_enter Try.func128, Try.ntmps128
    go_wp2_with (go_at_call 88; ((with_reducible refine (impl_inRange _ _ _ _).mono ?_); rintro e w' ⟨rfl, rfl⟩))
    go_ret
    exact ⟨ret_b E.out.symm, rfl⟩
  have E := Lib.hid (twoB_3 h1 h2)
  go_enter Try.func128, Try.ntmps128
  go_wp2_with (go_at_call 88; ((with_reducible refine (impl_inRange _ _ _ _).mono ?_); rintro e w' ⟨rfl, rfl⟩))
  go_ret
  exact ⟨ret_b (by rw [E.out]; first | rfl | (simp [bne]; done)), rfl⟩
theorem netB_6 {n s t : Int} {ts : List (Int × Int × Int)} {k : Nat} {x y z : Int} (hk : k < ts.length) (h : ts[k]? = some (x, y, z)) (h2 : twoB n x y = false) : netB n ts s t = false := netB_4 hk (by rw [arcB_at h, h2]; rfl)
theorem netB_7 {n s t : Int} {ts : List (Int × Int × Int)} {k : Nat} {x y z : Int} (hk : k < ts.length) (h : ts[k]? = some (x, y, z)) (h2 : inB z 0 99 = false) : netB n ts s t = false := netB_4 hk (by rw [arcB_at h, h2]; simp)
set_option maxHeartbeats 4000000 in
set_option maxRecDepth 100000 in
theorem impl_validNetwork (A : Option Addr) (m c : Nat) (n s t : Int) (ts : List (Int × Int × Int)) (w : World) (hI : TriS w A m ts) (hm : m ≤ maxLen) :
    Calls Try.prog 93 #[.int .i64 n, .slice A m c, .int .i64 s, .int .i64 t] w fun e w' => e = .returned (.bool (netB n ts s t)) ∧ Below w.heap.size w w' := by
  unfold maxLen at hm
  have HL := Lib.hid hI.len
  have HI := Lib.hid hI; clear hI
  cases h1 : inB n 2 8
  · have E := Lib.hid (netB_1 (s := s) (t := t) (ts := ts) h1)
    go_enter Try.func93, Try.ntmps93
    go_wp2_with (go_at_call 88; ((with_reducible refine (impl_inRange _ _ _ _).mono ?_); rintro e w' ⟨rfl, rfl⟩))
    go_ret
    exact ⟨ret_b E.out.symm, by (repeat' (first | (with_reducible exact Below.refl _ _) | (with_reducible refine belS ?_ (by first | omega | (simp; done) | (simp; omega) | (simp only [World.size_alloc, World.size_setCell, World.size_drew] at *; omega))) | (with_reducible refine belA ?_ (by first | omega | (simp; done) | (simp; omega) | (simp only [World.size_alloc, World.size_setCell, World.size_drew] at *; omega))) | (with_reducible refine bel_drewN ?_ _) | (with_reducible refine Below.drew ?_) | (with_reducible assumption) | (refine Hid.out ?_; with_reducible assumption) | (apply belV; (with_reducible assumption); exact (by first | omega | (simp; done) | (simp; omega) | (simp only [World.size_alloc, World.size_setCell, World.size_drew] at *; omega)))))⟩
  obtain ⟨n0, n1⟩ := inB_iff.1 h1
  by_cases h2 : m ≤ 12
  rotate_left
  · have E := Lib.hid (netB_2 (n := n) (s := s) (t := t) (ts := ts) (by rw [HL.out]; exact h2))
    go_enter Try.func93, Try.ntmps93
    go_wp2_with (go_at_call 88; ((with_reducible refine (impl_inRange _ _ _ _).mono ?_); rintro e w' ⟨rfl, rfl⟩))
    go_ret
    exact ⟨ret_b E.out.symm, by (repeat' (first | (with_reducible exact Below.refl _ _) | (with_reducible refine belS ?_ (by first | omega | (simp; done) | (simp; omega) | (simp only [World.size_alloc, World.size_setCell, World.size_drew] at *; omega))) | (with_reducible refine belA ?_ (by first | omega | (simp; done) | (simp; omega) | (simp only [World.size_alloc, World.size_setCell, World.size_drew] at *; omega))) | (with_reducible refine bel_drewN ?_ _) | (with_reducible refine Below.drew ?_) | (with_reducible assumption) | (refine Hid.out ?_; with_reducible assumption) | (apply belV; (with_reducible assumption); exact (by first | omega | (simp; done) | (simp; omega) | (simp only [World.size_alloc, World.size_setCell, World.size_drew] at *; omega)))))⟩
  cases h3 : twoB n s t
  · have E := Lib.hid (netB_3 (ts := ts) h3)
    go_enter Try.func93, Try.ntmps93
    go_wp2_with (first | (go_at_call 88; ((with_reducible refine (impl_inRange _ _ _ _).mono ?_); rintro e w' ⟨rfl, rfl⟩)) | (go_at_call 128; ((with_reducible refine (impl_two _ _ _ _ ⟨by omega, by omega⟩).mono ?_); rintro e w' ⟨rfl, rfl⟩)))
    go_ret
    exact ⟨ret_b E.out.symm, by (repeat' (first | (with_reducible exact Below.refl _ _) | (with_reducible refine belS ?_ (by first | omega | (simp; done) | (simp; omega) | (simp only [World.size_alloc, World.size_setCell, World.size_drew] at *; omega))) | (with_reducible refine belA ?_ (by first | omega | (simp; done) | (simp; omega) | (simp only [World.size_alloc, World.size_setCell, World.size_drew] at *; omega))) | (with_reducible refine bel_drewN ?_ _) | (with_reducible refine Below.drew ?_) | (with_reducible assumption) | (refine Hid.out ?_; with_reducible assumption) | (apply belV; (with_reducible assumption); exact (by first | omega | (simp; done) | (simp; omega) | (simp only [World.size_alloc, World.size_setCell, World.size_drew] at *; omega)))))⟩
  have E := Lib.hid (fun k hk h => netB_5 (k := k) h1 (by rw [HL.out]; exact h2) h3 hk h)
  go_enter Try.func93, Try.ntmps93
  go_wp2_with (first | (go_at_call 88; ((with_reducible refine (impl_inRange _ _ _ _).mono ?_); rintro e w' ⟨rfl, rfl⟩)) | (go_at_call 128; ((with_reducible refine (impl_two _ _ _ _ ⟨by omega, by omega⟩).mono ?_); rintro e w' ⟨rfl, rfl⟩)))
  clear h1 h3
  go_loopw [10, 28] (fun s10 s28 wr => ∃ (k : Nat) (u10 : Value), k ≤ m ∧ u10 = s10 ∧ s28 = .int .i64 k ∧ Hid (arcs n 99 ts k = true) ∧ Hid (Below w.heap.size w wr)) (fun _ s28 _ => m - (intOf s28).toNat)
  case atStart => exact ⟨0, _, by omega, rfl, rfl, Lib.hid (arcs_0 _ _ _), by (refine Lib.hid ?_; (repeat' (first | (with_reducible exact Below.refl _ _) | (with_reducible refine belS ?_ (by first | omega | (simp; done) | (simp; omega) | (simp only [World.size_alloc, World.size_setCell, World.size_drew] at *; omega))) | (with_reducible refine belA ?_ (by first | omega | (simp; done) | (simp; omega) | (simp only [World.size_alloc, World.size_setCell, World.size_drew] at *; omega))) | (with_reducible refine bel_drewN ?_ _) | (with_reducible refine Below.drew ?_) | (with_reducible assumption) | (refine Hid.out ?_; with_reducible assumption) | (apply belV; (with_reducible assumption); exact (by first | omega | (simp; done) | (simp; omega) | (simp only [World.size_alloc, World.size_setCell, World.size_drew] at *; omega))))))⟩
  case round =>
    obtain ⟨k, u10, hk, rfl, rfl, hal, hbel⟩ := hrel
    have z0 := hbel.out.size
    by_cases hlt : k < m
    · obtain ⟨b, off, x, y, z, rfl, hb, hx, ix, iy, iz, c0, c1, c2⟩ := (HI.out.below hbel.out).at_ hlt
      have HX := Lib.hid hx; clear hx
      cases hv : twoB n x y
      · have E2 := Lib.hid (netB_6 (s := s) (t := t) (by rw [HL.out]; exact hlt) HX.out hv)
        go_wp2_with (go_at_call 128; ((with_reducible refine (impl_two _ _ _ _ ⟨by omega, by omega⟩).mono ?_); rintro e w' ⟨rfl, rfl⟩))
        go_ret
        exact ⟨ret_b E2.out.symm, by (repeat' (first | (with_reducible exact Below.refl _ _) | (with_reducible refine belS ?_ (by first | omega | (simp; done) | (simp; omega) | (simp only [World.size_alloc, World.size_setCell, World.size_drew] at *; omega))) | (with_reducible refine belA ?_ (by first | omega | (simp; done) | (simp; omega) | (simp only [World.size_alloc, World.size_setCell, World.size_drew] at *; omega))) | (with_reducible refine bel_drewN ?_ _) | (with_reducible refine Below.drew ?_) | (with_reducible assumption) | (refine Hid.out ?_; with_reducible assumption) | (apply belV; (with_reducible assumption); exact (by first | omega | (simp; done) | (simp; omega) | (simp only [World.size_alloc, World.size_setCell, World.size_drew] at *; omega)))))⟩
      cases hv2 : inB z 0 99
      · have E2 := Lib.hid (netB_7 (n := n) (s := s) (t := t) (by rw [HL.out]; exact hlt) HX.out hv2)
        go_wp2_with (first | (go_at_call 88; ((with_reducible refine (impl_inRange _ _ _ _).mono ?_); rintro e w' ⟨rfl, rfl⟩)) | (go_at_call 128; ((with_reducible refine (impl_two _ _ _ _ ⟨by omega, by omega⟩).mono ?_); rintro e w' ⟨rfl, rfl⟩)))
        go_ret
        exact ⟨ret_b E2.out.symm, by (repeat' (first | (with_reducible exact Below.refl _ _) | (with_reducible refine belS ?_ (by first | omega | (simp; done) | (simp; omega) | (simp only [World.size_alloc, World.size_setCell, World.size_drew] at *; omega))) | (with_reducible refine belA ?_ (by first | omega | (simp; done) | (simp; omega) | (simp only [World.size_alloc, World.size_setCell, World.size_drew] at *; omega))) | (with_reducible refine bel_drewN ?_ _) | (with_reducible refine Below.drew ?_) | (with_reducible assumption) | (refine Hid.out ?_; with_reducible assumption) | (apply belV; (with_reducible assumption); exact (by first | omega | (simp; done) | (simp; omega) | (simp only [World.size_alloc, World.size_setCell, World.size_drew] at *; omega)))))⟩
      have NX := Lib.hid (arcs_yes hal.out (by rw [arcB_at HX.out, hv, hv2]; rfl))
      go_wp2_with (first | (go_at_call 88; ((with_reducible refine (impl_inRange _ _ _ _).mono ?_); rintro e w' ⟨rfl, rfl⟩)) | (go_at_call 128; ((with_reducible refine (impl_two _ _ _ _ ⟨by omega, by omega⟩).mono ?_); rintro e w' ⟨rfl, rfl⟩)))
      go_roundw
      case rel => exact ⟨k + 1, _, by omega, rfl, by go_num, NX, by (refine Lib.hid ?_; (repeat' (first | (with_reducible exact Below.refl _ _) | (with_reducible refine belS ?_ (by first | omega | (simp; done) | (simp; omega) | (simp only [World.size_alloc, World.size_setCell, World.size_drew] at *; omega))) | (with_reducible refine belA ?_ (by first | omega | (simp; done) | (simp; omega) | (simp only [World.size_alloc, World.size_setCell, World.size_drew] at *; omega))) | (with_reducible refine bel_drewN ?_ _) | (with_reducible refine Below.drew ?_) | (with_reducible assumption) | (refine Hid.out ?_; with_reducible assumption) | (apply belV; (with_reducible assumption); exact (by first | omega | (simp; done) | (simp; omega) | (simp only [World.size_alloc, World.size_setCell, World.size_drew] at *; omega))))))⟩
      case measure => simp [intOf]; omega
    · have hke : k = ts.length := by have := HL.out; omega
      have E2 := Lib.hid (E.out k hke hal.out)
      clear hke
      go_wp2_with fail
      go_ret
      exact ⟨ret_b E2.out.symm, hbel.out⟩
set_option maxHeartbeats 4000000 in
set_option maxRecDepth 100000 in
theorem spec_validArcs (A : Option Addr) (m c : Nat) (n s t : Int) (ts : List (Int × Int × Int)) (w : World) (hI : TriS w A m ts) (hm : m ≤ maxLen) :
    Calls Try.prog 89 #[.int .i64 n, .slice A m c, .int .i64 s, .int .i64 t] w fun e w' => e = .returned (.bool (netB n ts s t)) ∧ Below w.heap.size w w' := by
  unfold maxLen at hm
  have HL := Lib.hid hI.len
  have HI := Lib.hid hI; clear hI
  cases h1 : inB n 2 8
  · have E := Lib.hid (netB_1 (s := s) (t := t) (ts := ts) h1)
    go_enter Try.func89, Try.ntmps89
    go_wp2_with (go_at_call 90; ((with_reducible refine (spec_inRange _ _ _ _).mono ?_); rintro e w' ⟨rfl, rfl⟩))
    go_ret
    exact ⟨ret_b E.out.symm, by (repeat' (first | (with_reducible exact Below.refl _ _) | (with_reducible refine belS ?_ (by first | omega | (simp; done) | (simp; omega) | (simp only [World.size_alloc, World.size_setCell, World.size_drew] at *; omega))) | (with_reducible refine belA ?_ (by first | omega | (simp; done) | (simp; omega) | (simp only [World.size_alloc, World.size_setCell, World.size_drew] at *; omega))) | (with_reducible refine bel_drewN ?_ _) | (with_reducible refine Below.drew ?_) | (with_reducible assumption) | (refine Hid.out ?_; with_reducible assumption) | (apply belV; (with_reducible assumption); exact (by first | omega | (simp; done) | (simp; omega) | (simp only [World.size_alloc, World.size_setCell, World.size_drew] at *; omega)))))⟩
  obtain ⟨n0, n1⟩ := inB_iff.1 h1
  by_cases h2 : m ≤ 12
  rotate_left
  · have E := Lib.hid (netB_2 (n := n) (s := s) (t := t) (ts := ts) (by rw [HL.out]; exact h2))
    go_enter Try.func89, Try.ntmps89
    go_wp2_with (go_at_call 90; ((with_reducible refine (spec_inRange _ _ _ _).mono ?_); rintro e w' ⟨rfl, rfl⟩))
    go_ret
    exact ⟨ret_b E.out.symm, by (repeat' (first | (with_reducible exact Below.refl _ _) | (with_reducible refine belS ?_ (by first | omega | (simp; done) | (simp; omega) | (simp only [World.size_alloc, World.size_setCell, World.size_drew] at *; omega))) | (with_reducible refine belA ?_ (by first | omega | (simp; done) | (simp; omega) | (simp only [World.size_alloc, World.size_setCell, World.size_drew] at *; omega))) | (with_reducible refine bel_drewN ?_ _) | (with_reducible refine Below.drew ?_) | (with_reducible assumption) | (refine Hid.out ?_; with_reducible assumption) | (apply belV; (with_reducible assumption); exact (by first | omega | (simp; done) | (simp; omega) | (simp only [World.size_alloc, World.size_setCell, World.size_drew] at *; omega)))))⟩
  cases h3 : inB s 0 (n - 1)
  · have E := Lib.hid (netB_3 (ts := ts) (twoB_1 (b := t) h3))
    go_enter Try.func89, Try.ntmps89
    go_wp2_with (go_at_call 90; ((with_reducible refine (spec_inRange _ _ _ _).mono ?_); rintro e w' ⟨rfl, rfl⟩))
    go_ret
    exact ⟨ret_b E.out.symm, by (repeat' (first | (with_reducible exact Below.refl _ _) | (with_reducible refine belS ?_ (by first | omega | (simp; done) | (simp; omega) | (simp only [World.size_alloc, World.size_setCell, World.size_drew] at *; omega))) | (with_reducible refine belA ?_ (by first | omega | (simp; done) | (simp; omega) | (simp only [World.size_alloc, World.size_setCell, World.size_drew] at *; omega))) | (with_reducible refine bel_drewN ?_ _) | (with_reducible refine Below.drew ?_) | (with_reducible assumption) | (refine Hid.out ?_; with_reducible assumption) | (apply belV; (with_reducible assumption); exact (by first | omega | (simp; done) | (simp; omega) | (simp only [World.size_alloc, World.size_setCell, World.size_drew] at *; omega)))))⟩
  cases h4 : inB t 0 (n - 1)
  · have E := Lib.hid (netB_3 (ts := ts) (twoB_2 (a := s) h4))
    go_enter Try.func89, Try.ntmps89
    go_wp2_with (go_at_call 90; ((with_reducible refine (spec_inRange _ _ _ _).mono ?_); rintro e w' ⟨rfl, rfl⟩))
    go_ret
    exact ⟨ret_b E.out.symm, by (repeat' (first | (with_reducible exact Below.refl _ _) | (with_reducible refine belS ?_ (by first | omega | (simp; done) | (simp; omega) | (simp only [World.size_alloc, World.size_setCell, World.size_drew] at *; omega))) | (with_reducible refine belA ?_ (by first | omega | (simp; done) | (simp; omega) | (simp only [World.size_alloc, World.size_setCell, World.size_drew] at *; omega))) | (with_reducible refine bel_drewN ?_ _) | (with_reducible refine Below.drew ?_) | (with_reducible assumption) | (refine Hid.out ?_; with_reducible assumption) | (apply belV; (with_reducible assumption); exact (by first | omega | (simp; done) | (simp; omega) | (simp only [World.size_alloc, World.size_setCell, World.size_drew] at *; omega)))))⟩
  have h34 := twoB_3 h3 h4
  by_cases h5 : s = t
  · have E := Lib.hid (netB_3 (ts := ts) (h34.trans (by simp [h5])))
    have hd : (s == t) = true := by simp [h5]
    clear h5 h34
    go_enter Try.func89, Try.ntmps89
    go_wp2_with (go_at_call 90; ((with_reducible refine (spec_inRange _ _ _ _).mono ?_); rintro e w' ⟨rfl, rfl⟩))
    go_ret
    exact ⟨ret_b E.out.symm, by (repeat' (first | (with_reducible exact Below.refl _ _) | (with_reducible refine belS ?_ (by first | omega | (simp; done) | (simp; omega) | (simp only [World.size_alloc, World.size_setCell, World.size_drew] at *; omega))) | (with_reducible refine belA ?_ (by first | omega | (simp; done) | (simp; omega) | (simp only [World.size_alloc, World.size_setCell, World.size_drew] at *; omega))) | (with_reducible refine bel_drewN ?_ _) | (with_reducible refine Below.drew ?_) | (with_reducible assumption) | (refine Hid.out ?_; with_reducible assumption) | (apply belV; (with_reducible assumption); exact (by first | omega | (simp; done) | (simp; omega) | (simp only [World.size_alloc, World.size_setCell, World.size_drew] at *; omega)))))⟩
  have hd : (s == t) = false := by simp [h5]
  have E := Lib.hid (fun k hk h => netB_5 (k := k) h1 (by rw [HL.out]; exact h2) (h34.trans (by simp [h5])) hk h)
  clear h5 h34
  go_enter Try.func89, Try.ntmps89
  go_wp2_with (go_at_call 90; ((with_reducible refine (spec_inRange _ _ _ _).mono ?_); rintro e w' ⟨rfl, rfl⟩))
  clear h1 h3 h4 hd
  go_loopw [9] (fun s9 wr => ∃ k : Nat, k ≤ m ∧ s9 = .int .i64 k ∧ Hid (arcs n 99 ts k = true) ∧ Hid (Below w.heap.size w wr)) (fun s9 _ => m - (intOf s9).toNat)
  case atStart => exact ⟨0, by omega, rfl, Lib.hid (arcs_0 _ _ _), by (refine Lib.hid ?_; (repeat' (first | (with_reducible exact Below.refl _ _) | (with_reducible refine belS ?_ (by first | omega | (simp; done) | (simp; omega) | (simp only [World.size_alloc, World.size_setCell, World.size_drew] at *; omega))) | (with_reducible refine belA ?_ (by first | omega | (simp; done) | (simp; omega) | (simp only [World.size_alloc, World.size_setCell, World.size_drew] at *; omega))) | (with_reducible refine bel_drewN ?_ _) | (with_reducible refine Below.drew ?_) | (with_reducible assumption) | (refine Hid.out ?_; with_reducible assumption) | (apply belV; (with_reducible assumption); exact (by first | omega | (simp; done) | (simp; omega) | (simp only [World.size_alloc, World.size_setCell, World.size_drew] at *; omega))))))⟩
  case round =>
    obtain ⟨k, hk, rfl, hal, hbel⟩ := hrel
    have z0 := hbel.out.size
    by_cases hlt : k < m
    · obtain ⟨b, off, x, y, z, rfl, hb, hx, ix, iy, iz, c0, c1, c2⟩ := (HI.out.below hbel.out).at_ hlt
      have HX := Lib.hid hx; clear hx
      cases hv : inB x 0 (n - 1)
      · have E2 := Lib.hid (netB_6 (s := s) (t := t) (by rw [HL.out]; exact hlt) HX.out (twoB_1 hv))
        go_wp2_with fail
        go_quiet ((go_at_call 90; exact q_same (spec_inRange _ _ _ _)))
        go_wp2_with fail
        go_ret
        exact ⟨ret_b E2.out.symm, by (repeat' (first | (with_reducible exact Below.refl _ _) | (with_reducible refine belS ?_ (by first | omega | (simp; done) | (simp; omega) | (simp only [World.size_alloc, World.size_setCell, World.size_drew] at *; omega))) | (with_reducible refine belA ?_ (by first | omega | (simp; done) | (simp; omega) | (simp only [World.size_alloc, World.size_setCell, World.size_drew] at *; omega))) | (with_reducible refine bel_drewN ?_ _) | (with_reducible refine Below.drew ?_) | (with_reducible assumption) | (refine Hid.out ?_; with_reducible assumption) | (apply belV; (with_reducible assumption); exact (by first | omega | (simp; done) | (simp; omega) | (simp only [World.size_alloc, World.size_setCell, World.size_drew] at *; omega)))))⟩
      cases hv2 : inB y 0 (n - 1)
      · have E2 := Lib.hid (netB_6 (s := s) (t := t) (by rw [HL.out]; exact hlt) HX.out (twoB_2 hv2))
        go_wp2_with fail
        go_quiet ((go_at_call 90; exact q_same (spec_inRange _ _ _ _)))
        go_wp2_with fail
        go_ret
        exact ⟨ret_b E2.out.symm, by (repeat' (first | (with_reducible exact Below.refl _ _) | (with_reducible refine belS ?_ (by first | omega | (simp; done) | (simp; omega) | (simp only [World.size_alloc, World.size_setCell, World.size_drew] at *; omega))) | (with_reducible refine belA ?_ (by first | omega | (simp; done) | (simp; omega) | (simp only [World.size_alloc, World.size_setCell, World.size_drew] at *; omega))) | (with_reducible refine bel_drewN ?_ _) | (with_reducible refine Below.drew ?_) | (with_reducible assumption) | (refine Hid.out ?_; with_reducible assumption) | (apply belV; (with_reducible assumption); exact (by first | omega | (simp; done) | (simp; omega) | (simp only [World.size_alloc, World.size_setCell, World.size_drew] at *; omega)))))⟩
      have hxy := twoB_3 hv hv2
      by_cases he : x = y
      · have E2 := Lib.hid (netB_6 (s := s) (t := t) (by rw [HL.out]; exact hlt) HX.out (hxy.trans (by simp [he])))
        have hd : (x == y) = true := by simp [he]
        clear he hxy
        go_wp2_with fail
        go_quiet ((go_at_call 90; exact q_same (spec_inRange _ _ _ _)))
        go_wp2_with fail
        go_ret
        exact ⟨ret_b E2.out.symm, by (repeat' (first | (with_reducible exact Below.refl _ _) | (with_reducible refine belS ?_ (by first | omega | (simp; done) | (simp; omega) | (simp only [World.size_alloc, World.size_setCell, World.size_drew] at *; omega))) | (with_reducible refine belA ?_ (by first | omega | (simp; done) | (simp; omega) | (simp only [World.size_alloc, World.size_setCell, World.size_drew] at *; omega))) | (with_reducible refine bel_drewN ?_ _) | (with_reducible refine Below.drew ?_) | (with_reducible assumption) | (refine Hid.out ?_; with_reducible assumption) | (apply belV; (with_reducible assumption); exact (by first | omega | (simp; done) | (simp; omega) | (simp only [World.size_alloc, World.size_setCell, World.size_drew] at *; omega)))))⟩
      have hd : (x == y) = false := by simp [he]
      have HXY := Lib.hid (hxy.trans (by simp [he] : (!(x == y)) = true))
      clear he hxy
      cases hv3 : inB z 0 99
      · have E2 := Lib.hid (netB_7 (n := n) (s := s) (t := t) (by rw [HL.out]; exact hlt) HX.out hv3)
        go_wp2_with fail
        go_quiet ((go_at_call 90; exact q_same (spec_inRange _ _ _ _)))
        go_wp2_with fail
        go_ret
        exact ⟨ret_b E2.out.symm, by (repeat' (first | (with_reducible exact Below.refl _ _) | (with_reducible refine belS ?_ (by first | omega | (simp; done) | (simp; omega) | (simp only [World.size_alloc, World.size_setCell, World.size_drew] at *; omega))) | (with_reducible refine belA ?_ (by first | omega | (simp; done) | (simp; omega) | (simp only [World.size_alloc, World.size_setCell, World.size_drew] at *; omega))) | (with_reducible refine bel_drewN ?_ _) | (with_reducible refine Below.drew ?_) | (with_reducible assumption) | (refine Hid.out ?_; with_reducible assumption) | (apply belV; (with_reducible assumption); exact (by first | omega | (simp; done) | (simp; omega) | (simp only [World.size_alloc, World.size_setCell, World.size_drew] at *; omega)))))⟩
      have NX := Lib.hid (arcs_yes hal.out (by rw [arcB_at HX.out, HXY.out, hv3]; rfl))
      go_wp2_with fail
      go_quiet ((go_at_call 90; exact q_same (spec_inRange _ _ _ _)))
      go_wp2_with fail
      go_roundw
      case rel => exact ⟨k + 1, by omega, by go_num, NX, by (refine Lib.hid ?_; (repeat' (first | (with_reducible exact Below.refl _ _) | (with_reducible refine belS ?_ (by first | omega | (simp; done) | (simp; omega) | (simp only [World.size_alloc, World.size_setCell, World.size_drew] at *; omega))) | (with_reducible refine belA ?_ (by first | omega | (simp; done) | (simp; omega) | (simp only [World.size_alloc, World.size_setCell, World.size_drew] at *; omega))) | (with_reducible refine bel_drewN ?_ _) | (with_reducible refine Below.drew ?_) | (with_reducible assumption) | (refine Hid.out ?_; with_reducible assumption) | (apply belV; (with_reducible assumption); exact (by first | omega | (simp; done) | (simp; omega) | (simp only [World.size_alloc, World.size_setCell, World.size_drew] at *; omega))))))⟩
      case measure => simp [intOf]; omega
    · have hke : k = ts.length := by have := HL.out; omega
      have E2 := Lib.hid (E.out k hke hal.out)
      clear hke
      go_wp2_with fail
      go_ret
      exact ⟨ret_b E2.out.symm, hbel.out⟩
end Go.Proofs.Ytjbgjljcgdligaa
