/-
  negative and whole of the laws; the walks of the laws FnAddRatZero and FnAddRat.
-/
import Derived.Test.YtkempbmkplcknaaDrawRatC
import Derived.Deep.DeepCutAuto
set_option linter.unusedSimpArgs false
set_option linter.unusedVariables false
namespace Go.Proofs.Ytkempbmkplcknaa
open Go.RowKit

theorem laws_negative (n d : Int) (w : World) (h1 : -200000000000 ≤ n) (h2 : n ≤ 200000000000) : Calls Try.prog 24 #[.agg #[.int .i64 n, .int .i64 d]] w fun e w' => e = .returned (.agg #[.int .i64 (-n), .int .i64 d]) ∧ Below w.heap.size w w' := by
  go_enter Try.func24, Try.ntmps24
  go_wp2_with fail
  refine bodyPost_ret (v := .agg #[.int .i64 (-n), .int .i64 d]) (by simp [results, Try.results24, go_sem]) rfl ⟨rfl, ?_⟩
  (repeat' (first | exact Below.refl _ _ | exact Nat.le_refl _ | assumption | refine belS ?_ ?_ | refine belA ?_ ?_ | refine bel_drewN ?_ _ | (simp; done) | (simp; omega) | omega))
theorem laws_whole (n : Int) (w : World) : Calls Try.prog 25 #[.int .i64 n] w fun e w' => e = .returned (.agg #[.int .i64 n, .int .i64 1]) ∧ Below w.heap.size w w' := by
  go_enter Try.func25, Try.ntmps25
  go_wp2_with fail
  refine bodyPost_ret (v := .agg #[.int .i64 n, .int .i64 1]) (by simp [results, Try.results25, go_sem]) rfl ⟨rfl, ?_⟩
  (repeat' (first | exact Below.refl _ _ | exact Nat.le_refl _ | assumption | refine belS ?_ ?_ | refine belA ?_ ?_ | refine bel_drewN ?_ _ | (simp; done) | (simp; omega) | omega))

set_option maxHeartbeats 4000000 in
theorem FnAddRatZero_walk (a : Option Addr) (len cap : Nat) (w : World) (h : By w.heap.size w a len cap) :
    Calls Try.prog 7 #[.slice a len cap] w fun e w' => e = .returned (.bool true) ∧ Below w.heap.size w w' := by
  have hl := h.1
  have hl2 := h.2.1
  unfold maxLen at hl2
  have H := Lib.hid h; clear h
  by_cases hbig : 1048576 < len
  · go_enter Try.func7, Try.ntmps7
    go_wp2_with fail
    go_ret
    exact ⟨rfl, Below.refl _ _⟩
  · go_enter Try.func7, Try.ntmps7
    go_wp2_with fail
    refine (DrawAddRat_any w.heap.size _ _ _ _ H.out (Nat.le_refl _)).mono ?_
    rintro e w1 ⟨n, d, m, f, ⟨bn1, bn2⟩, ⟨bd1, bd2⟩, ⟨bm1, bm2⟩, ⟨bf1, bf2⟩, rfl, hb1⟩
    have hs1 := hb1.size
    clear H
    obtain ⟨z0, z1⟩ := Q.add_zero (an := n) (ad := d)
    have hs1' : w.heap.size ≤ w1.heap.size := hs1
    cases hv : Q.vr n d
    · rw [hv] at z0
      clear z1
      go_wp2_with fail
      refine (impl_AddRat _ _ _ _ _).mono ?_
      rintro e w2 ⟨rfl, hb2⟩
      obtain ⟨hc2, hf2⟩ := bcell hb2
      have h2 := belTA2 hb1 hb2
      obtain ⟨s2_0, s2_1⟩ : w1.heap.size < w2.heap.size ∧ w1.heap.size + 1 < w2.heap.size := by have := hb2.size; (first | omega | (simp at this; omega))
      go_wp2_with fail
      refine (spec_AddRat _ _ _ _ _).mono ?_
      rintro e w3 ⟨rfl, hb3⟩
      obtain ⟨hc3, hf3⟩ := bcell hb3
      have h3 := belTA h2 hb3
      obtain ⟨s3_0, s3_1, s3_2⟩ : w1.heap.size < w3.heap.size ∧ w1.heap.size + 1 < w3.heap.size ∧ w2.heap.size < w3.heap.size := by have := hb3.size; (first | omega | (simp at this; omega))
      have TA3 : Hid (Two w3 w1.heap.size (.int .i64 n) (.int .i64 d)) := Lib.hid (Two.below (Two.alloc (Two.below (Two.alloc (Two.new _ _ _ _) _) hb2) _) hb3)
      go_wp2_with fail
      go_region_held3 (fun w' => w'.cell? ⟨w1.heap.size, 0, none⟩ = some (.int .i64 n) ∧ w'.cell? ⟨w1.heap.size, 1, none⟩ = some (.int .i64 d)) (first | exact ⟨by assumption, by assumption⟩ | (refine Two.pair ?_; (repeat' (first | exact Hid.out (by assumption) | assumption | refine Two.alloc ?_ _ | refine Two.drewN ?_ _ | refine Two.drew ?_ | refine Two.set ?_ (by omega)))))
        ((first
          | (go_at_call 25; refine (laws_whole _ _).mono ?_; rintro e w4 ⟨rfl, hb4⟩; obtain ⟨hc4, hf4⟩ := bcell hb4; have sz4 := hb4.size; (try simp at sz4); (try have y4 : w3.heap.size + 1 < w4.heap.size := by omega); have TA4 : Hid (Two w4 w1.heap.size (.int .i64 n) (.int .i64 d)) := Lib.hid (Two.below (by (repeat' (first | exact Hid.out (by assumption) | assumption | refine Two.alloc ?_ _ | refine Two.drewN ?_ _ | refine Two.drew ?_ | refine Two.set ?_ (by omega)))) hb4); obtain ⟨c0, c1, f0, f1, z⟩ := TA4.out; clear TA3; have g4 : Below w.heap.size w w4 := Below.trans (by (repeat' (first | exact g5 | exact g4 | exact h3 | refine belS ?_ (by omega) | refine belA ?_ (by have := h3.size; first | omega | (simp; omega)) | refine bel_drewN ?_ _ | refine Below.drew ?_))) (hb4.mono (by have := h3.size; first | omega | (simp; omega))))
          | (go_at_call 22; refine (impl_AddRat _ _ _ _ _).mono ?_; rintro e w5 ⟨rfl, hb5⟩; obtain ⟨hc5, hf5⟩ := bcell hb5; have sz5 := hb5.size; (try simp at sz5); (try have y5 : w3.heap.size + 1 < w5.heap.size := by omega); (try have y5b : w4.heap.size < w5.heap.size := by omega); have TA5 : Hid (Two w5 w1.heap.size (.int .i64 n) (.int .i64 d)) := Lib.hid (Two.below (by (repeat' (first | exact Hid.out (by assumption) | assumption | refine Two.alloc ?_ _ | refine Two.drewN ?_ _ | refine Two.drew ?_ | refine Two.set ?_ (by omega)))) hb5); obtain ⟨c0, c1, f0, f1, z⟩ := TA5.out; clear TA4; have g5 : Below w.heap.size w w5 := Below.trans (by (repeat' (first | exact g5 | exact g4 | exact h3 | refine belS ?_ (by omega) | refine belA ?_ (by have := h3.size; first | omega | (simp; omega)) | refine bel_drewN ?_ _ | refine Below.drew ?_))) (hb5.mono (by have := g4.size; first | omega | (simp; omega))))))
      all_goals
        go_wp2_with fail
        refine (impl_ValidRat _ _ _).mono ?_
        rintro e w6 ⟨rfl, hb6⟩
        obtain ⟨hc6, hf6⟩ := bcell hb6
        have sz6 := hb6.size
        have TA6 : Hid (Two w6 w1.heap.size (.int .i64 n) (.int .i64 d)) := Lib.hid (Two.below (by (repeat' (first | exact Hid.out (by assumption) | assumption | refine Two.alloc ?_ _ | refine Two.drewN ?_ _ | refine Two.drew ?_ | refine Two.set ?_ (by omega)))) hb6)
        obtain ⟨c0, c1, f0, f1, z⟩ := TA6.out
        have g6 : Below w.heap.size w w6 := Below.trans (by (repeat' (first | exact g5 | exact g4 | exact h3 | refine belS ?_ (by omega) | refine belA ?_ (by have := h3.size; first | omega | (simp; omega)) | refine bel_drewN ?_ _ | refine Below.drew ?_))) (hb6.mono (by have := g5.size; first | (simp; omega) | omega))
        (try simp at sz6)
        have y5 : w5.heap.size ≤ w6.heap.size := by first | assumption | omega
        (try have y6 : w3.heap.size + 1 < w6.heap.size := by omega)
        (try have y6 : w4.heap.size < w6.heap.size := by omega)
        go_wp2_with fail
        go_ret
        exact ⟨rfl, g6⟩
    · obtain ⟨z1, z2⟩ := z1 hv
      rw [hv] at z0
      go_wp2_with fail
      refine (impl_AddRat _ _ _ _ _).mono ?_
      rintro e w2 ⟨rfl, hb2⟩
      obtain ⟨hc2, hf2⟩ := bcell hb2
      have h2 := belTA2 hb1 hb2
      obtain ⟨s2_0, s2_1⟩ : w1.heap.size < w2.heap.size ∧ w1.heap.size + 1 < w2.heap.size := by have := hb2.size; (first | omega | (simp at this; omega))
      go_wp2_with fail
      refine (spec_AddRat _ _ _ _ _).mono ?_
      rintro e w3 ⟨rfl, hb3⟩
      obtain ⟨hc3, hf3⟩ := bcell hb3
      have h3 := belTA h2 hb3
      obtain ⟨s3_0, s3_1, s3_2⟩ : w1.heap.size < w3.heap.size ∧ w1.heap.size + 1 < w3.heap.size ∧ w2.heap.size < w3.heap.size := by have := hb3.size; (first | omega | (simp at this; omega))
      have TA3 : Hid (Two w3 w1.heap.size (.int .i64 n) (.int .i64 d)) := Lib.hid (Two.below (Two.alloc (Two.below (Two.alloc (Two.new _ _ _ _) _) hb2) _) hb3)
      go_wp2_with fail
      go_region_held3 (fun w' => w'.cell? ⟨w1.heap.size, 0, none⟩ = some (.int .i64 n) ∧ w'.cell? ⟨w1.heap.size, 1, none⟩ = some (.int .i64 d)) (first | exact ⟨by assumption, by assumption⟩ | (refine Two.pair ?_; (repeat' (first | exact Hid.out (by assumption) | assumption | refine Two.alloc ?_ _ | refine Two.drewN ?_ _ | refine Two.drew ?_ | refine Two.set ?_ (by omega)))))
        ((first
          | (go_at_call 25; refine (laws_whole _ _).mono ?_; rintro e w4 ⟨rfl, hb4⟩; obtain ⟨hc4, hf4⟩ := bcell hb4; have sz4 := hb4.size; (try simp at sz4); (try have y4 : w3.heap.size + 1 < w4.heap.size := by omega); have TA4 : Hid (Two w4 w1.heap.size (.int .i64 n) (.int .i64 d)) := Lib.hid (Two.below (by (repeat' (first | exact Hid.out (by assumption) | assumption | refine Two.alloc ?_ _ | refine Two.drewN ?_ _ | refine Two.drew ?_ | refine Two.set ?_ (by omega)))) hb4); obtain ⟨c0, c1, f0, f1, z⟩ := TA4.out; clear TA3; have g4 : Below w.heap.size w w4 := Below.trans (by (repeat' (first | exact g5 | exact g4 | exact h3 | refine belS ?_ (by omega) | refine belA ?_ (by have := h3.size; first | omega | (simp; omega)) | refine bel_drewN ?_ _ | refine Below.drew ?_))) (hb4.mono (by have := h3.size; first | omega | (simp; omega))))
          | (go_at_call 22; refine (impl_AddRat _ _ _ _ _).mono ?_; rintro e w5 ⟨rfl, hb5⟩; obtain ⟨hc5, hf5⟩ := bcell hb5; have sz5 := hb5.size; (try simp at sz5); (try have y5 : w3.heap.size + 1 < w5.heap.size := by omega); (try have y5b : w4.heap.size < w5.heap.size := by omega); have TA5 : Hid (Two w5 w1.heap.size (.int .i64 n) (.int .i64 d)) := Lib.hid (Two.below (by (repeat' (first | exact Hid.out (by assumption) | assumption | refine Two.alloc ?_ _ | refine Two.drewN ?_ _ | refine Two.drew ?_ | refine Two.set ?_ (by omega)))) hb5); obtain ⟨c0, c1, f0, f1, z⟩ := TA5.out; clear TA4; have g5 : Below w.heap.size w w5 := Below.trans (by (repeat' (first | exact g5 | exact g4 | exact h3 | refine belS ?_ (by omega) | refine belA ?_ (by have := h3.size; first | omega | (simp; omega)) | refine bel_drewN ?_ _ | refine Below.drew ?_))) (hb5.mono (by have := g4.size; first | omega | (simp; omega))))))
      all_goals
        go_wp2_with fail
        refine (impl_ValidRat _ _ _).mono ?_
        rintro e w6 ⟨rfl, hb6⟩
        obtain ⟨hc6, hf6⟩ := bcell hb6
        have sz6 := hb6.size
        have TA6 : Hid (Two w6 w1.heap.size (.int .i64 n) (.int .i64 d)) := Lib.hid (Two.below (by (repeat' (first | exact Hid.out (by assumption) | assumption | refine Two.alloc ?_ _ | refine Two.drewN ?_ _ | refine Two.drew ?_ | refine Two.set ?_ (by omega)))) hb6)
        obtain ⟨c0, c1, f0, f1, z⟩ := TA6.out
        have g6 : Below w.heap.size w w6 := Below.trans (by (repeat' (first | exact g5 | exact g4 | exact h3 | refine belS ?_ (by omega) | refine belA ?_ (by have := h3.size; first | omega | (simp; omega)) | refine bel_drewN ?_ _ | refine Below.drew ?_))) (hb6.mono (by have := g5.size; first | (simp; omega) | omega))
        (try simp at sz6)
        have y5 : w5.heap.size ≤ w6.heap.size := by first | assumption | omega
        (try have y6 : w3.heap.size + 1 < w6.heap.size := by omega)
        (try have y6 : w4.heap.size < w6.heap.size := by omega)
        go_wp2_with fail
        go_ret
        exact ⟨rfl, g6⟩
end Go.Proofs.Ytkempbmkplcknaa
