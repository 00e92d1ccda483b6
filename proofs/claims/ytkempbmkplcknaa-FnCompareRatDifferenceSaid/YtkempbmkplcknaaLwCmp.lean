/-
  The walks of the laws FnCompareRatDifference, FnMulRatAdds.
-/
import Derived.Test.YtkempbmkplcknaaLwAdd
set_option linter.unusedSimpArgs false
set_option linter.unusedVariables false
namespace Go.Proofs.Ytkempbmkplcknaa
open Go.RowKit

theorem Q.sg_min (x : Int) : Q.sg x = min 1 (max (-1) x) := by unfold Q.sg; split <;> (try split) <;> omega

set_option maxHeartbeats 4000000 in
theorem FnCompareRatDifference_walk (a : Option Addr) (len cap : Nat) (w : World) (h : By w.heap.size w a len cap) :
    Calls Try.prog 12 #[.slice a len cap] w fun e w' => e = .returned (.bool true) ∧ Below w.heap.size w w' := by
  have hl := h.1
  have hl2 := h.2.1
  unfold maxLen at hl2
  have H := Lib.hid h; clear h
  by_cases hbig : 1048576 < len
  · go_enter Try.func12, Try.ntmps12
    go_wp2_with fail
    go_ret
    exact ⟨rfl, Below.refl _ _⟩
  · go_enter Try.func12, Try.ntmps12
    go_wp2_with fail
    refine (DrawCompareRat_any w.heap.size _ _ _ _ H.out (Nat.le_refl _)).mono ?_
    rintro e w1 ⟨n, d, m, f, ⟨bn1, bn2⟩, ⟨bd1, bd2⟩, ⟨bm1, bm2⟩, ⟨bf1, bf2⟩, rfl, hb1⟩
    have hs1 := hb1.size
    clear H
    by_cases hv : Q.vr n d = true ∧ Q.vr m f = true
    · obtain ⟨ha, hb⟩ := hv
      have hr : ¬ Q.cmpR n d m f = 2 := fun h => Q.cmp_two.1 h ⟨ha, hb⟩
      have hr2 : (Q.cmpR n d m f == 2) = false := by simp [hr]
      have hd : Q.addB n d (-m) f = true → Q.cmpR n d m f = min 1 (max (-1) (Q.addN n d (-m) f)) := fun h => by rw [← Q.sg_min]; exact Q.cmp_diff h
      have HD := Lib.hid hd; clear hd
      go_wp2_with fail
      refine (impl_CompareRat _ _ _ _ _).mono ?_
      rintro e w2 ⟨rfl, hb2⟩
      obtain ⟨hc2, hf2⟩ := bcell hb2
      have h2 := belTA2 hb1 hb2
      obtain ⟨s2_0, s2_1⟩ : w1.heap.size < w2.heap.size ∧ w1.heap.size + 1 < w2.heap.size := by have := hb2.size; (first | omega | (simp at this; omega))
      go_wp2_with fail
      refine (spec_CompareRat _ _ _ _ _).mono ?_
      rintro e w3 ⟨rfl, hb3⟩
      obtain ⟨hc3, hf3⟩ := bcell hb3
      have h3 := belT h2 hb3
      obtain ⟨s3_0, s3_1⟩ : w1.heap.size < w3.heap.size ∧ w1.heap.size + 1 < w3.heap.size := by have := hb3.size; (first | omega | (simp at this; omega))
      have TA3 : Hid (Two w3 (w1.heap.size) (.int .i64 (n)) (.int .i64 (d))) := Lib.hid (Two.below (Two.below (Two.alloc (Two.new _ _ _ _) _) hb2) hb3)
      have tb2 : Two w2 (w1.heap.size + 1) (.int .i64 (m)) (.int .i64 (f)) := by simpa using (Two.new (w1.alloc (.cells #[.int .i64 n, .int .i64 d] 26)) (.int .i64 m) (.int .i64 f) 26).below hb2
      have TB3 : Hid (Two w3 (w1.heap.size + 1) (.int .i64 (m)) (.int .i64 (f))) := Lib.hid (tb2.below hb3)
      clear tb2
      have gp := h3
      cases hk : Q.addB n d (-m) f
      · go_wp2_with fail
        go_region_held3 (fun w' => w'.cell? ⟨w1.heap.size, 0, none⟩ = some (.int .i64 (n)) ∧ w'.cell? ⟨w1.heap.size, 1, none⟩ = some (.int .i64 (d)) ∧ w'.cell? ⟨w1.heap.size + 1, 0, none⟩ = some (.int .i64 (m)) ∧ w'.cell? ⟨w1.heap.size + 1, 1, none⟩ = some (.int .i64 (f))) (first | exact ⟨by assumption, by assumption⟩ | exact ⟨by assumption, by assumption, by assumption, by assumption⟩ | (refine Two.pair2 ?_ ?_ <;> (repeat' (first | exact Hid.out (by assumption) | assumption | refine Two.alloc ?_ _ | refine Two.drewN ?_ _ | refine Two.drew ?_ | refine Two.set ?_ (by omega)))))
          ((first
            | (go_at_call 24; refine (laws_negative _ _ _ (by omega) (by omega)).mono ?_; rintro e w4 ⟨rfl, hb4⟩; obtain ⟨hc4, hf4⟩ := bcell hb4; have sz4 := hb4.size; (try simp at sz4); (try have y4_0 : w3.heap.size < w4.heap.size := by omega); (try have y4_1 : w3.heap.size + 1 < w4.heap.size := by omega); have TA4 : Hid (Two w4 (w1.heap.size) (.int .i64 (n)) (.int .i64 (d))) := Lib.hid (Two.below (by (repeat' (first | exact Hid.out (by assumption) | assumption | refine Two.alloc ?_ _ | refine Two.drewN ?_ _ | refine Two.drew ?_ | refine Two.set ?_ (by omega)))) hb4); obtain ⟨c0, c1, f0, f1, z⟩ := TA4.out; clear TA3; have TB4 : Hid (Two w4 (w1.heap.size + 1) (.int .i64 (m)) (.int .i64 (f))) := Lib.hid (Two.below (by (repeat' (first | exact Hid.out (by assumption) | assumption | refine Two.alloc ?_ _ | refine Two.drewN ?_ _ | refine Two.drew ?_ | refine Two.set ?_ (by omega)))) hb4); obtain ⟨c0, c1, f0, f1, z⟩ := TB4.out; clear TB3; have g4 : Below w.heap.size w w4 := Below.trans (by (repeat' (first | exact g7 | exact g6 | exact g5 | exact g4 | exact gp | refine belS ?_ (by have := gp.size; omega) | refine belA ?_ (by have := gp.size; first | omega | (simp; omega)) | refine bel_drewN ?_ _ | refine Below.drew ?_))) (hb4.mono (by have := gp.size; first | omega | (simp; omega))))
            | (go_at_call 22; refine (impl_AddRat _ _ _ _ _).mono ?_; rintro e w5 ⟨rfl, hb5⟩; obtain ⟨hc5, hf5⟩ := bcell hb5; have sz5 := hb5.size; (try simp at sz5); (try have y5_0 : w3.heap.size < w5.heap.size := by omega); (try have y5_1 : w3.heap.size + 1 < w5.heap.size := by omega); (try have y5_2 : w4.heap.size < w5.heap.size := by omega); have TA5 : Hid (Two w5 (w1.heap.size) (.int .i64 (n)) (.int .i64 (d))) := Lib.hid (Two.below (by (repeat' (first | exact Hid.out (by assumption) | assumption | refine Two.alloc ?_ _ | refine Two.drewN ?_ _ | refine Two.drew ?_ | refine Two.set ?_ (by omega)))) hb5); obtain ⟨c0, c1, f0, f1, z⟩ := TA5.out; clear TA4; have TB5 : Hid (Two w5 (w1.heap.size + 1) (.int .i64 (m)) (.int .i64 (f))) := Lib.hid (Two.below (by (repeat' (first | exact Hid.out (by assumption) | assumption | refine Two.alloc ?_ _ | refine Two.drewN ?_ _ | refine Two.drew ?_ | refine Two.set ?_ (by omega)))) hb5); obtain ⟨c0, c1, f0, f1, z⟩ := TB5.out; clear TB4; have g5 : Below w.heap.size w w5 := Below.trans (by (repeat' (first | exact g7 | exact g6 | exact g5 | exact g4 | exact gp | refine belS ?_ (by have := gp.size; omega) | refine belA ?_ (by have := gp.size; first | omega | (simp; omega)) | refine bel_drewN ?_ _ | refine Below.drew ?_))) (hb5.mono (by have := gp.size; first | omega | (simp; omega))))))
        all_goals
          go_wp2_with fail
          go_ret
          exact ⟨rfl, by (repeat' (first | exact g7 | exact g6 | exact g5 | exact g4 | exact gp | refine belS ?_ (by have := gp.size; omega) | refine belA ?_ (by have := gp.size; first | omega | (simp; omega)) | refine bel_drewN ?_ _ | refine Below.drew ?_))⟩
      · have he := HD.out hk
        go_wp2_with fail
        go_region_held3 (fun w' => w'.cell? ⟨w1.heap.size, 0, none⟩ = some (.int .i64 (n)) ∧ w'.cell? ⟨w1.heap.size, 1, none⟩ = some (.int .i64 (d)) ∧ w'.cell? ⟨w1.heap.size + 1, 0, none⟩ = some (.int .i64 (m)) ∧ w'.cell? ⟨w1.heap.size + 1, 1, none⟩ = some (.int .i64 (f))) (first | exact ⟨by assumption, by assumption⟩ | exact ⟨by assumption, by assumption, by assumption, by assumption⟩ | (refine Two.pair2 ?_ ?_ <;> (repeat' (first | exact Hid.out (by assumption) | assumption | refine Two.alloc ?_ _ | refine Two.drewN ?_ _ | refine Two.drew ?_ | refine Two.set ?_ (by omega)))))
          ((first
            | (go_at_call 24; refine (laws_negative _ _ _ (by omega) (by omega)).mono ?_; rintro e w4 ⟨rfl, hb4⟩; obtain ⟨hc4, hf4⟩ := bcell hb4; have sz4 := hb4.size; (try simp at sz4); (try have y4_0 : w3.heap.size < w4.heap.size := by omega); (try have y4_1 : w3.heap.size + 1 < w4.heap.size := by omega); have TA4 : Hid (Two w4 (w1.heap.size) (.int .i64 (n)) (.int .i64 (d))) := Lib.hid (Two.below (by (repeat' (first | exact Hid.out (by assumption) | assumption | refine Two.alloc ?_ _ | refine Two.drewN ?_ _ | refine Two.drew ?_ | refine Two.set ?_ (by omega)))) hb4); obtain ⟨c0, c1, f0, f1, z⟩ := TA4.out; clear TA3; have TB4 : Hid (Two w4 (w1.heap.size + 1) (.int .i64 (m)) (.int .i64 (f))) := Lib.hid (Two.below (by (repeat' (first | exact Hid.out (by assumption) | assumption | refine Two.alloc ?_ _ | refine Two.drewN ?_ _ | refine Two.drew ?_ | refine Two.set ?_ (by omega)))) hb4); obtain ⟨c0, c1, f0, f1, z⟩ := TB4.out; clear TB3; have g4 : Below w.heap.size w w4 := Below.trans (by (repeat' (first | exact g7 | exact g6 | exact g5 | exact g4 | exact gp | refine belS ?_ (by have := gp.size; omega) | refine belA ?_ (by have := gp.size; first | omega | (simp; omega)) | refine bel_drewN ?_ _ | refine Below.drew ?_))) (hb4.mono (by have := gp.size; first | omega | (simp; omega))))
            | (go_at_call 22; refine (impl_AddRat _ _ _ _ _).mono ?_; rintro e w5 ⟨rfl, hb5⟩; obtain ⟨hc5, hf5⟩ := bcell hb5; have sz5 := hb5.size; (try simp at sz5); (try have y5_0 : w3.heap.size < w5.heap.size := by omega); (try have y5_1 : w3.heap.size + 1 < w5.heap.size := by omega); (try have y5_2 : w4.heap.size < w5.heap.size := by omega); have TA5 : Hid (Two w5 (w1.heap.size) (.int .i64 (n)) (.int .i64 (d))) := Lib.hid (Two.below (by (repeat' (first | exact Hid.out (by assumption) | assumption | refine Two.alloc ?_ _ | refine Two.drewN ?_ _ | refine Two.drew ?_ | refine Two.set ?_ (by omega)))) hb5); obtain ⟨c0, c1, f0, f1, z⟩ := TA5.out; clear TA4; have TB5 : Hid (Two w5 (w1.heap.size + 1) (.int .i64 (m)) (.int .i64 (f))) := Lib.hid (Two.below (by (repeat' (first | exact Hid.out (by assumption) | assumption | refine Two.alloc ?_ _ | refine Two.drewN ?_ _ | refine Two.drew ?_ | refine Two.set ?_ (by omega)))) hb5); obtain ⟨c0, c1, f0, f1, z⟩ := TB5.out; clear TB4; have g5 : Below w.heap.size w w5 := Below.trans (by (repeat' (first | exact g7 | exact g6 | exact g5 | exact g4 | exact gp | refine belS ?_ (by have := gp.size; omega) | refine belA ?_ (by have := gp.size; first | omega | (simp; omega)) | refine bel_drewN ?_ _ | refine Below.drew ?_))) (hb5.mono (by have := gp.size; first | omega | (simp; omega))))))
        all_goals
          go_wp2_with fail
          all_goals
            go_ret
            refine ⟨ret_b ?_, by (repeat' (first | exact g7 | exact g6 | exact g5 | exact g4 | exact gp | refine belS ?_ (by have := gp.size; omega) | refine belA ?_ (by have := gp.size; first | omega | (simp; omega)) | refine bel_drewN ?_ _ | refine Below.drew ?_))⟩
            rw [beq_iff_eq]
            omega
    · have hr := Q.cmp_two.2 hv
      clear hv
      go_wp2_with fail
      refine (impl_CompareRat _ _ _ _ _).mono ?_
      rintro e w2 ⟨rfl, hb2⟩
      obtain ⟨hc2, hf2⟩ := bcell hb2
      have h2 := belTA2 hb1 hb2
      obtain ⟨s2_0, s2_1⟩ : w1.heap.size < w2.heap.size ∧ w1.heap.size + 1 < w2.heap.size := by have := hb2.size; (first | omega | (simp at this; omega))
      go_wp2_with fail
      refine (spec_CompareRat _ _ _ _ _).mono ?_
      rintro e w3 ⟨rfl, hb3⟩
      obtain ⟨hc3, hf3⟩ := bcell hb3
      have h3 := belT h2 hb3
      obtain ⟨s3_0, s3_1⟩ : w1.heap.size < w3.heap.size ∧ w1.heap.size + 1 < w3.heap.size := by have := hb3.size; (first | omega | (simp at this; omega))
      go_wp2_with fail
      refine (spec_CompareRat _ _ _ _ _).mono ?_
      rintro e w4 ⟨rfl, hb4⟩
      obtain ⟨hc4, hf4⟩ := bcell hb4
      have h4 := belT h3 hb4
      have s4_0 : w1.heap.size < w4.heap.size := by have := hb4.size; (first | omega | (simp at this; omega))
      go_wp2_with fail
      go_ret
      exact ⟨rfl, h4⟩
end Go.Proofs.Ytkempbmkplcknaa
