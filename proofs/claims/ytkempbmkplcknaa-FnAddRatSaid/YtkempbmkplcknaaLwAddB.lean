/-
  The walk of the law FnAddRat.
-/
import Derived.Test.YtkempbmkplcknaaLwAdd
set_option linter.unusedSimpArgs false
set_option linter.unusedVariables false
namespace Go.Proofs.Ytkempbmkplcknaa
open Go.RowKit

set_option maxHeartbeats 4000000 in
theorem FnAddRat_walk (a : Option Addr) (len cap : Nat) (w : World) (h : By w.heap.size w a len cap) :
    Calls Try.prog 6 #[.slice a len cap] w fun e w' => e = .returned (.bool true) ∧ Below w.heap.size w w' := by
  have hl := h.1
  have hl2 := h.2.1
  unfold maxLen at hl2
  have H := Lib.hid h; clear h
  by_cases hbig : 1048576 < len
  · go_enter Try.func6, Try.ntmps6
    go_wp2_with fail
    go_ret
    exact ⟨rfl, Below.refl _ _⟩
  · go_enter Try.func6, Try.ntmps6
    go_wp2_with fail
    refine (DrawAddRat_any w.heap.size _ _ _ _ H.out (Nat.le_refl _)).mono ?_
    rintro e w1 ⟨n, d, m, f, ⟨bn1, bn2⟩, ⟨bd1, bd2⟩, ⟨bm1, bm2⟩, ⟨bf1, bf2⟩, rfl, hb1⟩
    have hs1 := hb1.size
    clear H
    obtain ⟨t1, t2, t3⟩ := Q.add_comm n d m f
    go_wp2_with fail
    refine (impl_AddRat _ _ _ _ _).mono ?_
    rintro e w2 ⟨rfl, hb2⟩
    obtain ⟨hc2, hf2⟩ := bcell hb2
    have h2 := belTA2 hb1 hb2
    obtain ⟨s2_0, s2_1⟩ : w1.heap.size < w2.heap.size ∧ w1.heap.size + 1 < w2.heap.size := by have := hb2.size; (first | omega | (simp at this; omega))
    go_wp2_with fail
    refine (spec_AddRat _ _ _ _ _).mono ?_
    rintro e w3 ⟨rfl, hb3⟩
    obtain ⟨hc3, hf3⟩ := bcell hb3
    have h3 := belTA h2 hb3
    obtain ⟨s3_0, s3_1, s3_2⟩ : w1.heap.size < w3.heap.size ∧ w1.heap.size + 1 < w3.heap.size ∧ w2.heap.size < w3.heap.size := by have := hb3.size; (first | omega | (simp at this; omega))
    go_wp2_with fail
    refine (impl_AddRat _ _ _ _ _).mono ?_
    rintro e w4 ⟨rfl, hb4⟩
    obtain ⟨hc4, hf4⟩ := bcell hb4
    have h4 := belTA h3 hb4
    obtain ⟨s4_0, s4_1, s4_2, s4_3⟩ : w1.heap.size < w4.heap.size ∧ w1.heap.size + 1 < w4.heap.size ∧ w2.heap.size < w4.heap.size ∧ w3.heap.size < w4.heap.size := by have := hb4.size; (first | omega | (simp at this; omega))
    rw [t1, t2, t3]
    have TA4 : Hid (Two w4 (w1.heap.size) (.int .i64 (n)) (.int .i64 (d))) := Lib.hid (Two.below (Two.alloc (Two.below (Two.alloc (Two.below (Two.alloc (Two.new _ _ _ _) _) hb2) _) hb3) _) hb4)
    have tb2 : Two w2 (w1.heap.size + 1) (.int .i64 (m)) (.int .i64 (f)) := by simpa using (Two.new (w1.alloc (.cells #[.int .i64 n, .int .i64 d] 26)) (.int .i64 m) (.int .i64 f) 26).below hb2
    have TB4 : Hid (Two w4 (w1.heap.size + 1) (.int .i64 (m)) (.int .i64 (f))) := Lib.hid (Two.below (Two.alloc (Two.below (Two.alloc tb2 _) hb3) _) hb4)
    have TC4 : Hid (Two w4 (w2.heap.size) (.int .i64 (Q.addN n d m f)) (.int .i64 (Q.addD n d m f))) := Lib.hid (Two.below (Two.alloc (Two.below (Two.new _ _ _ _) hb3) _) hb4)
    clear tb2
    have gp := h4
    cases hv : Q.addB n d m f
    · go_wp2_with fail
      go_ret
      exact ⟨rfl, belAA h4⟩
    · obtain ⟨r1, r2, r3⟩ := Q.add_back hv
      clear t1 t2 t3
      go_wp2_with fail
      go_region_held3 (fun w' => w'.cell? ⟨w2.heap.size, 0, none⟩ = some (.int .i64 (Q.addN n d m f)) ∧ w'.cell? ⟨w2.heap.size, 1, none⟩ = some (.int .i64 (Q.addD n d m f)) ∧ w'.cell? ⟨w1.heap.size + 1, 0, none⟩ = some (.int .i64 (m)) ∧ w'.cell? ⟨w1.heap.size + 1, 1, none⟩ = some (.int .i64 (f))) (first | exact ⟨by assumption, by assumption⟩ | exact ⟨by assumption, by assumption, by assumption, by assumption⟩ | (refine Two.pair2 ?_ ?_ <;> (repeat' (first | exact Hid.out (by assumption) | assumption | refine Two.alloc ?_ _ | refine Two.drewN ?_ _ | refine Two.drew ?_ | refine Two.set ?_ (by omega)))))
        ((first
          | (go_at_call 24; refine (laws_negative _ _ _ (by omega) (by omega)).mono ?_; rintro e w5 ⟨rfl, hb5⟩; obtain ⟨hc5, hf5⟩ := bcell hb5; have sz5 := hb5.size; (try simp at sz5); (try have y5_0 : w4.heap.size < w5.heap.size := by omega); (try have y5_1 : w4.heap.size + 1 < w5.heap.size := by omega); have TA5 : Hid (Two w5 (w1.heap.size) (.int .i64 (n)) (.int .i64 (d))) := Lib.hid (Two.below (by (repeat' (first | exact Hid.out (by assumption) | assumption | refine Two.alloc ?_ _ | refine Two.drewN ?_ _ | refine Two.drew ?_ | refine Two.set ?_ (by omega)))) hb5); obtain ⟨c0, c1, f0, f1, z⟩ := TA5.out; clear TA4; have TB5 : Hid (Two w5 (w1.heap.size + 1) (.int .i64 (m)) (.int .i64 (f))) := Lib.hid (Two.below (by (repeat' (first | exact Hid.out (by assumption) | assumption | refine Two.alloc ?_ _ | refine Two.drewN ?_ _ | refine Two.drew ?_ | refine Two.set ?_ (by omega)))) hb5); obtain ⟨c0, c1, f0, f1, z⟩ := TB5.out; clear TB4; have TC5 : Hid (Two w5 (w2.heap.size) (.int .i64 (Q.addN n d m f)) (.int .i64 (Q.addD n d m f))) := Lib.hid (Two.below (by (repeat' (first | exact Hid.out (by assumption) | assumption | refine Two.alloc ?_ _ | refine Two.drewN ?_ _ | refine Two.drew ?_ | refine Two.set ?_ (by omega)))) hb5); obtain ⟨c0, c1, f0, f1, z⟩ := TC5.out; clear TC4; have g5 : Below w.heap.size w w5 := Below.trans (by (repeat' (first | exact g7 | exact g6 | exact g5 | exact g4 | exact gp | refine belS ?_ (by have := gp.size; omega) | refine belA ?_ (by have := gp.size; first | omega | (simp; omega)) | refine bel_drewN ?_ _ | refine Below.drew ?_))) (hb5.mono (by have := gp.size; first | omega | (simp; omega))))
          | (go_at_call 22; refine (impl_AddRat _ _ _ _ _).mono ?_; rintro e w6 ⟨rfl, hb6⟩; obtain ⟨hc6, hf6⟩ := bcell hb6; have sz6 := hb6.size; (try simp at sz6); (try have y6_0 : w4.heap.size < w6.heap.size := by omega); (try have y6_1 : w4.heap.size + 1 < w6.heap.size := by omega); (try have y6_2 : w5.heap.size < w6.heap.size := by omega); have TA6 : Hid (Two w6 (w1.heap.size) (.int .i64 (n)) (.int .i64 (d))) := Lib.hid (Two.below (by (repeat' (first | exact Hid.out (by assumption) | assumption | refine Two.alloc ?_ _ | refine Two.drewN ?_ _ | refine Two.drew ?_ | refine Two.set ?_ (by omega)))) hb6); obtain ⟨c0, c1, f0, f1, z⟩ := TA6.out; clear TA5; have TB6 : Hid (Two w6 (w1.heap.size + 1) (.int .i64 (m)) (.int .i64 (f))) := Lib.hid (Two.below (by (repeat' (first | exact Hid.out (by assumption) | assumption | refine Two.alloc ?_ _ | refine Two.drewN ?_ _ | refine Two.drew ?_ | refine Two.set ?_ (by omega)))) hb6); obtain ⟨c0, c1, f0, f1, z⟩ := TB6.out; clear TB5; have TC6 : Hid (Two w6 (w2.heap.size) (.int .i64 (Q.addN n d m f)) (.int .i64 (Q.addD n d m f))) := Lib.hid (Two.below (by (repeat' (first | exact Hid.out (by assumption) | assumption | refine Two.alloc ?_ _ | refine Two.drewN ?_ _ | refine Two.drew ?_ | refine Two.set ?_ (by omega)))) hb6); obtain ⟨c0, c1, f0, f1, z⟩ := TC6.out; clear TC5; have g6 : Below w.heap.size w w6 := Below.trans (by (repeat' (first | exact g7 | exact g6 | exact g5 | exact g4 | exact gp | refine belS ?_ (by have := gp.size; omega) | refine belA ?_ (by have := gp.size; first | omega | (simp; omega)) | refine bel_drewN ?_ _ | refine Below.drew ?_))) (hb6.mono (by have := gp.size; first | omega | (simp; omega))))))
      all_goals
        obtain ⟨c0, c1, f0, f1, z⟩ := TA6.out
        go_wp2_with fail
        go_ret
        exact ⟨rfl, by (repeat' (first | exact g7 | exact g6 | exact g5 | exact g4 | exact gp | refine belS ?_ (by have := gp.size; omega) | refine belA ?_ (by have := gp.size; first | omega | (simp; omega)) | refine bel_drewN ?_ _ | refine Below.drew ?_))⟩
end Go.Proofs.Ytkempbmkplcknaa
