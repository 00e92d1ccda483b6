/-
  The walks of the laws FnMulRatInverse, FnCompareRat.
-/
import Derived.Test.YtkempbmkplcknaaLwAdd
set_option linter.unusedSimpArgs false
set_option linter.unusedVariables false
namespace Go.Proofs.Ytkempbmkplcknaa
open Go.RowKit

set_option maxHeartbeats 4000000 in
theorem FnMulRatInverse_walk (a : Option Addr) (len cap : Nat) (w : World) (h : By w.heap.size w a len cap) :
    Calls Try.prog 9 #[.slice a len cap] w fun e w' => e = .returned (.bool true) ∧ Below w.heap.size w w' := by
  have hl := h.1
  have hl2 := h.2.1
  unfold maxLen at hl2
  have H := Lib.hid h; clear h
  by_cases hbig : 1048576 < len
  · go_enter Try.func9, Try.ntmps9
    go_wp2_with fail
    go_ret
    exact ⟨rfl, Below.refl _ _⟩
  · go_enter Try.func9, Try.ntmps9
    go_wp2_with fail
    refine (DrawMulRat_any w.heap.size _ _ _ _ H.out (Nat.le_refl _)).mono ?_
    rintro e w1 ⟨n, d, m, f, ⟨bn1, bn2⟩, ⟨bd1, bd2⟩, ⟨bm1, bm2⟩, ⟨bf1, bf2⟩, rfl, hb1⟩
    have hs1 := hb1.size
    clear H
    cases hv : Q.vr n d
    · go_wp2_with fail
      refine (impl_MulRat _ _ _ _ _).mono ?_
      rintro e w2 ⟨rfl, hb2⟩
      obtain ⟨hc2, hf2⟩ := bcell hb2
      have h2 := belTA2 hb1 hb2
      obtain ⟨s2_0, s2_1⟩ : w1.heap.size < w2.heap.size ∧ w1.heap.size + 1 < w2.heap.size := by have := hb2.size; (first | omega | (simp at this; omega))
      go_wp2_with fail
      refine (spec_MulRat _ _ _ _ _).mono ?_
      rintro e w3 ⟨rfl, hb3⟩
      obtain ⟨hc3, hf3⟩ := bcell hb3
      have h3 := belTA h2 hb3
      obtain ⟨s3_0, s3_1, s3_2⟩ : w1.heap.size < w3.heap.size ∧ w1.heap.size + 1 < w3.heap.size ∧ w2.heap.size < w3.heap.size := by have := hb3.size; (first | omega | (simp at this; omega))
      go_wp2_with fail
      refine (impl_ValidRat _ _ _).mono ?_
      rintro e w4 ⟨rfl, hb4⟩
      obtain ⟨hc4, hf4⟩ := bcell hb4
      have h4 := belTA h3 hb4
      obtain ⟨s4_0, s4_1, s4_2, s4_3⟩ : w1.heap.size < w4.heap.size ∧ w1.heap.size + 1 < w4.heap.size ∧ w2.heap.size < w4.heap.size ∧ w3.heap.size < w4.heap.size := by have := hb4.size; (first | omega | (simp at this; omega))
      go_wp2_with fail
      go_ret
      exact ⟨rfl, h4⟩
    · by_cases hn : n = 0
      · have hn0 : (n == 0) = true := by simp [hn]
        clear hn
        go_wp2_with fail
        refine (impl_MulRat _ _ _ _ _).mono ?_
        rintro e w2 ⟨rfl, hb2⟩
        obtain ⟨hc2, hf2⟩ := bcell hb2
        have h2 := belTA2 hb1 hb2
        obtain ⟨s2_0, s2_1⟩ : w1.heap.size < w2.heap.size ∧ w1.heap.size + 1 < w2.heap.size := by have := hb2.size; (first | omega | (simp at this; omega))
        go_wp2_with fail
        refine (spec_MulRat _ _ _ _ _).mono ?_
        rintro e w3 ⟨rfl, hb3⟩
        obtain ⟨hc3, hf3⟩ := bcell hb3
        have h3 := belTA h2 hb3
        obtain ⟨s3_0, s3_1, s3_2⟩ : w1.heap.size < w3.heap.size ∧ w1.heap.size + 1 < w3.heap.size ∧ w2.heap.size < w3.heap.size := by have := hb3.size; (first | omega | (simp at this; omega))
        go_wp2_with fail
        refine (impl_ValidRat _ _ _).mono ?_
        rintro e w4 ⟨rfl, hb4⟩
        obtain ⟨hc4, hf4⟩ := bcell hb4
        have h4 := belTA h3 hb4
        obtain ⟨s4_0, s4_1, s4_2, s4_3⟩ : w1.heap.size < w4.heap.size ∧ w1.heap.size + 1 < w4.heap.size ∧ w2.heap.size < w4.heap.size ∧ w3.heap.size < w4.heap.size := by have := hb4.size; (first | omega | (simp at this; omega))
        go_wp2_with fail
        go_ret
        exact ⟨rfl, h4⟩
      · have hn0 : (n == 0) = false := by simp [hn]
        clear hn
        cases hk : Q.mkB d n
        · go_wp2_with fail
          refine (impl_MulRat _ _ _ _ _).mono ?_
          rintro e w2 ⟨rfl, hb2⟩
          obtain ⟨hc2, hf2⟩ := bcell hb2
          have h2 := belTA2 hb1 hb2
          obtain ⟨s2_0, s2_1⟩ : w1.heap.size < w2.heap.size ∧ w1.heap.size + 1 < w2.heap.size := by have := hb2.size; (first | omega | (simp at this; omega))
          go_wp2_with fail
          refine (spec_MulRat _ _ _ _ _).mono ?_
          rintro e w3 ⟨rfl, hb3⟩
          obtain ⟨hc3, hf3⟩ := bcell hb3
          have h3 := belTA h2 hb3
          obtain ⟨s3_0, s3_1, s3_2⟩ : w1.heap.size < w3.heap.size ∧ w1.heap.size + 1 < w3.heap.size ∧ w2.heap.size < w3.heap.size := by have := hb3.size; (first | omega | (simp at this; omega))
          go_wp2_with fail
          refine (impl_ValidRat _ _ _).mono ?_
          rintro e w4 ⟨rfl, hb4⟩
          obtain ⟨hc4, hf4⟩ := bcell hb4
          have h4 := belTA h3 hb4
          obtain ⟨s4_0, s4_1, s4_2, s4_3⟩ : w1.heap.size < w4.heap.size ∧ w1.heap.size + 1 < w4.heap.size ∧ w2.heap.size < w4.heap.size ∧ w3.heap.size < w4.heap.size := by have := hb4.size; (first | omega | (simp at this; omega))
          go_wp2_with fail
          refine (impl_MakeRat _ _ _).mono ?_
          rintro e w5 ⟨rfl, hb5⟩
          obtain ⟨hc5, hf5⟩ := bcell hb5
          have h5 := belT h4 hb5
          obtain ⟨s5_0, s5_1, s5_2, s5_3⟩ : w1.heap.size < w5.heap.size ∧ w1.heap.size + 1 < w5.heap.size ∧ w2.heap.size < w5.heap.size ∧ w3.heap.size < w5.heap.size := by have := hb5.size; (first | omega | (simp at this; omega))
          go_wp2_with fail
          go_ret
          exact ⟨rfl, belAA h5⟩
        · obtain ⟨e1, e2, e3⟩ := Q.mul_inv hv hk
          go_wp2_with fail
          refine (impl_MulRat _ _ _ _ _).mono ?_
          rintro e w2 ⟨rfl, hb2⟩
          obtain ⟨hc2, hf2⟩ := bcell hb2
          have h2 := belTA2 hb1 hb2
          obtain ⟨s2_0, s2_1⟩ : w1.heap.size < w2.heap.size ∧ w1.heap.size + 1 < w2.heap.size := by have := hb2.size; (first | omega | (simp at this; omega))
          go_wp2_with fail
          refine (spec_MulRat _ _ _ _ _).mono ?_
          rintro e w3 ⟨rfl, hb3⟩
          obtain ⟨hc3, hf3⟩ := bcell hb3
          have h3 := belTA h2 hb3
          obtain ⟨s3_0, s3_1, s3_2⟩ : w1.heap.size < w3.heap.size ∧ w1.heap.size + 1 < w3.heap.size ∧ w2.heap.size < w3.heap.size := by have := hb3.size; (first | omega | (simp at this; omega))
          go_wp2_with fail
          refine (impl_ValidRat _ _ _).mono ?_
          rintro e w4 ⟨rfl, hb4⟩
          obtain ⟨hc4, hf4⟩ := bcell hb4
          have h4 := belTA h3 hb4
          obtain ⟨s4_0, s4_1, s4_2, s4_3⟩ : w1.heap.size < w4.heap.size ∧ w1.heap.size + 1 < w4.heap.size ∧ w2.heap.size < w4.heap.size ∧ w3.heap.size < w4.heap.size := by have := hb4.size; (first | omega | (simp at this; omega))
          go_wp2_with fail
          refine (impl_MakeRat _ _ _).mono ?_
          rintro e w5 ⟨rfl, hb5⟩
          obtain ⟨hc5, hf5⟩ := bcell hb5
          have h5 := belT h4 hb5
          obtain ⟨s5_0, s5_1, s5_2, s5_3⟩ : w1.heap.size < w5.heap.size ∧ w1.heap.size + 1 < w5.heap.size ∧ w2.heap.size < w5.heap.size ∧ w3.heap.size < w5.heap.size := by have := hb5.size; (first | omega | (simp at this; omega))
          go_wp2_with fail
          refine (impl_MulRat _ _ _ _ _).mono ?_
          rintro e w6 ⟨rfl, hb6⟩
          obtain ⟨hc6, hf6⟩ := bcell hb6
          have h6 := belTA h5 hb6
          have s6_0 : w1.heap.size < w6.heap.size := by have := hb6.size; (first | omega | (simp at this; omega))
          have TY6 : Hid (Two (w6.alloc (.cells #[.int .i64 1, .int .i64 1] 26)) w6.heap.size (.int .i64 1) (.int .i64 1)) := Lib.hid (Two.new _ _ _ _)
          have gp := h6
          go_wp2_with fail
          go_region_held3 (fun w' => w'.cell? ⟨w6.heap.size, 0, none⟩ = some (.int .i64 (1)) ∧ w'.cell? ⟨w6.heap.size, 1, none⟩ = some (.int .i64 (1))) (first | exact ⟨by assumption, by assumption⟩ | exact ⟨by assumption, by assumption, by assumption, by assumption⟩ | (refine Two.pair ?_; (repeat' (first | exact Hid.out (by assumption) | assumption | refine Two.alloc ?_ _ | refine Two.drewN ?_ _ | refine Two.drew ?_ | refine Two.set ?_ (by omega)))))
            ((first
              | (go_at_call 25; refine (laws_whole _ _).mono ?_; rintro e w7 ⟨rfl, hb7⟩; obtain ⟨hc7, hf7⟩ := bcell hb7; have sz7 := hb7.size; (try simp at sz7); have TY7 : Hid (Two w7 (w6.heap.size) (.int .i64 (1)) (.int .i64 (1))) := Lib.hid (Two.below (by (repeat' (first | exact Hid.out (by assumption) | assumption | refine Two.alloc ?_ _ | refine Two.drewN ?_ _ | refine Two.drew ?_ | refine Two.set ?_ (by omega)))) hb7); obtain ⟨c0, c1, f0, f1, z⟩ := TY7.out; clear TY6; have g7 : Below w.heap.size w w7 := Below.trans (by (repeat' (first | exact g7 | exact g6 | exact g5 | exact g4 | exact gp | refine belS ?_ (by have := gp.size; omega) | refine belA ?_ (by have := gp.size; first | omega | (simp; omega)) | refine bel_drewN ?_ _ | refine Below.drew ?_))) (hb7.mono (by have := gp.size; first | omega | (simp; omega))))))
          all_goals
            go_wp2_with fail
            go_ret
            exact ⟨rfl, g7⟩

set_option maxHeartbeats 4000000 in
theorem FnCompareRat_walk (a : Option Addr) (len cap : Nat) (w : World) (h : By w.heap.size w a len cap) :
    Calls Try.prog 11 #[.slice a len cap] w fun e w' => e = .returned (.bool true) ∧ Below w.heap.size w w' := by
  have hl := h.1
  have hl2 := h.2.1
  unfold maxLen at hl2
  have H := Lib.hid h; clear h
  by_cases hbig : 1048576 < len
  · go_enter Try.func11, Try.ntmps11
    go_wp2_with fail
    go_ret
    exact ⟨rfl, Below.refl _ _⟩
  · go_enter Try.func11, Try.ntmps11
    go_wp2_with fail
    refine (DrawCompareRat_any w.heap.size _ _ _ _ H.out (Nat.le_refl _)).mono ?_
    rintro e w1 ⟨n, d, m, f, ⟨bn1, bn2⟩, ⟨bd1, bd2⟩, ⟨bm1, bm2⟩, ⟨bf1, bf2⟩, rfl, hb1⟩
    have hs1 := hb1.size
    clear H
    by_cases hv : Q.vr n d = true ∧ Q.vr m f = true
    · obtain ⟨ha, hb⟩ := hv
      have e2 := Q.cmp_swap ha hb
      have e3 : Q.cmpR n d n d = 0 := by have := Q.cmp_swap ha ha; omega
      rcases Q.cmp_tri ha hb with ⟨rfl, rfl, hr⟩ | ⟨hne, -, hr⟩ | ⟨hne, -, hr⟩
      · clear e2
        go_wp2_with fail
        refine (impl_CompareRat _ _ _ _ _).mono ?_
        rintro e w2 ⟨rfl, hb2⟩
        obtain ⟨hc2, hf2⟩ := bcell hb2
        have h2 := belTA2 hb1 hb2
        obtain ⟨s2_0, s2_1⟩ : w1.heap.size < w2.heap.size ∧ w1.heap.size + 1 < w2.heap.size := by have := hb2.size; (first | omega | (simp at this; omega))
        go_wp2_with fail
        refine (spec_CompareRat _ _ _ _ _).mono ?_
        rintro e w3 ⟨rfl, hb3⟩
        obtain ⟨hc3, hf3⟩ := bcell hb3
        have h3 := belT h2 hb3
        obtain ⟨s3_0, s3_1⟩ : w1.heap.size < w3.heap.size ∧ w1.heap.size + 1 < w3.heap.size := by have := hb3.size; (first | omega | (simp at this; omega))
        go_wp2_with fail
        refine (impl_CompareRat _ _ _ _ _).mono ?_
        rintro e w4 ⟨rfl, hb4⟩
        obtain ⟨hc4, hf4⟩ := bcell hb4
        have h4 := belT h3 hb4
        obtain ⟨s4_0, s4_1⟩ : w1.heap.size < w4.heap.size ∧ w1.heap.size + 1 < w4.heap.size := by have := hb4.size; (first | omega | (simp at this; omega))
        go_wp2_with fail
        refine (impl_CompareRat _ _ _ _ _).mono ?_
        rintro e w5 ⟨rfl, hb5⟩
        obtain ⟨hc5, hf5⟩ := bcell hb5
        have h5 := belT h4 hb5
        obtain ⟨s5_0, s5_1⟩ : w1.heap.size < w5.heap.size ∧ w1.heap.size + 1 < w5.heap.size := by have := hb5.size; (first | omega | (simp at this; omega))
        go_wp2_with fail
        go_ret
        exact ⟨rfl, h5⟩
      · rw [hr] at e2
        simp only [Int.neg_neg] at e2
        by_cases e1 : n = m
        · subst e1
          have e4 : ¬ d = f := fun h => hne ⟨rfl, h⟩
          clear hne
          go_wp2_with fail
          refine (impl_CompareRat _ _ _ _ _).mono ?_
          rintro e w2 ⟨rfl, hb2⟩
          obtain ⟨hc2, hf2⟩ := bcell hb2
          have h2 := belTA2 hb1 hb2
          obtain ⟨s2_0, s2_1⟩ : w1.heap.size < w2.heap.size ∧ w1.heap.size + 1 < w2.heap.size := by have := hb2.size; (first | omega | (simp at this; omega))
          go_wp2_with fail
          refine (spec_CompareRat _ _ _ _ _).mono ?_
          rintro e w3 ⟨rfl, hb3⟩
          obtain ⟨hc3, hf3⟩ := bcell hb3
          have h3 := belT h2 hb3
          obtain ⟨s3_0, s3_1⟩ : w1.heap.size < w3.heap.size ∧ w1.heap.size + 1 < w3.heap.size := by have := hb3.size; (first | omega | (simp at this; omega))
          go_wp2_with fail
          refine (impl_CompareRat _ _ _ _ _).mono ?_
          rintro e w4 ⟨rfl, hb4⟩
          obtain ⟨hc4, hf4⟩ := bcell hb4
          have h4 := belT h3 hb4
          obtain ⟨s4_0, s4_1⟩ : w1.heap.size < w4.heap.size ∧ w1.heap.size + 1 < w4.heap.size := by have := hb4.size; (first | omega | (simp at this; omega))
          go_wp2_with fail
          refine (impl_CompareRat _ _ _ _ _).mono ?_
          rintro e w5 ⟨rfl, hb5⟩
          obtain ⟨hc5, hf5⟩ := bcell hb5
          have h5 := belT h4 hb5
          obtain ⟨s5_0, s5_1⟩ : w1.heap.size < w5.heap.size ∧ w1.heap.size + 1 < w5.heap.size := by have := hb5.size; (first | omega | (simp at this; omega))
          go_wp2_with fail
          go_ret
          exact ⟨rfl, h5⟩
        · clear hne
          go_wp2_with fail
          refine (impl_CompareRat _ _ _ _ _).mono ?_
          rintro e w2 ⟨rfl, hb2⟩
          obtain ⟨hc2, hf2⟩ := bcell hb2
          have h2 := belTA2 hb1 hb2
          obtain ⟨s2_0, s2_1⟩ : w1.heap.size < w2.heap.size ∧ w1.heap.size + 1 < w2.heap.size := by have := hb2.size; (first | omega | (simp at this; omega))
          go_wp2_with fail
          refine (spec_CompareRat _ _ _ _ _).mono ?_
          rintro e w3 ⟨rfl, hb3⟩
          obtain ⟨hc3, hf3⟩ := bcell hb3
          have h3 := belT h2 hb3
          obtain ⟨s3_0, s3_1⟩ : w1.heap.size < w3.heap.size ∧ w1.heap.size + 1 < w3.heap.size := by have := hb3.size; (first | omega | (simp at this; omega))
          go_wp2_with fail
          refine (impl_CompareRat _ _ _ _ _).mono ?_
          rintro e w4 ⟨rfl, hb4⟩
          obtain ⟨hc4, hf4⟩ := bcell hb4
          have h4 := belT h3 hb4
          obtain ⟨s4_0, s4_1⟩ : w1.heap.size < w4.heap.size ∧ w1.heap.size + 1 < w4.heap.size := by have := hb4.size; (first | omega | (simp at this; omega))
          go_wp2_with fail
          refine (impl_CompareRat _ _ _ _ _).mono ?_
          rintro e w5 ⟨rfl, hb5⟩
          obtain ⟨hc5, hf5⟩ := bcell hb5
          have h5 := belT h4 hb5
          obtain ⟨s5_0, s5_1⟩ : w1.heap.size < w5.heap.size ∧ w1.heap.size + 1 < w5.heap.size := by have := hb5.size; (first | omega | (simp at this; omega))
          go_wp2_with fail
          go_ret
          exact ⟨rfl, h5⟩
      · rw [hr] at e2
        by_cases e1 : n = m
        · subst e1
          have e4 : ¬ d = f := fun h => hne ⟨rfl, h⟩
          clear hne
          go_wp2_with fail
          refine (impl_CompareRat _ _ _ _ _).mono ?_
          rintro e w2 ⟨rfl, hb2⟩
          obtain ⟨hc2, hf2⟩ := bcell hb2
          have h2 := belTA2 hb1 hb2
          obtain ⟨s2_0, s2_1⟩ : w1.heap.size < w2.heap.size ∧ w1.heap.size + 1 < w2.heap.size := by have := hb2.size; (first | omega | (simp at this; omega))
          go_wp2_with fail
          refine (spec_CompareRat _ _ _ _ _).mono ?_
          rintro e w3 ⟨rfl, hb3⟩
          obtain ⟨hc3, hf3⟩ := bcell hb3
          have h3 := belT h2 hb3
          obtain ⟨s3_0, s3_1⟩ : w1.heap.size < w3.heap.size ∧ w1.heap.size + 1 < w3.heap.size := by have := hb3.size; (first | omega | (simp at this; omega))
          go_wp2_with fail
          refine (impl_CompareRat _ _ _ _ _).mono ?_
          rintro e w4 ⟨rfl, hb4⟩
          obtain ⟨hc4, hf4⟩ := bcell hb4
          have h4 := belT h3 hb4
          obtain ⟨s4_0, s4_1⟩ : w1.heap.size < w4.heap.size ∧ w1.heap.size + 1 < w4.heap.size := by have := hb4.size; (first | omega | (simp at this; omega))
          go_wp2_with fail
          refine (impl_CompareRat _ _ _ _ _).mono ?_
          rintro e w5 ⟨rfl, hb5⟩
          obtain ⟨hc5, hf5⟩ := bcell hb5
          have h5 := belT h4 hb5
          obtain ⟨s5_0, s5_1⟩ : w1.heap.size < w5.heap.size ∧ w1.heap.size + 1 < w5.heap.size := by have := hb5.size; (first | omega | (simp at this; omega))
          go_wp2_with fail
          go_ret
          exact ⟨rfl, h5⟩
        · clear hne
          go_wp2_with fail
          refine (impl_CompareRat _ _ _ _ _).mono ?_
          rintro e w2 ⟨rfl, hb2⟩
          obtain ⟨hc2, hf2⟩ := bcell hb2
          have h2 := belTA2 hb1 hb2
          obtain ⟨s2_0, s2_1⟩ : w1.heap.size < w2.heap.size ∧ w1.heap.size + 1 < w2.heap.size := by have := hb2.size; (first | omega | (simp at this; omega))
          go_wp2_with fail
          refine (spec_CompareRat _ _ _ _ _).mono ?_
          rintro e w3 ⟨rfl, hb3⟩
          obtain ⟨hc3, hf3⟩ := bcell hb3
          have h3 := belT h2 hb3
          obtain ⟨s3_0, s3_1⟩ : w1.heap.size < w3.heap.size ∧ w1.heap.size + 1 < w3.heap.size := by have := hb3.size; (first | omega | (simp at this; omega))
          go_wp2_with fail
          refine (impl_CompareRat _ _ _ _ _).mono ?_
          rintro e w4 ⟨rfl, hb4⟩
          obtain ⟨hc4, hf4⟩ := bcell hb4
          have h4 := belT h3 hb4
          obtain ⟨s4_0, s4_1⟩ : w1.heap.size < w4.heap.size ∧ w1.heap.size + 1 < w4.heap.size := by have := hb4.size; (first | omega | (simp at this; omega))
          go_wp2_with fail
          refine (impl_CompareRat _ _ _ _ _).mono ?_
          rintro e w5 ⟨rfl, hb5⟩
          obtain ⟨hc5, hf5⟩ := bcell hb5
          have h5 := belT h4 hb5
          obtain ⟨s5_0, s5_1⟩ : w1.heap.size < w5.heap.size ∧ w1.heap.size + 1 < w5.heap.size := by have := hb5.size; (first | omega | (simp at this; omega))
          go_wp2_with fail
          go_ret
          exact ⟨rfl, h5⟩
    · have hr := Q.cmp_two.2 hv
      clear hv
      go_wp2_with fail
      refine (impl_CompareRat _ _ _ _ _).mono ?_
      rintro e w2 ⟨rfl, hb2⟩
      obtain ⟨hc2, hf2⟩ := bcell hb2
      have h2 := belTA2 hb1 hb2
      obtain ⟨s2_0, s2_1⟩ : w1.heap.size < w2.heap.size ∧ w1.heap.size + 1 < w2.heap.size := by have := hb2.size; (first | omega | (simp at this; omega))
      go_wp2_with fail
      refine (spec_CompareRat _ _ _ _ _).mono ?_
      rintro e w3 ⟨rfl, hb3⟩
      obtain ⟨hc3, hf3⟩ := bcell hb3
      have h3 := belT h2 hb3
      obtain ⟨s3_0, s3_1⟩ : w1.heap.size < w3.heap.size ∧ w1.heap.size + 1 < w3.heap.size := by have := hb3.size; (first | omega | (simp at this; omega))
      go_wp2_with fail
      refine (spec_CompareRat _ _ _ _ _).mono ?_
      rintro e w4 ⟨rfl, hb4⟩
      obtain ⟨hc4, hf4⟩ := bcell hb4
      have h4 := belT h3 hb4
      have s4_0 : w1.heap.size < w4.heap.size := by have := hb4.size; (first | omega | (simp at this; omega))
      go_wp2_with fail
      go_ret
      exact ⟨rfl, h4⟩
end Go.Proofs.Ytkempbmkplcknaa
