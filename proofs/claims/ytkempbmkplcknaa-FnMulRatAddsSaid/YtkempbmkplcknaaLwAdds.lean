/-
  The walk of the law FnMulRatAdds.
-/
import Derived.Test.YtkempbmkplcknaaLwAdd
set_option linter.unusedSimpArgs false
set_option linter.unusedVariables false
namespace Go.Proofs.Ytkempbmkplcknaa
open Go.RowKit

/-- What stands behind 'b + 1': the sum in a block of its own, a and the product as they were. -/
def CutS (w w1 w2 : World) (n d m f : Int) (s9 s10 : Value) (wx : World) : Prop :=
  ∃ g : Nat, s9 = .pointer (some ⟨g, 0, none⟩) ∧ s10 = .bool (Q.addB m f 1 1) ∧ Two wx g (.int .i64 (Q.addN m f 1 1)) (.int .i64 (Q.addD m f 1 1)) ∧ Two wx w1.heap.size (.int .i64 n) (.int .i64 d) ∧ Two wx w2.heap.size (.int .i64 (Q.mulN n d m f)) (.int .i64 (Q.mulD n d m f)) ∧ Below w.heap.size w wx

set_option maxRecDepth 100000 in
set_option maxHeartbeats 4000000 in
theorem FnMulRatAdds_walk (a : Option Addr) (len cap : Nat) (w : World) (h : By w.heap.size w a len cap) :
    Calls Try.prog 10 #[.slice a len cap] w fun e w' => e = .returned (.bool true) ∧ Below w.heap.size w w' := by
  have hl := h.1
  have hl2 := h.2.1
  unfold maxLen at hl2
  have H := Lib.hid h; clear h
  by_cases hbig : 1048576 < len
  · go_enter Try.func10, Try.ntmps10
    go_wp2_with fail
    go_ret
    exact ⟨rfl, Below.refl _ _⟩
  · go_enter Try.func10, Try.ntmps10
    go_wp2_with fail
    refine (DrawMulRat_any w.heap.size _ _ _ _ H.out (Nat.le_refl _)).mono ?_
    rintro e w1 ⟨n, d, m, f, ⟨bn1, bn2⟩, ⟨bd1, bd2⟩, ⟨bm1, bm2⟩, ⟨bf1, bf2⟩, rfl, hb1⟩
    have hs1 := hb1.size
    clear H
    cases hv : Q.mulB n d m f
    · go_wp2_with fail
      refine (impl_MulRat _ _ _ _ _).mono ?_
      rintro e w2 ⟨rfl, hb2⟩
      obtain ⟨hc2, hf2⟩ := bcell hb2
      have h2 := belTA2 hb1 hb2
      obtain ⟨s2_0, s2_1⟩ : w1.heap.size < w2.heap.size ∧ w1.heap.size + 1 < w2.heap.size := by have := hb2.size; (first | omega | (simp at this; omega))
      go_wp2_with fail
      refine (spec_MulRat _ _ _ _ _).mono ?_
      rintro e w3 ⟨rfl, hb3⟩
      obtain ⟨hc3, hf3⟩ := bcell hb3
      have h3 := belTA h2 hb3
      obtain ⟨s3_0, s3_1, s3_2⟩ : w1.heap.size < w3.heap.size ∧ w1.heap.size + 1 < w3.heap.size ∧ w2.heap.size < w3.heap.size := by have := hb3.size; (first | omega | (simp at this; omega))
      go_wp2_with fail
      go_ret
      exact ⟨rfl, belAA h3⟩
    · have hadd := Q.mul_adds (an := n) (ad := d) (bn := m) (bd := f) hv
      have HADD := Lib.hid hadd; clear hadd
      go_wp2_with fail
      refine (impl_MulRat _ _ _ _ _).mono ?_
      rintro e w2 ⟨rfl, hb2⟩
      obtain ⟨hc2, hf2⟩ := bcell hb2
      have h2 := belTA2 hb1 hb2
      obtain ⟨s2_0, s2_1⟩ : w1.heap.size < w2.heap.size ∧ w1.heap.size + 1 < w2.heap.size := by have := hb2.size; (first | omega | (simp at this; omega))
      go_wp2_with fail
      refine (spec_MulRat _ _ _ _ _).mono ?_
      rintro e w3 ⟨rfl, hb3⟩
      obtain ⟨hc3, hf3⟩ := bcell hb3
      have h3 := belTA h2 hb3
      obtain ⟨s3_0, s3_1, s3_2⟩ : w1.heap.size < w3.heap.size ∧ w1.heap.size + 1 < w3.heap.size ∧ w2.heap.size < w3.heap.size := by have := hb3.size; (first | omega | (simp at this; omega))
      have TA3 : Hid (Two w3 (w1.heap.size) (.int .i64 (n)) (.int .i64 (d))) := Lib.hid (Two.below (Two.alloc (Two.below (Two.alloc (Two.new _ _ _ _) _) hb2) _) hb3)
      have tb2 : Two w2 (w1.heap.size + 1) (.int .i64 (m)) (.int .i64 (f)) := by simpa using (Two.new (w1.alloc (.cells #[.int .i64 n, .int .i64 d] 26)) (.int .i64 m) (.int .i64 f) 26).below hb2
      have TB3 : Hid (Two w3 (w1.heap.size + 1) (.int .i64 (m)) (.int .i64 (f))) := Lib.hid (Two.below (Two.alloc tb2 _) hb3)
      have TC3 : Hid (Two w3 (w2.heap.size) (.int .i64 (Q.mulN n d m f)) (.int .i64 (Q.mulD n d m f))) := Lib.hid (Two.below (Two.new _ _ _ _) hb3)
      clear tb2
      have HB3 := Lib.hid h3
      have q3 := h3.size
      have q12 := hb2.size
      have q23 := hb3.size
      simp at q12 q23
      go_upto_region 8 with fail
      go_cut [9, 10] (fun s9 s10 wx => CutS w w1 w2 n d m f s9 s10 wx)
      case first =>
        clear h2 h3 hb1
        go_region_held3 (fun w' => w'.cell? ⟨w1.heap.size + 1, 0, none⟩ = some (.int .i64 (m)) ∧ w'.cell? ⟨w1.heap.size + 1, 1, none⟩ = some (.int .i64 (f))) (first | exact ⟨by assumption, by assumption⟩ | (refine Two.pair ?_; (repeat' (first | exact Hid.out (by assumption) | assumption | refine Two.alloc ?_ _ | refine Two.drewN ?_ _ | refine Two.drew ?_ | refine Two.set ?_ (by omega)))))
          ((first
            | (go_at_call 25; refine (laws_whole _ _).mono ?_; rintro e w4 ⟨rfl, hb4⟩; obtain ⟨hc4, hf4⟩ := bcell hb4; have sz4 := hb4.size; (try simp at sz4); (try have y4_0 : w3.heap.size < w4.heap.size := by omega); (try have y4_1 : w3.heap.size + 1 < w4.heap.size := by omega); have TA4 : Hid (Two w4 (w1.heap.size) (.int .i64 (n)) (.int .i64 (d))) := Lib.hid (Two.below (by (repeat' (first | exact Hid.out (by assumption) | assumption | refine Two.alloc ?_ _ | refine Two.drewN ?_ _ | refine Two.drew ?_ | refine Two.set ?_ (by omega)))) hb4); obtain ⟨c0, c1, f0, f1, z⟩ := TA4.out; have TB4 : Hid (Two w4 (w1.heap.size + 1) (.int .i64 (m)) (.int .i64 (f))) := Lib.hid (Two.below (by (repeat' (first | exact Hid.out (by assumption) | assumption | refine Two.alloc ?_ _ | refine Two.drewN ?_ _ | refine Two.drew ?_ | refine Two.set ?_ (by omega)))) hb4); obtain ⟨c0, c1, f0, f1, z⟩ := TB4.out; have TC4 : Hid (Two w4 (w2.heap.size) (.int .i64 (Q.mulN n d m f)) (.int .i64 (Q.mulD n d m f))) := Lib.hid (Two.below (by (repeat' (first | exact Hid.out (by assumption) | assumption | refine Two.alloc ?_ _ | refine Two.drewN ?_ _ | refine Two.drew ?_ | refine Two.set ?_ (by omega)))) hb4); obtain ⟨c0, c1, f0, f1, z⟩ := TC4.out; have g4 : Hid (Below w.heap.size w w4) := Lib.hid (Below.trans (by (repeat' (first | exact Below.refl _ _ | exact Hid.out (by assumption) | refine belS ?_ (by omega) | refine belA ?_ (by omega) | refine belA ?_ (by simp; omega) | refine belA ?_ (by simp) | refine bel_drewN ?_ _ | refine Below.drew ?_))) (hb4.mono (by first | omega | (simp; omega) | (simp; done)))))
            | (go_at_call 22; refine (impl_AddRat _ _ _ _ _).mono ?_; rintro e w5 ⟨rfl, hb5⟩; obtain ⟨hc5, hf5⟩ := bcell hb5; have sz5 := hb5.size; (try simp at sz5); (try have y5_0 : w3.heap.size < w5.heap.size := by omega); (try have y5_1 : w3.heap.size + 1 < w5.heap.size := by omega); (try have y5_2 : w4.heap.size < w5.heap.size := by omega); have TA5 : Hid (Two w5 (w1.heap.size) (.int .i64 (n)) (.int .i64 (d))) := Lib.hid (Two.below (by (repeat' (first | exact Hid.out (by assumption) | assumption | refine Two.alloc ?_ _ | refine Two.drewN ?_ _ | refine Two.drew ?_ | refine Two.set ?_ (by omega)))) hb5); obtain ⟨c0, c1, f0, f1, z⟩ := TA5.out; have TB5 : Hid (Two w5 (w1.heap.size + 1) (.int .i64 (m)) (.int .i64 (f))) := Lib.hid (Two.below (by (repeat' (first | exact Hid.out (by assumption) | assumption | refine Two.alloc ?_ _ | refine Two.drewN ?_ _ | refine Two.drew ?_ | refine Two.set ?_ (by omega)))) hb5); obtain ⟨c0, c1, f0, f1, z⟩ := TB5.out; have TC5 : Hid (Two w5 (w2.heap.size) (.int .i64 (Q.mulN n d m f)) (.int .i64 (Q.mulD n d m f))) := Lib.hid (Two.below (by (repeat' (first | exact Hid.out (by assumption) | assumption | refine Two.alloc ?_ _ | refine Two.drewN ?_ _ | refine Two.drew ?_ | refine Two.set ?_ (by omega)))) hb5); obtain ⟨c0, c1, f0, f1, z⟩ := TC5.out; have g5 : Hid (Below w.heap.size w w5) := Lib.hid (Below.trans (by (repeat' (first | exact Below.refl _ _ | exact Hid.out (by assumption) | refine belS ?_ (by omega) | refine belA ?_ (by omega) | refine belA ?_ (by simp; omega) | refine belA ?_ (by simp) | refine bel_drewN ?_ _ | refine Below.drew ?_))) (hb5.mono (by first | omega | (simp; omega) | (simp; done)))))))
        all_goals
          go_wp2_with fail
          go_meet
          refine ⟨_, rfl, rfl, ?_, ?_, ?_, ?_⟩
          · first
              | exact Two.new _ _ _ _
              | (refine ⟨?_, ?_, ?_, ?_, ?_⟩ <;> (first | (simp [go_sem, *]; done) | (simp [World.setCell]; omega)))
          · clear TA3 TA4
            (repeat' (first | exact Hid.out (by assumption) | assumption | refine Two.alloc ?_ _ | refine Two.drewN ?_ _ | refine Two.drew ?_ | refine Two.set ?_ (by omega)))
          · clear TC3 TC4
            (repeat' (first | exact Hid.out (by assumption) | assumption | refine Two.alloc ?_ _ | refine Two.drewN ?_ _ | refine Two.drew ?_ | refine Two.set ?_ (by omega)))
          · clear g4 HB3
            (repeat' (first | exact Below.refl _ _ | exact Hid.out (by assumption) | refine belS ?_ (by omega) | refine belA ?_ (by omega) | refine belA ?_ (by simp; omega) | refine belA ?_ (by simp) | refine bel_drewN ?_ _ | refine Below.drew ?_))
      case rest =>
        obtain ⟨g, rfl, rfl, tg, ta, tc, hbel⟩ := hcut
        have TA := Lib.hid ta
        have TC := Lib.hid tc
        have HB := Lib.hid hbel
        have szc := hbel.size
        obtain ⟨a0, a1, af0, af1, az⟩ := ta
        obtain ⟨b0, b1, bf0, bf1, bz⟩ := tg
        obtain ⟨p0, p1, pf0, pf1, pz⟩ := tc
        clear hbel h2 h3 hb1 hb2 hb3 hc2 hf2 hc3 hf3 TA3 TB3 TC3 HB3
        go_wp2_with fail
        refine (impl_MulRat _ _ _ _ _).mono ?_
        rintro e w4 ⟨rfl, hb4⟩
        obtain ⟨hc4, hf4⟩ := bcell hb4
        have y40 := hb4.size
        have g4 := belT HB.out hb4
        obtain ⟨a0, a1, af0, af1, az⟩ := TA.out.below hb4
        obtain ⟨p0, p1, pf0, pf1, pz⟩ := TC.out.below hb4
        go_wp2_with fail
        refine (impl_AddRat _ _ _ _ _).mono ?_
        rintro e w5 ⟨rfl, hb5⟩
        obtain ⟨hc5, hf5⟩ := bcell hb5
        have y51 : w4.heap.size < w5.heap.size := by have := hb5.size; simp at this; omega
        have g5 := belTA g4 hb5
        cases k1 : Q.addB m f 1 1
        · go_wp2_with fail
          go_ret
          exact ⟨rfl, belAA g5⟩
        · cases k2 : Q.mulB n d (Q.addN m f 1 1) (Q.addD m f 1 1)
          · go_wp2_with fail
            go_ret
            exact ⟨rfl, belAA g5⟩
          · cases k3 : Q.addB (Q.mulN n d m f) (Q.mulD n d m f) n d
            · go_wp2_with fail
              go_ret
              exact ⟨rfl, belAA g5⟩
            · obtain ⟨e1, e2⟩ := HADD.out k1 k2 k3
              go_wp2_with fail
              go_ret
              exact ⟨rfl, belAA g5⟩
end Go.Proofs.Ytkempbmkplcknaa
