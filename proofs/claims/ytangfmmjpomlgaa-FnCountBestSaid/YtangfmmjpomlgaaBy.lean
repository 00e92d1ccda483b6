
/-
  Boxes: the ends of the range of a row, in the model.
-/
import Derived.Test.YtangfmmjpomlgaaBx
set_option linter.unusedSimpArgs false
set_option linter.unusedVariables false
namespace Go.Proofs.Ytangfmmjpomlgaa
open Go.RowKit

set_option maxHeartbeats 1000000 in
set_option maxRecDepth 100000 in
theorem spec_least (A0 A1 A : Option Addr) (c0 c1 n c : Nat) (b : PBox) (cs : List Int) (w : World) (hb : BoxV w A0 A1 c0 c1 b) (hr : Ints w A n cs) (hn : n ≤ maxLen) (h0 : n ≤ b.low.length) (h1 : n ≤ b.high.length) :
    Calls Try.prog 49 #[.slice A n c, .agg #[.slice A0 b.low.length c0, .slice A1 b.high.length c1]] w fun e w' => e = .returned (.int .i64 (leastW cs b)) ∧ Below w.heap.size w w' := by
  obtain ⟨m0, m1⟩ := hb.small
  unfold maxLen at hn m0 m1
  have HB := Lib.hid hb; clear hb
  have HR := Lib.hid hr
  have HL := Lib.hid hr.len; clear hr
  go_enter Try.func49, Try.ntmps49
  go_wp2_with fail
  go_loopw [5, 6] (fun s5 s6 wr => ∃ (k : Nat), k ≤ n ∧ s5 = .int .i64 (fold (lstK cs b) k) ∧ s6 = .int .i64 k ∧ Hid (Box wr w.heap.size #[.slice A0 b.low.length c0, .slice A1 b.high.length c1]) ∧ Hid (Below w.heap.size w wr)) (fun _ s6 _ => n - (intOf s6).toNat)
  case atStart => exact ⟨0, by omega, rfl, rfl, by (refine Lib.hid ?_; (repeat' (first | (with_reducible exact Box.new _ _ _ (by first | omega | (simp; done) | (simp; omega) | (simp only [World.size_alloc, World.size_setCell, World.size_drew] at *; omega))) | (with_reducible refine Box.far ?_ (by first | omega | (simp; done) | (simp; omega) | (simp only [World.size_alloc, World.size_setCell, World.size_drew] at *; omega)) _) | (apply Box.put3_0) | (apply Box.put3_1) | (apply Box.put3_2) | (apply Box.put2_0) | (apply Box.put2_1) | (with_reducible refine Box.alloc ?_ _) | (with_reducible refine Box.drewN ?_ _) | (with_reducible refine Box.drew ?_) | (with_reducible assumption) | (refine Hid.out ?_; with_reducible assumption) | (apply Box.only; (with_reducible assumption); exact (by first | omega | (simp; done) | (simp; omega) | (simp only [World.size_alloc, World.size_setCell, World.size_drew] at *; omega))) | (apply Box.belowD; (with_reducible assumption))))), by (refine Lib.hid ?_; (repeat' (first | (with_reducible exact Below.refl _ _) | (with_reducible refine belS ?_ (by first | omega | (simp; done) | (simp; omega) | (simp only [World.size_alloc, World.size_setCell, World.size_drew] at *; omega))) | (with_reducible refine belA ?_ (by first | omega | (simp; done) | (simp; omega) | (simp only [World.size_alloc, World.size_setCell, World.size_drew] at *; omega))) | (with_reducible refine bel_drewN ?_ _) | (with_reducible refine Below.drew ?_) | (with_reducible assumption) | (refine Hid.out ?_; with_reducible assumption) | (apply belV; (with_reducible assumption); exact (by first | omega | (simp; done) | (simp; omega) | (simp only [World.size_alloc, World.size_setCell, World.size_drew] at *; omega))))))⟩
  case round =>
    obtain ⟨k, hk, rfl, rfl, hX, hbel⟩ := hrel
    have z0 := hX.out.1
    obtain ⟨x0, x1⟩ := Box.facts2 hX.out
    by_cases hlt : k < n
    · obtain ⟨bb, off, x, rfl, hb1, hx, hlo, hhi, hc⟩ := (HR.out.below hbel.out).at_ hlt
      obtain ⟨b0, o0, l, rfl, hb0, hl, hl1, hl2, hc0⟩ := (HB.out.i0.below hbel.out).at_ (show k < b.low.length by omega)
      obtain ⟨b1, o1, u, rfl, hb2, hu, hu1, hu2, hc1⟩ := (HB.out.i1.below hbel.out).at_ (show k < b.high.length by omega)
      have S := Lib.hid (lstK_step hx hl hu)
      clear hx hl hu
      by_cases hm : wrap64 (x * l) ≤ wrap64 (x * u)
      · have T1 := Lib.hid (lstT_1 hm)
        go_wp2_with fail
        go_quiet (fail)
        go_wp2
        all_goals
          go_roundw
          case rel => exact ⟨k + 1, by omega, by rw [← S.out, T1.out], by go_num, hX.out.drewN _, by (refine Lib.hid ?_; (repeat' (first | (with_reducible exact Below.refl _ _) | (with_reducible refine belS ?_ (by first | omega | (simp; done) | (simp; omega) | (simp only [World.size_alloc, World.size_setCell, World.size_drew] at *; omega))) | (with_reducible refine belA ?_ (by first | omega | (simp; done) | (simp; omega) | (simp only [World.size_alloc, World.size_setCell, World.size_drew] at *; omega))) | (with_reducible refine bel_drewN ?_ _) | (with_reducible refine Below.drew ?_) | (with_reducible assumption) | (refine Hid.out ?_; with_reducible assumption) | (apply belV; (with_reducible assumption); exact (by first | omega | (simp; done) | (simp; omega) | (simp only [World.size_alloc, World.size_setCell, World.size_drew] at *; omega))))))⟩
          case measure => simp [intOf]; omega
      · have T1 := Lib.hid (lstT_2 (by omega : wrap64 (x * u) ≤ wrap64 (x * l)))
        go_wp2_with fail
        go_quiet (fail)
        go_wp2
        all_goals
          go_roundw
          case rel => exact ⟨k + 1, by omega, by rw [← S.out, T1.out], by go_num, hX.out.drewN _, by (refine Lib.hid ?_; (repeat' (first | (with_reducible exact Below.refl _ _) | (with_reducible refine belS ?_ (by first | omega | (simp; done) | (simp; omega) | (simp only [World.size_alloc, World.size_setCell, World.size_drew] at *; omega))) | (with_reducible refine belA ?_ (by first | omega | (simp; done) | (simp; omega) | (simp only [World.size_alloc, World.size_setCell, World.size_drew] at *; omega))) | (with_reducible refine bel_drewN ?_ _) | (with_reducible refine Below.drew ?_) | (with_reducible assumption) | (refine Hid.out ?_; with_reducible assumption) | (apply belV; (with_reducible assumption); exact (by first | omega | (simp; done) | (simp; omega) | (simp only [World.size_alloc, World.size_setCell, World.size_drew] at *; omega))))))⟩
          case measure => simp [intOf]; omega
    · have hke : k = n := by omega
      subst hke
      have hbel' := hbel.out
      go_wp2_with fail
      go_ret
      exact ⟨ret_i (by unfold leastW; rw [HL.out]), by (repeat' (first | (with_reducible exact Below.refl _ _) | (with_reducible refine belS ?_ (by first | omega | (simp; done) | (simp; omega) | (simp only [World.size_alloc, World.size_setCell, World.size_drew] at *; omega))) | (with_reducible refine belA ?_ (by first | omega | (simp; done) | (simp; omega) | (simp only [World.size_alloc, World.size_setCell, World.size_drew] at *; omega))) | (with_reducible refine bel_drewN ?_ _) | (with_reducible refine Below.drew ?_) | (with_reducible assumption) | (refine Hid.out ?_; with_reducible assumption) | (apply belV; (with_reducible assumption); exact (by first | omega | (simp; done) | (simp; omega) | (simp only [World.size_alloc, World.size_setCell, World.size_drew] at *; omega)))))⟩
end Go.Proofs.Ytangfmmjpomlgaa
