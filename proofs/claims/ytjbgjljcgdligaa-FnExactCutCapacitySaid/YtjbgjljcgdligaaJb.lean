
/-
  Duties: validity and bounds of crews, as the program's functions and the model's answer them.
-/
import Derived.Test.YtjbgjljcgdligaaJa
import Derived.Test.YtjbgjljcgdligaaLb
import Derived.Test.YtjbgjljcgdligaaHr
import Derived.BigQuiet
set_option linter.unusedSimpArgs false
set_option linter.unusedVariables false
namespace Go.Proofs.Ytjbgjljcgdligaa
open Go.RowKit

theorem cell_by {W w' : World} {b o : Nat} {v : Value} (hb : Below W.heap.size W w') (hlt : b < W.heap.size) (c : W.cell? ⟨b, o, none⟩ = some v) : w'.cell? ⟨b, o, none⟩ = some v := (hb.cell (p := ⟨b, o, none⟩) hlt).trans c
theorem dvB_1 {x y : Int} (h : ¬ 0 ≤ x) : dvB x y = false := Bool.eq_false_iff.2 fun hd => by have := dvB_iff.1 hd; omega
theorem dvB_2 {x y : Int} (h : ¬ x < y) : dvB x y = false := Bool.eq_false_iff.2 fun hd => by have := dvB_iff.1 hd; omega
theorem dvB_3 {x y : Int} (h0 : 0 ≤ x) (h1 : x < y) : dvB x y = decide (y ≤ 200) := by
  rw [Bool.eq_iff_iff, dvB_iff, decide_eq_true_eq]; omega
theorem impl_dvalid (x y : Int) (w : World) : Calls Try.prog 126 #[.agg #[.int .i64 x, .int .i64 y]] w fun e w' => e = .returned (.bool (dvB x y)) ∧ Below w.heap.size w w' := by
  by_cases h0 : 0 ≤ x
  rotate_left
  · have E := Lib.hid (dvB_1 (y := y) h0)
    go_enter Try.func126, Try.ntmps126
    go_wp2_with fail
    go_ret
    exact ⟨ret_b (by first | exact E.out.symm | (rw [E.out]; simp; omega)), by (repeat' (first | (with_reducible exact Below.refl _ _) | (with_reducible refine belS ?_ (by first | omega | (simp; done) | (simp; omega) | (simp only [World.size_alloc, World.size_setCell, World.size_drew] at *; omega))) | (with_reducible refine belA ?_ (by first | omega | (simp; done) | (simp; omega) | (simp only [World.size_alloc, World.size_setCell, World.size_drew] at *; omega))) | (with_reducible refine bel_drewN ?_ _) | (with_reducible refine Below.drew ?_) | (with_reducible assumption) | (refine Hid.out ?_; with_reducible assumption) | (apply belV; (with_reducible assumption); exact (by first | omega | (simp; done) | (simp; omega) | (simp only [World.size_alloc, World.size_setCell, World.size_drew] at *; omega)))))⟩
  by_cases h1 : x < y
  rotate_left
  · have E := Lib.hid (dvB_2 h1)
    go_enter Try.func126, Try.ntmps126
    go_wp2_with fail
    go_ret
    exact ⟨ret_b (by first | exact E.out.symm | (rw [E.out]; simp; omega)), by (repeat' (first | (with_reducible exact Below.refl _ _) | (with_reducible refine belS ?_ (by first | omega | (simp; done) | (simp; omega) | (simp only [World.size_alloc, World.size_setCell, World.size_drew] at *; omega))) | (with_reducible refine belA ?_ (by first | omega | (simp; done) | (simp; omega) | (simp only [World.size_alloc, World.size_setCell, World.size_drew] at *; omega))) | (with_reducible refine bel_drewN ?_ _) | (with_reducible refine Below.drew ?_) | (with_reducible assumption) | (refine Hid.out ?_; with_reducible assumption) | (apply belV; (with_reducible assumption); exact (by first | omega | (simp; done) | (simp; omega) | (simp only [World.size_alloc, World.size_setCell, World.size_drew] at *; omega)))))⟩
  have E := Lib.hid (dvB_3 h0 h1)
  go_enter Try.func126, Try.ntmps126
  go_wp2_with fail
  go_ret
  exact ⟨ret_b (by first | exact E.out.symm | (rw [E.out])), by (repeat' (first | (with_reducible exact Below.refl _ _) | (with_reducible refine belS ?_ (by first | omega | (simp; done) | (simp; omega) | (simp only [World.size_alloc, World.size_setCell, World.size_drew] at *; omega))) | (with_reducible refine belA ?_ (by first | omega | (simp; done) | (simp; omega) | (simp only [World.size_alloc, World.size_setCell, World.size_drew] at *; omega))) | (with_reducible refine bel_drewN ?_ _) | (with_reducible refine Below.drew ?_) | (with_reducible assumption) | (refine Hid.out ?_; with_reducible assumption) | (apply belV; (with_reducible assumption); exact (by first | omega | (simp; done) | (simp; omega) | (simp only [World.size_alloc, World.size_setCell, World.size_drew] at *; omega)))))⟩
theorem impl_length (x y : Int) (w : World) (hx : 0 ≤ x ∧ x ≤ 1000) (hy : 0 ≤ y ∧ y ≤ 1000) : Calls Try.prog 81 #[.agg #[.int .i64 x, .int .i64 y]] w fun e w' => e = .returned (.int .i64 (y - x)) ∧ Below w.heap.size w w' := by
  obtain ⟨x0, x1⟩ := hx
  obtain ⟨y0, y1⟩ := hy
  go_enter Try.func81, Try.ntmps81
  go_wp2_with fail
  go_ret
  exact ⟨rfl, by (repeat' (first | (with_reducible exact Below.refl _ _) | (with_reducible refine belS ?_ (by first | omega | (simp; done) | (simp; omega) | (simp only [World.size_alloc, World.size_setCell, World.size_drew] at *; omega))) | (with_reducible refine belA ?_ (by first | omega | (simp; done) | (simp; omega) | (simp only [World.size_alloc, World.size_setCell, World.size_drew] at *; omega))) | (with_reducible refine bel_drewN ?_ _) | (with_reducible refine Below.drew ?_) | (with_reducible assumption) | (refine Hid.out ?_; with_reducible assumption) | (apply belV; (with_reducible assumption); exact (by first | omega | (simp; done) | (simp; omega) | (simp only [World.size_alloc, World.size_setCell, World.size_drew] at *; omega)))))⟩

set_option maxHeartbeats 4000000 in
set_option maxRecDepth 100000 in
theorem impl_validDuties (A : Option Addr) (n c : Nat) (ds : List (Int × Int)) (w : World) (hI : DutS w A n ds) (hn : n ≤ maxLen) :
    Calls Try.prog 79 #[.slice A n c] w fun e w' => e = .returned (.bool (vDut ds)) ∧ Below w.heap.size w w' := by
  unfold maxLen at hn
  have HL := Lib.hid hI.len
  have HI := Lib.hid hI; clear hI
  by_cases h6 : n ≤ 6
  rotate_left
  · have E := Lib.hid (vDut_1 (ds := ds) (by rw [HL.out]; exact h6))
    go_enter Try.func79, Try.ntmps79
    go_wp2_with fail
    go_ret
    exact ⟨ret_b E.out.symm, by (repeat' (first | (with_reducible exact Below.refl _ _) | (with_reducible refine belS ?_ (by first | omega | (simp; done) | (simp; omega) | (simp only [World.size_alloc, World.size_setCell, World.size_drew] at *; omega))) | (with_reducible refine belA ?_ (by first | omega | (simp; done) | (simp; omega) | (simp only [World.size_alloc, World.size_setCell, World.size_drew] at *; omega))) | (with_reducible refine bel_drewN ?_ _) | (with_reducible refine Below.drew ?_) | (with_reducible assumption) | (refine Hid.out ?_; with_reducible assumption) | (apply belV; (with_reducible assumption); exact (by first | omega | (simp; done) | (simp; omega) | (simp only [World.size_alloc, World.size_setCell, World.size_drew] at *; omega)))))⟩
  have H6 := Lib.hid h6
  go_enter Try.func79, Try.ntmps79
  go_wp2_with fail
  go_loopw [3, 4, 10] (fun s3 s4 s10 wr => ∃ (k : Nat) (v u : Value), k ≤ n ∧ v = s3 ∧ u = s4 ∧ s10 = .int .i64 k ∧ Hid (dAll ds k = true) ∧ Hid (Below w.heap.size w wr)) (fun _ _ s10 _ => n - (intOf s10).toNat)
  case atStart => exact ⟨0, _, _, by omega, rfl, rfl, rfl, Lib.hid (dAll_0 _), by (refine Lib.hid ?_; (repeat' (first | (with_reducible exact Below.refl _ _) | (with_reducible refine belS ?_ (by first | omega | (simp; done) | (simp; omega) | (simp only [World.size_alloc, World.size_setCell, World.size_drew] at *; omega))) | (with_reducible refine belA ?_ (by first | omega | (simp; done) | (simp; omega) | (simp only [World.size_alloc, World.size_setCell, World.size_drew] at *; omega))) | (with_reducible refine bel_drewN ?_ _) | (with_reducible refine Below.drew ?_) | (with_reducible assumption) | (refine Hid.out ?_; with_reducible assumption) | (apply belV; (with_reducible assumption); exact (by first | omega | (simp; done) | (simp; omega) | (simp only [World.size_alloc, World.size_setCell, World.size_drew] at *; omega))))))⟩
  case round =>
    obtain ⟨k, v, u, hk, rfl, rfl, rfl, hal, hbel⟩ := hrel
    have z0 := hbel.out.size
    by_cases hlt : k < n
    · obtain ⟨b, off, x, y, rfl, hb, hx, ix, iy, c0, c1⟩ := (HI.out.below hbel.out).at_ hlt
      have HX := Lib.hid hx; clear hx ix iy
      cases hv : dvB x y
      · have E := Lib.hid (vDut_2 (by rw [HL.out]; exact hlt) (dOk_no1 HX.out hv))
        go_wp2_with fail
        refine wp_region_held_drew (S := fun w' => w'.cell? ⟨wr.heap.size, 0, none⟩ = some (.int .i64 x) ∧ w'.cell? ⟨wr.heap.size, 1, none⟩ = some (.int .i64 y)) (by kernel_rfl) ?_ (fun hHeld => ?_)
        · (refine (fun (h0 : Box _ wr.heap.size #[.int .i64 x, .int .i64 y]) => ⟨h0.at 0 rfl, h0.at 1 rfl⟩) ?_; (focus ((repeat' (first | (with_reducible exact Box.new _ _ _ (by first | omega | (simp; done) | (simp; omega) | (simp only [World.size_alloc, World.size_setCell, World.size_drew] at *; omega))) | (with_reducible refine Box.far ?_ (by first | omega | (simp; done) | (simp; omega) | (simp only [World.size_alloc, World.size_setCell, World.size_drew] at *; omega)) _) | (apply Box.put3_0) | (apply Box.put3_1) | (apply Box.put3_2) | (apply Box.put2_0) | (apply Box.put2_1) | (with_reducible refine Box.alloc ?_ _) | (with_reducible refine Box.drewN ?_ _) | (with_reducible refine Box.drew ?_) | (with_reducible assumption) | (refine Hid.out ?_; with_reducible assumption) | (apply Box.only; (with_reducible assumption); exact (by first | omega | (simp; done) | (simp; omega) | (simp only [World.size_alloc, World.size_setCell, World.size_drew] at *; omega))) | (apply Box.belowD; (with_reducible assumption)))); done)))
        refine takeH (i := 0) (d := 15) (v := ?_) (by kernel_rfl) (by kernel_rfl) (by kernel_rfl) (fun _ _ _ h => h) (by assumption) ⟨?_, ?_, ?_, ?_, ?_⟩ ?_
        rotate_left
        rotate_left
        · (try simp only [List.getElem?_toArray, List.getElem?_cons_succ, List.getElem?_cons_zero]); exact rfl
        · rfl
        · rfl
        · intro w' hSw; (try dsimp only at hSw); go_simp; (try with_reducible rfl)
        (try simp only [Act.put, List.setIfInBounds_toArray, List.set_cons_zero, List.set_cons_succ])
        refine wpAnyH_ready (rs := [1]) (by kernel_rfl) (by simp) ?_
        refine AllReadyH.cons (o := ?_) ?_ (fun K hK => ?_) AllReadyH.nil
        rotate_left
        · (try simp only [List.getElem?_toArray, List.getElem?_cons_succ, List.getElem?_cons_zero]); exact rfl
        go_simp
        refine (impl_dvalid _ _ _).mono ?_
        rintro e w1 ⟨rfl, hb1⟩
        have G1 : Hid (Below w.heap.size w w1) := belU hb1 (by (repeat' (first | (with_reducible exact Below.refl _ _) | (with_reducible refine belS ?_ (by first | omega | (simp; done) | (simp; omega) | (simp only [World.size_alloc, World.size_setCell, World.size_drew] at *; omega))) | (with_reducible refine belA ?_ (by first | omega | (simp; done) | (simp; omega) | (simp only [World.size_alloc, World.size_setCell, World.size_drew] at *; omega))) | (with_reducible refine bel_drewN ?_ _) | (with_reducible refine Below.drew ?_) | (with_reducible assumption) | (refine Hid.out ?_; with_reducible assumption) | (apply belV; (with_reducible assumption); exact (by first | omega | (simp; done) | (simp; omega) | (simp only [World.size_alloc, World.size_setCell, World.size_drew] at *; omega)))))) (by first | omega | (simp; done) | (simp; omega) | (simp only [World.size_alloc, World.size_setCell, World.size_drew] at *; omega))
        have X1 : Hid (Box w1 wr.heap.size #[.int .i64 x, .int .i64 y]) := Lib.hid (Box.below (by (repeat' (first | (with_reducible exact Box.new _ _ _ (by first | omega | (simp; done) | (simp; omega) | (simp only [World.size_alloc, World.size_setCell, World.size_drew] at *; omega))) | (with_reducible refine Box.far ?_ (by first | omega | (simp; done) | (simp; omega) | (simp only [World.size_alloc, World.size_setCell, World.size_drew] at *; omega)) _) | (apply Box.put3_0) | (apply Box.put3_1) | (apply Box.put3_2) | (apply Box.put2_0) | (apply Box.put2_1) | (with_reducible refine Box.alloc ?_ _) | (with_reducible refine Box.drewN ?_ _) | (with_reducible refine Box.drew ?_) | (with_reducible assumption) | (refine Hid.out ?_; with_reducible assumption) | (apply Box.only; (with_reducible assumption); exact (by first | omega | (simp; done) | (simp; omega) | (simp only [World.size_alloc, World.size_setCell, World.size_drew] at *; omega))) | (apply Box.belowD; (with_reducible assumption))))) hb1)
        clear hb1
        rw [hv]
        go_wp2_with fail
        refine hK.out _ _ ?_ (fun hHeld => ?_)
        · exact ⟨(Box.facts2 X1.out).1, (Box.facts2 X1.out).2⟩
        clear hK K
        (try simp only [Act.put, List.setIfInBounds_toArray, List.set_cons_zero, List.set_cons_succ])
        refine takeH (i := 2) (d := 17) (v := ?_) (by kernel_rfl) (by kernel_rfl) (by kernel_rfl) (fun _ _ _ h => h) (by assumption) ⟨?_, ?_, ?_, ?_, ?_⟩ ?_
        rotate_left
        rotate_left
        · (try simp only [List.getElem?_toArray, List.getElem?_cons_succ, List.getElem?_cons_zero]); exact rfl
        · rfl
        · rfl
        · intro w' hSw; (try dsimp only at hSw); go_simp; (try with_reducible rfl)
        (try simp only [Act.put, List.setIfInBounds_toArray, List.set_cons_zero, List.set_cons_succ])
        refine takeH (i := 3) (d := 18) (v := ?_) (by kernel_rfl) (by kernel_rfl) (by kernel_rfl) (fun _ _ _ h => h) (by assumption) ⟨?_, ?_, ?_, ?_, ?_⟩ ?_
        rotate_left
        rotate_left
        · (try simp only [List.getElem?_toArray, List.getElem?_cons_succ, List.getElem?_cons_zero]); exact rfl
        · rfl
        · rfl
        · intro w' hSw; (try dsimp only at hSw); go_simp; (try with_reducible rfl)
        (try simp only [Act.put, List.setIfInBounds_toArray, List.set_cons_zero, List.set_cons_succ])
        refine skipH (i := 4) (d := 19) ⟨_, rfl, rfl, by rfl⟩ (by kernel_rfl) (by kernel_rfl) (by kernel_rfl) (fun _ _ _ h => h) (by assumption) ?_
        (try simp only [Act.put, List.setIfInBounds_toArray, List.set_cons_zero, List.set_cons_succ])
        refine skipH (i := 5) (d := 20) ⟨_, rfl, rfl, by rfl⟩ (by kernel_rfl) (by kernel_rfl) (by kernel_rfl) (fun _ _ _ h => h) (by assumption) ?_
        (try simp only [Act.put, List.setIfInBounds_toArray, List.set_cons_zero, List.set_cons_succ])
        refine skipH (i := 6) (d := 21) ⟨_, rfl, rfl, by rfl⟩ (by kernel_rfl) (by kernel_rfl) (by kernel_rfl) (fun _ _ _ h => h) (by assumption) ?_
        (try simp only [Act.put, List.setIfInBounds_toArray, List.set_cons_zero, List.set_cons_succ])
        refine skipH (i := 7) (d := 22) ⟨_, rfl, rfl, by rfl⟩ (by kernel_rfl) (by kernel_rfl) (by kernel_rfl) (fun _ _ _ h => h) (by assumption) ?_
        (try simp only [Act.put, List.setIfInBounds_toArray, List.set_cons_zero, List.set_cons_succ])
        refine skipH (i := 8) (d := 23) ⟨_, rfl, rfl, by rfl⟩ (by kernel_rfl) (by kernel_rfl) (by kernel_rfl) (fun _ _ _ h => h) (by assumption) ?_
        (try simp only [Act.put, List.setIfInBounds_toArray, List.set_cons_zero, List.set_cons_succ])
        refine skipH (i := 9) (d := 24) ⟨_, rfl, rfl, by rfl⟩ (by kernel_rfl) (by kernel_rfl) (by kernel_rfl) (fun _ _ _ h => h) (by assumption) ?_
        (try simp only [Act.put, List.setIfInBounds_toArray, List.set_cons_zero, List.set_cons_succ])
        refine skipH (i := 10) (d := 25) ⟨_, rfl, rfl, by rfl⟩ (by kernel_rfl) (by kernel_rfl) (by kernel_rfl) (fun _ _ _ h => h) (by assumption) ?_
        (try simp only [Act.put, List.setIfInBounds_toArray, List.set_cons_zero, List.set_cons_succ])
        refine skipH (i := 11) (d := 26) ⟨_, rfl, rfl, by rfl⟩ (by kernel_rfl) (by kernel_rfl) (by kernel_rfl) (fun _ _ _ h => h) (by assumption) ?_
        (try simp only [Act.put, List.setIfInBounds_toArray, List.set_cons_zero, List.set_cons_succ])
        refine skipH (i := 12) (d := 27) ⟨_, rfl, rfl, by rfl⟩ (by kernel_rfl) (by kernel_rfl) (by kernel_rfl) (fun _ _ _ h => h) (by assumption) ?_
        (try simp only [Act.put, List.setIfInBounds_toArray, List.set_cons_zero, List.set_cons_succ])
        refine skipH (i := 13) (d := 28) ⟨_, rfl, rfl, by rfl⟩ (by kernel_rfl) (by kernel_rfl) (by kernel_rfl) (fun _ _ _ h => h) (by assumption) ?_
        (try simp only [Act.put, List.setIfInBounds_toArray, List.set_cons_zero, List.set_cons_succ])
        refine skipH (i := 14) (d := 29) ⟨_, rfl, rfl, by rfl⟩ (by kernel_rfl) (by kernel_rfl) (by kernel_rfl) (fun _ _ _ h => h) (by assumption) ?_
        (try simp only [Act.put, List.setIfInBounds_toArray, List.set_cons_zero, List.set_cons_succ])
        refine skipH (i := 15) (d := 30) ⟨_, rfl, rfl, by rfl⟩ (by kernel_rfl) (by kernel_rfl) (by kernel_rfl) (fun _ _ _ h => h) (by assumption) ?_
        (try simp only [Act.put, List.setIfInBounds_toArray, List.set_cons_zero, List.set_cons_succ])
        refine skipH (i := 16) (d := 31) ⟨_, rfl, rfl, by rfl⟩ (by kernel_rfl) (by kernel_rfl) (by kernel_rfl) (fun _ _ _ h => h) (by assumption) ?_
        (try simp only [Act.put, List.setIfInBounds_toArray, List.set_cons_zero, List.set_cons_succ])
        refine takeH (i := 17) (d := 32) (v := ?_) (by kernel_rfl) (by kernel_rfl) (by kernel_rfl) (fun _ _ _ h => h) (by assumption) ⟨?_, ?_, ?_, ?_, ?_⟩ ?_
        rotate_left
        rotate_left
        · (try simp only [List.getElem?_toArray, List.getElem?_cons_succ, List.getElem?_cons_zero]); exact rfl
        · rfl
        · rfl
        · intro w' hSw; (try dsimp only at hSw); go_simp; (try with_reducible rfl)
        (try simp only [Act.put, List.setIfInBounds_toArray, List.set_cons_zero, List.set_cons_succ])
        refine wpAnyH_done (by kernel_rfl) ?_ _
        go_wp2_with fail
        go_ret
        exact ⟨ret_b E.out.symm, by (repeat' (first | (with_reducible exact Below.refl _ _) | (with_reducible refine belS ?_ (by first | omega | (simp; done) | (simp; omega) | (simp only [World.size_alloc, World.size_setCell, World.size_drew] at *; omega))) | (with_reducible refine belA ?_ (by first | omega | (simp; done) | (simp; omega) | (simp only [World.size_alloc, World.size_setCell, World.size_drew] at *; omega))) | (with_reducible refine bel_drewN ?_ _) | (with_reducible refine Below.drew ?_) | (with_reducible assumption) | (refine Hid.out ?_; with_reducible assumption) | (apply belV; (with_reducible assumption); exact (by first | omega | (simp; done) | (simp; omega) | (simp only [World.size_alloc, World.size_setCell, World.size_drew] at *; omega)))))⟩
      by_cases hk0 : k = 0
      · have NX := Lib.hid (dAll_yes hal.out (dOk_of HX.out hv (.inl hk0)))
        have hd : decide (0 < k) = false := by simp [hk0]
        clear hk0
        go_wp2_with fail
        refine wp_region_held_drew (S := fun w' => w'.cell? ⟨wr.heap.size, 0, none⟩ = some (.int .i64 x) ∧ w'.cell? ⟨wr.heap.size, 1, none⟩ = some (.int .i64 y)) (by kernel_rfl) ?_ (fun hHeld => ?_)
        · (refine (fun (h0 : Box _ wr.heap.size #[.int .i64 x, .int .i64 y]) => ⟨h0.at 0 rfl, h0.at 1 rfl⟩) ?_; (focus ((repeat' (first | (with_reducible exact Box.new _ _ _ (by first | omega | (simp; done) | (simp; omega) | (simp only [World.size_alloc, World.size_setCell, World.size_drew] at *; omega))) | (with_reducible refine Box.far ?_ (by first | omega | (simp; done) | (simp; omega) | (simp only [World.size_alloc, World.size_setCell, World.size_drew] at *; omega)) _) | (apply Box.put3_0) | (apply Box.put3_1) | (apply Box.put3_2) | (apply Box.put2_0) | (apply Box.put2_1) | (with_reducible refine Box.alloc ?_ _) | (with_reducible refine Box.drewN ?_ _) | (with_reducible refine Box.drew ?_) | (with_reducible assumption) | (refine Hid.out ?_; with_reducible assumption) | (apply Box.only; (with_reducible assumption); exact (by first | omega | (simp; done) | (simp; omega) | (simp only [World.size_alloc, World.size_setCell, World.size_drew] at *; omega))) | (apply Box.belowD; (with_reducible assumption)))); done)))
        refine takeH (i := 0) (d := 15) (v := ?_) (by kernel_rfl) (by kernel_rfl) (by kernel_rfl) (fun _ _ _ h => h) (by assumption) ⟨?_, ?_, ?_, ?_, ?_⟩ ?_
        rotate_left
        rotate_left
        · (try simp only [List.getElem?_toArray, List.getElem?_cons_succ, List.getElem?_cons_zero]); exact rfl
        · rfl
        · rfl
        · intro w' hSw; (try dsimp only at hSw); go_simp; (try with_reducible rfl)
        (try simp only [Act.put, List.setIfInBounds_toArray, List.set_cons_zero, List.set_cons_succ])
        refine wpAnyH_ready (rs := [1]) (by kernel_rfl) (by simp) ?_
        refine AllReadyH.cons (o := ?_) ?_ (fun K hK => ?_) AllReadyH.nil
        rotate_left
        · (try simp only [List.getElem?_toArray, List.getElem?_cons_succ, List.getElem?_cons_zero]); exact rfl
        go_simp
        refine (impl_dvalid _ _ _).mono ?_
        rintro e w1 ⟨rfl, hb1⟩
        have G1 : Hid (Below w.heap.size w w1) := belU hb1 (by (repeat' (first | (with_reducible exact Below.refl _ _) | (with_reducible refine belS ?_ (by first | omega | (simp; done) | (simp; omega) | (simp only [World.size_alloc, World.size_setCell, World.size_drew] at *; omega))) | (with_reducible refine belA ?_ (by first | omega | (simp; done) | (simp; omega) | (simp only [World.size_alloc, World.size_setCell, World.size_drew] at *; omega))) | (with_reducible refine bel_drewN ?_ _) | (with_reducible refine Below.drew ?_) | (with_reducible assumption) | (refine Hid.out ?_; with_reducible assumption) | (apply belV; (with_reducible assumption); exact (by first | omega | (simp; done) | (simp; omega) | (simp only [World.size_alloc, World.size_setCell, World.size_drew] at *; omega)))))) (by first | omega | (simp; done) | (simp; omega) | (simp only [World.size_alloc, World.size_setCell, World.size_drew] at *; omega))
        have X1 : Hid (Box w1 wr.heap.size #[.int .i64 x, .int .i64 y]) := Lib.hid (Box.below (by (repeat' (first | (with_reducible exact Box.new _ _ _ (by first | omega | (simp; done) | (simp; omega) | (simp only [World.size_alloc, World.size_setCell, World.size_drew] at *; omega))) | (with_reducible refine Box.far ?_ (by first | omega | (simp; done) | (simp; omega) | (simp only [World.size_alloc, World.size_setCell, World.size_drew] at *; omega)) _) | (apply Box.put3_0) | (apply Box.put3_1) | (apply Box.put3_2) | (apply Box.put2_0) | (apply Box.put2_1) | (with_reducible refine Box.alloc ?_ _) | (with_reducible refine Box.drewN ?_ _) | (with_reducible refine Box.drew ?_) | (with_reducible assumption) | (refine Hid.out ?_; with_reducible assumption) | (apply Box.only; (with_reducible assumption); exact (by first | omega | (simp; done) | (simp; omega) | (simp only [World.size_alloc, World.size_setCell, World.size_drew] at *; omega))) | (apply Box.belowD; (with_reducible assumption))))) hb1)
        clear hb1
        rw [hv]
        go_wp2_with fail
        refine hK.out _ _ ?_ (fun hHeld => ?_)
        · exact ⟨(Box.facts2 X1.out).1, (Box.facts2 X1.out).2⟩
        clear hK K
        (try simp only [Act.put, List.setIfInBounds_toArray, List.set_cons_zero, List.set_cons_succ])
        refine takeH (i := 2) (d := 17) (v := ?_) (by kernel_rfl) (by kernel_rfl) (by kernel_rfl) (fun _ _ _ h => h) (by assumption) ⟨?_, ?_, ?_, ?_, ?_⟩ ?_
        rotate_left
        rotate_left
        · (try simp only [List.getElem?_toArray, List.getElem?_cons_succ, List.getElem?_cons_zero]); exact rfl
        · rfl
        · rfl
        · intro w' hSw; (try dsimp only at hSw); go_simp; (try with_reducible rfl)
        (try simp only [Act.put, List.setIfInBounds_toArray, List.set_cons_zero, List.set_cons_succ])
        refine takeH (i := 3) (d := 18) (v := ?_) (by kernel_rfl) (by kernel_rfl) (by kernel_rfl) (fun _ _ _ h => h) (by assumption) ⟨?_, ?_, ?_, ?_, ?_⟩ ?_
        rotate_left
        rotate_left
        · (try simp only [List.getElem?_toArray, List.getElem?_cons_succ, List.getElem?_cons_zero]); exact rfl
        · rfl
        · rfl
        · intro w' hSw; (try dsimp only at hSw); go_simp; (try with_reducible rfl)
        (try simp only [Act.put, List.setIfInBounds_toArray, List.set_cons_zero, List.set_cons_succ])
        refine takeH (i := 4) (d := 19) (v := ?_) (by kernel_rfl) (by kernel_rfl) (by kernel_rfl) (fun _ _ _ h => h) (by assumption) ⟨?_, ?_, ?_, ?_, ?_⟩ ?_
        rotate_left
        rotate_left
        · (try simp only [List.getElem?_toArray, List.getElem?_cons_succ, List.getElem?_cons_zero]); exact rfl
        · rfl
        · rfl
        · intro w' hSw; (try dsimp only at hSw); go_simp; (try with_reducible rfl)
        (try simp only [Act.put, List.setIfInBounds_toArray, List.set_cons_zero, List.set_cons_succ])
        refine takeH (i := 5) (d := 20) (v := ?_) (by kernel_rfl) (by kernel_rfl) (by kernel_rfl) (fun _ _ _ h => h) (by assumption) ⟨?_, ?_, ?_, ?_, ?_⟩ ?_
        rotate_left
        rotate_left
        · (try simp only [List.getElem?_toArray, List.getElem?_cons_succ, List.getElem?_cons_zero]); exact rfl
        · rfl
        · rfl
        · intro w' hSw; (try dsimp only at hSw); go_simp; (try with_reducible rfl)
        (try simp only [Act.put, List.setIfInBounds_toArray, List.set_cons_zero, List.set_cons_succ])
        refine takeH (i := 6) (d := 21) (v := ?_) (by kernel_rfl) (by kernel_rfl) (by kernel_rfl) (fun _ _ _ h => h) (by assumption) ⟨?_, ?_, ?_, ?_, ?_⟩ ?_
        rotate_left
        rotate_left
        · (try simp only [List.getElem?_toArray, List.getElem?_cons_succ, List.getElem?_cons_zero]); exact rfl
        · rfl
        · rfl
        · intro w' hSw; (try dsimp only at hSw); go_simp; (try with_reducible rfl)
        (try simp only [Act.put, List.setIfInBounds_toArray, List.set_cons_zero, List.set_cons_succ])
        refine skipH (i := 7) (d := 22) ⟨_, rfl, rfl, by rfl⟩ (by kernel_rfl) (by kernel_rfl) (by kernel_rfl) (fun _ _ _ h => h) (by assumption) ?_
        (try simp only [Act.put, List.setIfInBounds_toArray, List.set_cons_zero, List.set_cons_succ])
        refine skipH (i := 8) (d := 23) ⟨_, rfl, rfl, by rfl⟩ (by kernel_rfl) (by kernel_rfl) (by kernel_rfl) (fun _ _ _ h => h) (by assumption) ?_
        (try simp only [Act.put, List.setIfInBounds_toArray, List.set_cons_zero, List.set_cons_succ])
        refine skipH (i := 9) (d := 24) ⟨_, rfl, rfl, by rfl⟩ (by kernel_rfl) (by kernel_rfl) (by kernel_rfl) (fun _ _ _ h => h) (by assumption) ?_
        (try simp only [Act.put, List.setIfInBounds_toArray, List.set_cons_zero, List.set_cons_succ])
        refine skipH (i := 10) (d := 25) ⟨_, rfl, rfl, by rfl⟩ (by kernel_rfl) (by kernel_rfl) (by kernel_rfl) (fun _ _ _ h => h) (by assumption) ?_
        (try simp only [Act.put, List.setIfInBounds_toArray, List.set_cons_zero, List.set_cons_succ])
        refine skipH (i := 11) (d := 26) ⟨_, rfl, rfl, by rfl⟩ (by kernel_rfl) (by kernel_rfl) (by kernel_rfl) (fun _ _ _ h => h) (by assumption) ?_
        (try simp only [Act.put, List.setIfInBounds_toArray, List.set_cons_zero, List.set_cons_succ])
        refine skipH (i := 12) (d := 27) ⟨_, rfl, rfl, by rfl⟩ (by kernel_rfl) (by kernel_rfl) (by kernel_rfl) (fun _ _ _ h => h) (by assumption) ?_
        (try simp only [Act.put, List.setIfInBounds_toArray, List.set_cons_zero, List.set_cons_succ])
        refine skipH (i := 13) (d := 28) ⟨_, rfl, rfl, by rfl⟩ (by kernel_rfl) (by kernel_rfl) (by kernel_rfl) (fun _ _ _ h => h) (by assumption) ?_
        (try simp only [Act.put, List.setIfInBounds_toArray, List.set_cons_zero, List.set_cons_succ])
        refine skipH (i := 14) (d := 29) ⟨_, rfl, rfl, by rfl⟩ (by kernel_rfl) (by kernel_rfl) (by kernel_rfl) (fun _ _ _ h => h) (by assumption) ?_
        (try simp only [Act.put, List.setIfInBounds_toArray, List.set_cons_zero, List.set_cons_succ])
        refine skipH (i := 15) (d := 30) ⟨_, rfl, rfl, by rfl⟩ (by kernel_rfl) (by kernel_rfl) (by kernel_rfl) (fun _ _ _ h => h) (by assumption) ?_
        (try simp only [Act.put, List.setIfInBounds_toArray, List.set_cons_zero, List.set_cons_succ])
        refine takeH (i := 16) (d := 31) (v := ?_) (by kernel_rfl) (by kernel_rfl) (by kernel_rfl) (fun _ _ _ h => h) (by assumption) ⟨?_, ?_, ?_, ?_, ?_⟩ ?_
        rotate_left
        rotate_left
        · (try simp only [List.getElem?_toArray, List.getElem?_cons_succ, List.getElem?_cons_zero]); exact rfl
        · rfl
        · rfl
        · intro w' hSw; (try dsimp only at hSw); go_simp; (try with_reducible rfl)
        (try simp only [Act.put, List.setIfInBounds_toArray, List.set_cons_zero, List.set_cons_succ])
        refine takeH (i := 17) (d := 32) (v := ?_) (by kernel_rfl) (by kernel_rfl) (by kernel_rfl) (fun _ _ _ h => h) (by assumption) ⟨?_, ?_, ?_, ?_, ?_⟩ ?_
        rotate_left
        rotate_left
        · (try simp only [List.getElem?_toArray, List.getElem?_cons_succ, List.getElem?_cons_zero]); exact rfl
        · rfl
        · rfl
        · intro w' hSw; (try dsimp only at hSw); go_simp; (try with_reducible rfl)
        (try simp only [Act.put, List.setIfInBounds_toArray, List.set_cons_zero, List.set_cons_succ])
        refine wpAnyH_done (by kernel_rfl) ?_ _
        go_wp2_with fail
        go_roundw
        case rel => exact ⟨k + 1, _, _, by omega, rfl, rfl, by go_num, NX, by (refine Lib.hid ?_; (repeat' (first | (with_reducible exact Below.refl _ _) | (with_reducible refine belS ?_ (by first | omega | (simp; done) | (simp; omega) | (simp only [World.size_alloc, World.size_setCell, World.size_drew] at *; omega))) | (with_reducible refine belA ?_ (by first | omega | (simp; done) | (simp; omega) | (simp only [World.size_alloc, World.size_setCell, World.size_drew] at *; omega))) | (with_reducible refine bel_drewN ?_ _) | (with_reducible refine Below.drew ?_) | (with_reducible assumption) | (refine Hid.out ?_; with_reducible assumption) | (apply belV; (with_reducible assumption); exact (by first | omega | (simp; done) | (simp; omega) | (simp only [World.size_alloc, World.size_setCell, World.size_drew] at *; omega))))))⟩
        case measure => simp [intOf]; omega
      obtain ⟨b', off', p, q, e, hb', hp, ip, iq, d0, d1⟩ := (HI.out.below hbel.out).at_ (k := k - 1) (by omega)
      injection e with e; injection e with e1 e2; subst e1 e2
      have HP := Lib.hid hp; clear hp ip iq
      have hd : decide (0 < k) = true := by simp; omega
      have wk : IntKind.i64.wrap ((k : Int) - 1) = ((k - 1 : Nat) : Int) := by rw [IntWalk.i64_in _ ⟨by omega, by omega⟩]; omega
      have kn : k - 1 < n := by omega
      by_cases hlo : x < p
      · have E := Lib.hid (vDut_2 (by rw [HL.out]; exact hlt) (dOk_no2 HX.out HP.out (by omega) hlo))
        go_wp2_with fail
        refine wp_region_held_drew (S := fun w' => w'.cell? ⟨wr.heap.size, 0, none⟩ = some (.int .i64 x) ∧ w'.cell? ⟨wr.heap.size, 1, none⟩ = some (.int .i64 y) ∧ w'.cell? ⟨b, off + (k - 1) * 2, none⟩ = some (.int .i64 p)) (by kernel_rfl) ?_ (fun hHeld => ?_)
        · (refine (fun (h0 : Box _ wr.heap.size #[.int .i64 x, .int .i64 y]) h1 => ⟨h0.at 0 rfl, h0.at 1 rfl, h1⟩) ?_ ?_; (focus ((repeat' (first | (with_reducible exact Box.new _ _ _ (by first | omega | (simp; done) | (simp; omega) | (simp only [World.size_alloc, World.size_setCell, World.size_drew] at *; omega))) | (with_reducible refine Box.far ?_ (by first | omega | (simp; done) | (simp; omega) | (simp only [World.size_alloc, World.size_setCell, World.size_drew] at *; omega)) _) | (apply Box.put3_0) | (apply Box.put3_1) | (apply Box.put3_2) | (apply Box.put2_0) | (apply Box.put2_1) | (with_reducible refine Box.alloc ?_ _) | (with_reducible refine Box.drewN ?_ _) | (with_reducible refine Box.drew ?_) | (with_reducible assumption) | (refine Hid.out ?_; with_reducible assumption) | (apply Box.only; (with_reducible assumption); exact (by first | omega | (simp; done) | (simp; omega) | (simp only [World.size_alloc, World.size_setCell, World.size_drew] at *; omega))) | (apply Box.belowD; (with_reducible assumption)))); done)); (focus (exact cell_by (W := wr) (by (repeat' (first | (with_reducible exact Below.refl _ _) | (with_reducible refine belS ?_ (by first | omega | (simp; done) | (simp; omega) | (simp only [World.size_alloc, World.size_setCell, World.size_drew] at *; omega))) | (with_reducible refine belA ?_ (by first | omega | (simp; done) | (simp; omega) | (simp only [World.size_alloc, World.size_setCell, World.size_drew] at *; omega))) | (with_reducible refine bel_drewN ?_ _) | (with_reducible refine Below.drew ?_) | (with_reducible assumption) | (refine Hid.out ?_; with_reducible assumption) | (apply belV; (with_reducible assumption); exact (by first | omega | (simp; done) | (simp; omega) | (simp only [World.size_alloc, World.size_setCell, World.size_drew] at *; omega)))))) hb d0)))
        refine takeH (i := 0) (d := 15) (v := ?_) (by kernel_rfl) (by kernel_rfl) (by kernel_rfl) (fun _ _ _ h => h) (by assumption) ⟨?_, ?_, ?_, ?_, ?_⟩ ?_
        rotate_left
        rotate_left
        · (try simp only [List.getElem?_toArray, List.getElem?_cons_succ, List.getElem?_cons_zero]); exact rfl
        · rfl
        · rfl
        · intro w' hSw; (try dsimp only at hSw); go_simp; (try with_reducible rfl)
        (try simp only [Act.put, List.setIfInBounds_toArray, List.set_cons_zero, List.set_cons_succ])
        refine wpAnyH_ready (rs := [1]) (by kernel_rfl) (by simp) ?_
        refine AllReadyH.cons (o := ?_) ?_ (fun K hK => ?_) AllReadyH.nil
        rotate_left
        · (try simp only [List.getElem?_toArray, List.getElem?_cons_succ, List.getElem?_cons_zero]); exact rfl
        go_simp
        refine (impl_dvalid _ _ _).mono ?_
        rintro e w1 ⟨rfl, hb1⟩
        have G1 : Hid (Below w.heap.size w w1) := belU hb1 (by (repeat' (first | (with_reducible exact Below.refl _ _) | (with_reducible refine belS ?_ (by first | omega | (simp; done) | (simp; omega) | (simp only [World.size_alloc, World.size_setCell, World.size_drew] at *; omega))) | (with_reducible refine belA ?_ (by first | omega | (simp; done) | (simp; omega) | (simp only [World.size_alloc, World.size_setCell, World.size_drew] at *; omega))) | (with_reducible refine bel_drewN ?_ _) | (with_reducible refine Below.drew ?_) | (with_reducible assumption) | (refine Hid.out ?_; with_reducible assumption) | (apply belV; (with_reducible assumption); exact (by first | omega | (simp; done) | (simp; omega) | (simp only [World.size_alloc, World.size_setCell, World.size_drew] at *; omega)))))) (by first | omega | (simp; done) | (simp; omega) | (simp only [World.size_alloc, World.size_setCell, World.size_drew] at *; omega))
        have X1 : Hid (Box w1 wr.heap.size #[.int .i64 x, .int .i64 y]) := Lib.hid (Box.below (by (repeat' (first | (with_reducible exact Box.new _ _ _ (by first | omega | (simp; done) | (simp; omega) | (simp only [World.size_alloc, World.size_setCell, World.size_drew] at *; omega))) | (with_reducible refine Box.far ?_ (by first | omega | (simp; done) | (simp; omega) | (simp only [World.size_alloc, World.size_setCell, World.size_drew] at *; omega)) _) | (apply Box.put3_0) | (apply Box.put3_1) | (apply Box.put3_2) | (apply Box.put2_0) | (apply Box.put2_1) | (with_reducible refine Box.alloc ?_ _) | (with_reducible refine Box.drewN ?_ _) | (with_reducible refine Box.drew ?_) | (with_reducible assumption) | (refine Hid.out ?_; with_reducible assumption) | (apply Box.only; (with_reducible assumption); exact (by first | omega | (simp; done) | (simp; omega) | (simp only [World.size_alloc, World.size_setCell, World.size_drew] at *; omega))) | (apply Box.belowD; (with_reducible assumption))))) hb1)
        have P1 : Hid (w1.cell? ⟨b, off + (k - 1) * 2, none⟩ = some (.int .i64 p)) := Lib.hid (cell_by (W := wr) (belU hb1 (by (repeat' (first | (with_reducible exact Below.refl _ _) | (with_reducible refine belS ?_ (by first | omega | (simp; done) | (simp; omega) | (simp only [World.size_alloc, World.size_setCell, World.size_drew] at *; omega))) | (with_reducible refine belA ?_ (by first | omega | (simp; done) | (simp; omega) | (simp only [World.size_alloc, World.size_setCell, World.size_drew] at *; omega))) | (with_reducible refine bel_drewN ?_ _) | (with_reducible refine Below.drew ?_) | (with_reducible assumption) | (refine Hid.out ?_; with_reducible assumption) | (apply belV; (with_reducible assumption); exact (by first | omega | (simp; done) | (simp; omega) | (simp only [World.size_alloc, World.size_setCell, World.size_drew] at *; omega)))))) (by first | omega | (simp; done) | (simp; omega) | (simp only [World.size_alloc, World.size_setCell, World.size_drew] at *; omega))) hb d0)
        clear hb1
        rw [hv]
        go_wp2_with fail
        refine hK.out _ _ ?_ (fun hHeld => ?_)
        · exact ⟨(Box.facts2 X1.out).1, (Box.facts2 X1.out).2, P1.out⟩
        clear hK K
        (try simp only [Act.put, List.setIfInBounds_toArray, List.set_cons_zero, List.set_cons_succ])
        refine takeH (i := 2) (d := 17) (v := ?_) (by kernel_rfl) (by kernel_rfl) (by kernel_rfl) (fun _ _ _ h => h) (by assumption) ⟨?_, ?_, ?_, ?_, ?_⟩ ?_
        rotate_left
        rotate_left
        · (try simp only [List.getElem?_toArray, List.getElem?_cons_succ, List.getElem?_cons_zero]); exact rfl
        · rfl
        · rfl
        · intro w' hSw; (try dsimp only at hSw); go_simp; (try with_reducible rfl)
        (try simp only [Act.put, List.setIfInBounds_toArray, List.set_cons_zero, List.set_cons_succ])
        refine takeH (i := 3) (d := 18) (v := ?_) (by kernel_rfl) (by kernel_rfl) (by kernel_rfl) (fun _ _ _ h => h) (by assumption) ⟨?_, ?_, ?_, ?_, ?_⟩ ?_
        rotate_left
        rotate_left
        · (try simp only [List.getElem?_toArray, List.getElem?_cons_succ, List.getElem?_cons_zero]); exact rfl
        · rfl
        · rfl
        · intro w' hSw; (try dsimp only at hSw); go_simp; (try with_reducible rfl)
        (try simp only [Act.put, List.setIfInBounds_toArray, List.set_cons_zero, List.set_cons_succ])
        refine takeH (i := 4) (d := 19) (v := ?_) (by kernel_rfl) (by kernel_rfl) (by kernel_rfl) (fun _ _ _ h => h) (by assumption) ⟨?_, ?_, ?_, ?_, ?_⟩ ?_
        rotate_left
        rotate_left
        · (try simp only [List.getElem?_toArray, List.getElem?_cons_succ, List.getElem?_cons_zero]); exact rfl
        · rfl
        · rfl
        · intro w' hSw; (try dsimp only at hSw); go_simp; (try with_reducible rfl)
        (try simp only [Act.put, List.setIfInBounds_toArray, List.set_cons_zero, List.set_cons_succ])
        refine takeH (i := 5) (d := 20) (v := ?_) (by kernel_rfl) (by kernel_rfl) (by kernel_rfl) (fun _ _ _ h => h) (by assumption) ⟨?_, ?_, ?_, ?_, ?_⟩ ?_
        rotate_left
        rotate_left
        · (try simp only [List.getElem?_toArray, List.getElem?_cons_succ, List.getElem?_cons_zero]); exact rfl
        · rfl
        · rfl
        · intro w' hSw; (try dsimp only at hSw); go_simp; (try with_reducible rfl)
        (try simp only [Act.put, List.setIfInBounds_toArray, List.set_cons_zero, List.set_cons_succ])
        refine takeH (i := 6) (d := 21) (v := ?_) (by kernel_rfl) (by kernel_rfl) (by kernel_rfl) (fun _ _ _ h => h) (by assumption) ⟨?_, ?_, ?_, ?_, ?_⟩ ?_
        rotate_left
        rotate_left
        · (try simp only [List.getElem?_toArray, List.getElem?_cons_succ, List.getElem?_cons_zero]); exact rfl
        · rfl
        · rfl
        · intro w' hSw; (try dsimp only at hSw); go_simp; (try with_reducible rfl)
        (try simp only [Act.put, List.setIfInBounds_toArray, List.set_cons_zero, List.set_cons_succ])
        refine takeH (i := 7) (d := 22) (v := ?_) (by kernel_rfl) (by kernel_rfl) (by kernel_rfl) (fun _ _ _ h => h) (by assumption) ⟨?_, ?_, ?_, ?_, ?_⟩ ?_
        rotate_left
        rotate_left
        · (try simp only [List.getElem?_toArray, List.getElem?_cons_succ, List.getElem?_cons_zero]); exact rfl
        · rfl
        · rfl
        · intro w' hSw; (try dsimp only at hSw); go_simp; (try with_reducible rfl)
        (try simp only [Act.put, List.setIfInBounds_toArray, List.set_cons_zero, List.set_cons_succ])
        refine takeH (i := 8) (d := 23) (v := ?_) (by kernel_rfl) (by kernel_rfl) (by kernel_rfl) (fun _ _ _ h => h) (by assumption) ⟨?_, ?_, ?_, ?_, ?_⟩ ?_
        rotate_left
        rotate_left
        · (try simp only [List.getElem?_toArray, List.getElem?_cons_succ, List.getElem?_cons_zero]); exact rfl
        · rfl
        · rfl
        · intro w' hSw; (try dsimp only at hSw); go_simp; (try with_reducible rfl)
        (try simp only [Act.put, List.setIfInBounds_toArray, List.set_cons_zero, List.set_cons_succ])
        refine takeH (i := 9) (d := 24) (v := ?_) (by kernel_rfl) (by kernel_rfl) (by kernel_rfl) (fun _ _ _ h => h) (by assumption) ⟨?_, ?_, ?_, ?_, ?_⟩ ?_
        rotate_left
        rotate_left
        · (try simp only [List.getElem?_toArray, List.getElem?_cons_succ, List.getElem?_cons_zero]); exact rfl
        · rfl
        · rfl
        · intro w' hSw; (try dsimp only at hSw); go_simp; (try with_reducible rfl)
        (try simp only [Act.put, List.setIfInBounds_toArray, List.set_cons_zero, List.set_cons_succ])
        refine takeH (i := 10) (d := 25) (v := ?_) (by kernel_rfl) (by kernel_rfl) (by kernel_rfl) (fun _ _ _ h => h) (by assumption) ⟨?_, ?_, ?_, ?_, ?_⟩ ?_
        rotate_left
        rotate_left
        · (try simp only [List.getElem?_toArray, List.getElem?_cons_succ, List.getElem?_cons_zero]); exact rfl
        · rfl
        · rfl
        · intro w' hSw; (try dsimp only at hSw); go_simp; (try with_reducible rfl)
        (try simp only [Act.put, List.setIfInBounds_toArray, List.set_cons_zero, List.set_cons_succ])
        refine takeH (i := 11) (d := 26) (v := ?_) (by kernel_rfl) (by kernel_rfl) (by kernel_rfl) (fun _ _ _ h => h) (by assumption) ⟨?_, ?_, ?_, ?_, ?_⟩ ?_
        rotate_left
        rotate_left
        · (try simp only [List.getElem?_toArray, List.getElem?_cons_succ, List.getElem?_cons_zero]); exact rfl
        · rfl
        · rfl
        · intro w' hSw; (try dsimp only at hSw); go_simp; (try with_reducible rfl)
        (try simp only [Act.put, List.setIfInBounds_toArray, List.set_cons_zero, List.set_cons_succ])
        refine takeH (i := 12) (d := 27) (v := ?_) (by kernel_rfl) (by kernel_rfl) (by kernel_rfl) (fun _ _ _ h => h) (by assumption) ⟨?_, ?_, ?_, ?_, ?_⟩ ?_
        rotate_left
        rotate_left
        · (try simp only [List.getElem?_toArray, List.getElem?_cons_succ, List.getElem?_cons_zero]); exact rfl
        · rfl
        · rfl
        · intro w' hSw; (try dsimp only at hSw); go_simp; (try with_reducible rfl)
        (try simp only [Act.put, List.setIfInBounds_toArray, List.set_cons_zero, List.set_cons_succ])
        refine takeH (i := 13) (d := 28) (v := ?_) (by kernel_rfl) (by kernel_rfl) (by kernel_rfl) (fun _ _ _ h => h) (by assumption) ⟨?_, ?_, ?_, ?_, ?_⟩ ?_
        rotate_left
        rotate_left
        · (try simp only [List.getElem?_toArray, List.getElem?_cons_succ, List.getElem?_cons_zero]); exact rfl
        · rfl
        · rfl
        · intro w' hSw; (try dsimp only at hSw); go_simp; (try with_reducible rfl)
        (try simp only [Act.put, List.setIfInBounds_toArray, List.set_cons_zero, List.set_cons_succ])
        refine takeH (i := 14) (d := 29) (v := ?_) (by kernel_rfl) (by kernel_rfl) (by kernel_rfl) (fun _ _ _ h => h) (by assumption) ⟨?_, ?_, ?_, ?_, ?_⟩ ?_
        rotate_left
        rotate_left
        · (try simp only [List.getElem?_toArray, List.getElem?_cons_succ, List.getElem?_cons_zero]); exact rfl
        · rfl
        · rfl
        · intro w' hSw; (try dsimp only at hSw); go_simp; (try with_reducible rfl)
        (try simp only [Act.put, List.setIfInBounds_toArray, List.set_cons_zero, List.set_cons_succ])
        refine takeH (i := 15) (d := 30) (v := ?_) (by kernel_rfl) (by kernel_rfl) (by kernel_rfl) (fun _ _ _ h => h) (by assumption) ⟨?_, ?_, ?_, ?_, ?_⟩ ?_
        rotate_left
        rotate_left
        · (try simp only [List.getElem?_toArray, List.getElem?_cons_succ, List.getElem?_cons_zero]); exact rfl
        · rfl
        · rfl
        · intro w' hSw; (try dsimp only at hSw); go_simp; (try with_reducible rfl)
        (try simp only [Act.put, List.setIfInBounds_toArray, List.set_cons_zero, List.set_cons_succ])
        refine takeH (i := 16) (d := 31) (v := ?_) (by kernel_rfl) (by kernel_rfl) (by kernel_rfl) (fun _ _ _ h => h) (by assumption) ⟨?_, ?_, ?_, ?_, ?_⟩ ?_
        rotate_left
        rotate_left
        · (try simp only [List.getElem?_toArray, List.getElem?_cons_succ, List.getElem?_cons_zero]); exact rfl
        · rfl
        · rfl
        · intro w' hSw; (try dsimp only at hSw); go_simp; (try with_reducible rfl)
        (try simp only [Act.put, List.setIfInBounds_toArray, List.set_cons_zero, List.set_cons_succ])
        refine takeH (i := 17) (d := 32) (v := ?_) (by kernel_rfl) (by kernel_rfl) (by kernel_rfl) (fun _ _ _ h => h) (by assumption) ⟨?_, ?_, ?_, ?_, ?_⟩ ?_
        rotate_left
        rotate_left
        · (try simp only [List.getElem?_toArray, List.getElem?_cons_succ, List.getElem?_cons_zero]); exact rfl
        · rfl
        · rfl
        · intro w' hSw; (try dsimp only at hSw); go_simp; (try with_reducible rfl)
        (try simp only [Act.put, List.setIfInBounds_toArray, List.set_cons_zero, List.set_cons_succ])
        refine wpAnyH_done (by kernel_rfl) ?_ _
        go_wp2_with fail
        go_ret
        exact ⟨ret_b E.out.symm, by (repeat' (first | (with_reducible exact Below.refl _ _) | (with_reducible refine belS ?_ (by first | omega | (simp; done) | (simp; omega) | (simp only [World.size_alloc, World.size_setCell, World.size_drew] at *; omega))) | (with_reducible refine belA ?_ (by first | omega | (simp; done) | (simp; omega) | (simp only [World.size_alloc, World.size_setCell, World.size_drew] at *; omega))) | (with_reducible refine bel_drewN ?_ _) | (with_reducible refine Below.drew ?_) | (with_reducible assumption) | (refine Hid.out ?_; with_reducible assumption) | (apply belV; (with_reducible assumption); exact (by first | omega | (simp; done) | (simp; omega) | (simp only [World.size_alloc, World.size_setCell, World.size_drew] at *; omega)))))⟩
      · have NX := Lib.hid (dAll_yes hal.out (dOk_of HX.out hv (.inr (by rw [(dut_get HP.out).1]; omega))))
        go_wp2_with fail
        refine wp_region_held_drew (S := fun w' => w'.cell? ⟨wr.heap.size, 0, none⟩ = some (.int .i64 x) ∧ w'.cell? ⟨wr.heap.size, 1, none⟩ = some (.int .i64 y) ∧ w'.cell? ⟨b, off + (k - 1) * 2, none⟩ = some (.int .i64 p)) (by kernel_rfl) ?_ (fun hHeld => ?_)
        · (refine (fun (h0 : Box _ wr.heap.size #[.int .i64 x, .int .i64 y]) h1 => ⟨h0.at 0 rfl, h0.at 1 rfl, h1⟩) ?_ ?_; (focus ((repeat' (first | (with_reducible exact Box.new _ _ _ (by first | omega | (simp; done) | (simp; omega) | (simp only [World.size_alloc, World.size_setCell, World.size_drew] at *; omega))) | (with_reducible refine Box.far ?_ (by first | omega | (simp; done) | (simp; omega) | (simp only [World.size_alloc, World.size_setCell, World.size_drew] at *; omega)) _) | (apply Box.put3_0) | (apply Box.put3_1) | (apply Box.put3_2) | (apply Box.put2_0) | (apply Box.put2_1) | (with_reducible refine Box.alloc ?_ _) | (with_reducible refine Box.drewN ?_ _) | (with_reducible refine Box.drew ?_) | (with_reducible assumption) | (refine Hid.out ?_; with_reducible assumption) | (apply Box.only; (with_reducible assumption); exact (by first | omega | (simp; done) | (simp; omega) | (simp only [World.size_alloc, World.size_setCell, World.size_drew] at *; omega))) | (apply Box.belowD; (with_reducible assumption)))); done)); (focus (exact cell_by (W := wr) (by (repeat' (first | (with_reducible exact Below.refl _ _) | (with_reducible refine belS ?_ (by first | omega | (simp; done) | (simp; omega) | (simp only [World.size_alloc, World.size_setCell, World.size_drew] at *; omega))) | (with_reducible refine belA ?_ (by first | omega | (simp; done) | (simp; omega) | (simp only [World.size_alloc, World.size_setCell, World.size_drew] at *; omega))) | (with_reducible refine bel_drewN ?_ _) | (with_reducible refine Below.drew ?_) | (with_reducible assumption) | (refine Hid.out ?_; with_reducible assumption) | (apply belV; (with_reducible assumption); exact (by first | omega | (simp; done) | (simp; omega) | (simp only [World.size_alloc, World.size_setCell, World.size_drew] at *; omega)))))) hb d0)))
        refine takeH (i := 0) (d := 15) (v := ?_) (by kernel_rfl) (by kernel_rfl) (by kernel_rfl) (fun _ _ _ h => h) (by assumption) ⟨?_, ?_, ?_, ?_, ?_⟩ ?_
        rotate_left
        rotate_left
        · (try simp only [List.getElem?_toArray, List.getElem?_cons_succ, List.getElem?_cons_zero]); exact rfl
        · rfl
        · rfl
        · intro w' hSw; (try dsimp only at hSw); go_simp; (try with_reducible rfl)
        (try simp only [Act.put, List.setIfInBounds_toArray, List.set_cons_zero, List.set_cons_succ])
        refine wpAnyH_ready (rs := [1]) (by kernel_rfl) (by simp) ?_
        refine AllReadyH.cons (o := ?_) ?_ (fun K hK => ?_) AllReadyH.nil
        rotate_left
        · (try simp only [List.getElem?_toArray, List.getElem?_cons_succ, List.getElem?_cons_zero]); exact rfl
        go_simp
        refine (impl_dvalid _ _ _).mono ?_
        rintro e w1 ⟨rfl, hb1⟩
        have G1 : Hid (Below w.heap.size w w1) := belU hb1 (by (repeat' (first | (with_reducible exact Below.refl _ _) | (with_reducible refine belS ?_ (by first | omega | (simp; done) | (simp; omega) | (simp only [World.size_alloc, World.size_setCell, World.size_drew] at *; omega))) | (with_reducible refine belA ?_ (by first | omega | (simp; done) | (simp; omega) | (simp only [World.size_alloc, World.size_setCell, World.size_drew] at *; omega))) | (with_reducible refine bel_drewN ?_ _) | (with_reducible refine Below.drew ?_) | (with_reducible assumption) | (refine Hid.out ?_; with_reducible assumption) | (apply belV; (with_reducible assumption); exact (by first | omega | (simp; done) | (simp; omega) | (simp only [World.size_alloc, World.size_setCell, World.size_drew] at *; omega)))))) (by first | omega | (simp; done) | (simp; omega) | (simp only [World.size_alloc, World.size_setCell, World.size_drew] at *; omega))
        have X1 : Hid (Box w1 wr.heap.size #[.int .i64 x, .int .i64 y]) := Lib.hid (Box.below (by (repeat' (first | (with_reducible exact Box.new _ _ _ (by first | omega | (simp; done) | (simp; omega) | (simp only [World.size_alloc, World.size_setCell, World.size_drew] at *; omega))) | (with_reducible refine Box.far ?_ (by first | omega | (simp; done) | (simp; omega) | (simp only [World.size_alloc, World.size_setCell, World.size_drew] at *; omega)) _) | (apply Box.put3_0) | (apply Box.put3_1) | (apply Box.put3_2) | (apply Box.put2_0) | (apply Box.put2_1) | (with_reducible refine Box.alloc ?_ _) | (with_reducible refine Box.drewN ?_ _) | (with_reducible refine Box.drew ?_) | (with_reducible assumption) | (refine Hid.out ?_; with_reducible assumption) | (apply Box.only; (with_reducible assumption); exact (by first | omega | (simp; done) | (simp; omega) | (simp only [World.size_alloc, World.size_setCell, World.size_drew] at *; omega))) | (apply Box.belowD; (with_reducible assumption))))) hb1)
        have P1 : Hid (w1.cell? ⟨b, off + (k - 1) * 2, none⟩ = some (.int .i64 p)) := Lib.hid (cell_by (W := wr) (belU hb1 (by (repeat' (first | (with_reducible exact Below.refl _ _) | (with_reducible refine belS ?_ (by first | omega | (simp; done) | (simp; omega) | (simp only [World.size_alloc, World.size_setCell, World.size_drew] at *; omega))) | (with_reducible refine belA ?_ (by first | omega | (simp; done) | (simp; omega) | (simp only [World.size_alloc, World.size_setCell, World.size_drew] at *; omega))) | (with_reducible refine bel_drewN ?_ _) | (with_reducible refine Below.drew ?_) | (with_reducible assumption) | (refine Hid.out ?_; with_reducible assumption) | (apply belV; (with_reducible assumption); exact (by first | omega | (simp; done) | (simp; omega) | (simp only [World.size_alloc, World.size_setCell, World.size_drew] at *; omega)))))) (by first | omega | (simp; done) | (simp; omega) | (simp only [World.size_alloc, World.size_setCell, World.size_drew] at *; omega))) hb d0)
        clear hb1
        rw [hv]
        go_wp2_with fail
        refine hK.out _ _ ?_ (fun hHeld => ?_)
        · exact ⟨(Box.facts2 X1.out).1, (Box.facts2 X1.out).2, P1.out⟩
        clear hK K
        (try simp only [Act.put, List.setIfInBounds_toArray, List.set_cons_zero, List.set_cons_succ])
        refine takeH (i := 2) (d := 17) (v := ?_) (by kernel_rfl) (by kernel_rfl) (by kernel_rfl) (fun _ _ _ h => h) (by assumption) ⟨?_, ?_, ?_, ?_, ?_⟩ ?_
        rotate_left
        rotate_left
        · (try simp only [List.getElem?_toArray, List.getElem?_cons_succ, List.getElem?_cons_zero]); exact rfl
        · rfl
        · rfl
        · intro w' hSw; (try dsimp only at hSw); go_simp; (try with_reducible rfl)
        (try simp only [Act.put, List.setIfInBounds_toArray, List.set_cons_zero, List.set_cons_succ])
        refine takeH (i := 3) (d := 18) (v := ?_) (by kernel_rfl) (by kernel_rfl) (by kernel_rfl) (fun _ _ _ h => h) (by assumption) ⟨?_, ?_, ?_, ?_, ?_⟩ ?_
        rotate_left
        rotate_left
        · (try simp only [List.getElem?_toArray, List.getElem?_cons_succ, List.getElem?_cons_zero]); exact rfl
        · rfl
        · rfl
        · intro w' hSw; (try dsimp only at hSw); go_simp; (try with_reducible rfl)
        (try simp only [Act.put, List.setIfInBounds_toArray, List.set_cons_zero, List.set_cons_succ])
        refine takeH (i := 4) (d := 19) (v := ?_) (by kernel_rfl) (by kernel_rfl) (by kernel_rfl) (fun _ _ _ h => h) (by assumption) ⟨?_, ?_, ?_, ?_, ?_⟩ ?_
        rotate_left
        rotate_left
        · (try simp only [List.getElem?_toArray, List.getElem?_cons_succ, List.getElem?_cons_zero]); exact rfl
        · rfl
        · rfl
        · intro w' hSw; (try dsimp only at hSw); go_simp; (try with_reducible rfl)
        (try simp only [Act.put, List.setIfInBounds_toArray, List.set_cons_zero, List.set_cons_succ])
        refine takeH (i := 5) (d := 20) (v := ?_) (by kernel_rfl) (by kernel_rfl) (by kernel_rfl) (fun _ _ _ h => h) (by assumption) ⟨?_, ?_, ?_, ?_, ?_⟩ ?_
        rotate_left
        rotate_left
        · (try simp only [List.getElem?_toArray, List.getElem?_cons_succ, List.getElem?_cons_zero]); exact rfl
        · rfl
        · rfl
        · intro w' hSw; (try dsimp only at hSw); go_simp; (try with_reducible rfl)
        (try simp only [Act.put, List.setIfInBounds_toArray, List.set_cons_zero, List.set_cons_succ])
        refine takeH (i := 6) (d := 21) (v := ?_) (by kernel_rfl) (by kernel_rfl) (by kernel_rfl) (fun _ _ _ h => h) (by assumption) ⟨?_, ?_, ?_, ?_, ?_⟩ ?_
        rotate_left
        rotate_left
        · (try simp only [List.getElem?_toArray, List.getElem?_cons_succ, List.getElem?_cons_zero]); exact rfl
        · rfl
        · rfl
        · intro w' hSw; (try dsimp only at hSw); go_simp; (try with_reducible rfl)
        (try simp only [Act.put, List.setIfInBounds_toArray, List.set_cons_zero, List.set_cons_succ])
        refine takeH (i := 7) (d := 22) (v := ?_) (by kernel_rfl) (by kernel_rfl) (by kernel_rfl) (fun _ _ _ h => h) (by assumption) ⟨?_, ?_, ?_, ?_, ?_⟩ ?_
        rotate_left
        rotate_left
        · (try simp only [List.getElem?_toArray, List.getElem?_cons_succ, List.getElem?_cons_zero]); exact rfl
        · rfl
        · rfl
        · intro w' hSw; (try dsimp only at hSw); go_simp; (try with_reducible rfl)
        (try simp only [Act.put, List.setIfInBounds_toArray, List.set_cons_zero, List.set_cons_succ])
        refine takeH (i := 8) (d := 23) (v := ?_) (by kernel_rfl) (by kernel_rfl) (by kernel_rfl) (fun _ _ _ h => h) (by assumption) ⟨?_, ?_, ?_, ?_, ?_⟩ ?_
        rotate_left
        rotate_left
        · (try simp only [List.getElem?_toArray, List.getElem?_cons_succ, List.getElem?_cons_zero]); exact rfl
        · rfl
        · rfl
        · intro w' hSw; (try dsimp only at hSw); go_simp; (try with_reducible rfl)
        (try simp only [Act.put, List.setIfInBounds_toArray, List.set_cons_zero, List.set_cons_succ])
        refine takeH (i := 9) (d := 24) (v := ?_) (by kernel_rfl) (by kernel_rfl) (by kernel_rfl) (fun _ _ _ h => h) (by assumption) ⟨?_, ?_, ?_, ?_, ?_⟩ ?_
        rotate_left
        rotate_left
        · (try simp only [List.getElem?_toArray, List.getElem?_cons_succ, List.getElem?_cons_zero]); exact rfl
        · rfl
        · rfl
        · intro w' hSw; (try dsimp only at hSw); go_simp; (try with_reducible rfl)
        (try simp only [Act.put, List.setIfInBounds_toArray, List.set_cons_zero, List.set_cons_succ])
        refine takeH (i := 10) (d := 25) (v := ?_) (by kernel_rfl) (by kernel_rfl) (by kernel_rfl) (fun _ _ _ h => h) (by assumption) ⟨?_, ?_, ?_, ?_, ?_⟩ ?_
        rotate_left
        rotate_left
        · (try simp only [List.getElem?_toArray, List.getElem?_cons_succ, List.getElem?_cons_zero]); exact rfl
        · rfl
        · rfl
        · intro w' hSw; (try dsimp only at hSw); go_simp; (try with_reducible rfl)
        (try simp only [Act.put, List.setIfInBounds_toArray, List.set_cons_zero, List.set_cons_succ])
        refine takeH (i := 11) (d := 26) (v := ?_) (by kernel_rfl) (by kernel_rfl) (by kernel_rfl) (fun _ _ _ h => h) (by assumption) ⟨?_, ?_, ?_, ?_, ?_⟩ ?_
        rotate_left
        rotate_left
        · (try simp only [List.getElem?_toArray, List.getElem?_cons_succ, List.getElem?_cons_zero]); exact rfl
        · rfl
        · rfl
        · intro w' hSw; (try dsimp only at hSw); go_simp; (try with_reducible rfl)
        (try simp only [Act.put, List.setIfInBounds_toArray, List.set_cons_zero, List.set_cons_succ])
        refine takeH (i := 12) (d := 27) (v := ?_) (by kernel_rfl) (by kernel_rfl) (by kernel_rfl) (fun _ _ _ h => h) (by assumption) ⟨?_, ?_, ?_, ?_, ?_⟩ ?_
        rotate_left
        rotate_left
        · (try simp only [List.getElem?_toArray, List.getElem?_cons_succ, List.getElem?_cons_zero]); exact rfl
        · rfl
        · rfl
        · intro w' hSw; (try dsimp only at hSw); go_simp; (try with_reducible rfl)
        (try simp only [Act.put, List.setIfInBounds_toArray, List.set_cons_zero, List.set_cons_succ])
        refine takeH (i := 13) (d := 28) (v := ?_) (by kernel_rfl) (by kernel_rfl) (by kernel_rfl) (fun _ _ _ h => h) (by assumption) ⟨?_, ?_, ?_, ?_, ?_⟩ ?_
        rotate_left
        rotate_left
        · (try simp only [List.getElem?_toArray, List.getElem?_cons_succ, List.getElem?_cons_zero]); exact rfl
        · rfl
        · rfl
        · intro w' hSw; (try dsimp only at hSw); go_simp; (try with_reducible rfl)
        (try simp only [Act.put, List.setIfInBounds_toArray, List.set_cons_zero, List.set_cons_succ])
        refine takeH (i := 14) (d := 29) (v := ?_) (by kernel_rfl) (by kernel_rfl) (by kernel_rfl) (fun _ _ _ h => h) (by assumption) ⟨?_, ?_, ?_, ?_, ?_⟩ ?_
        rotate_left
        rotate_left
        · (try simp only [List.getElem?_toArray, List.getElem?_cons_succ, List.getElem?_cons_zero]); exact rfl
        · rfl
        · rfl
        · intro w' hSw; (try dsimp only at hSw); go_simp; (try with_reducible rfl)
        (try simp only [Act.put, List.setIfInBounds_toArray, List.set_cons_zero, List.set_cons_succ])
        refine takeH (i := 15) (d := 30) (v := ?_) (by kernel_rfl) (by kernel_rfl) (by kernel_rfl) (fun _ _ _ h => h) (by assumption) ⟨?_, ?_, ?_, ?_, ?_⟩ ?_
        rotate_left
        rotate_left
        · (try simp only [List.getElem?_toArray, List.getElem?_cons_succ, List.getElem?_cons_zero]); exact rfl
        · rfl
        · rfl
        · intro w' hSw; (try dsimp only at hSw); go_simp; (try with_reducible rfl)
        (try simp only [Act.put, List.setIfInBounds_toArray, List.set_cons_zero, List.set_cons_succ])
        refine takeH (i := 16) (d := 31) (v := ?_) (by kernel_rfl) (by kernel_rfl) (by kernel_rfl) (fun _ _ _ h => h) (by assumption) ⟨?_, ?_, ?_, ?_, ?_⟩ ?_
        rotate_left
        rotate_left
        · (try simp only [List.getElem?_toArray, List.getElem?_cons_succ, List.getElem?_cons_zero]); exact rfl
        · rfl
        · rfl
        · intro w' hSw; (try dsimp only at hSw); go_simp; (try with_reducible rfl)
        (try simp only [Act.put, List.setIfInBounds_toArray, List.set_cons_zero, List.set_cons_succ])
        refine takeH (i := 17) (d := 32) (v := ?_) (by kernel_rfl) (by kernel_rfl) (by kernel_rfl) (fun _ _ _ h => h) (by assumption) ⟨?_, ?_, ?_, ?_, ?_⟩ ?_
        rotate_left
        rotate_left
        · (try simp only [List.getElem?_toArray, List.getElem?_cons_succ, List.getElem?_cons_zero]); exact rfl
        · rfl
        · rfl
        · intro w' hSw; (try dsimp only at hSw); go_simp; (try with_reducible rfl)
        (try simp only [Act.put, List.setIfInBounds_toArray, List.set_cons_zero, List.set_cons_succ])
        refine wpAnyH_done (by kernel_rfl) ?_ _
        go_wp2_with fail
        go_roundw
        case rel => exact ⟨k + 1, _, _, by omega, rfl, rfl, by go_num, NX, by (refine Lib.hid ?_; (repeat' (first | (with_reducible exact Below.refl _ _) | (with_reducible refine belS ?_ (by first | omega | (simp; done) | (simp; omega) | (simp only [World.size_alloc, World.size_setCell, World.size_drew] at *; omega))) | (with_reducible refine belA ?_ (by first | omega | (simp; done) | (simp; omega) | (simp only [World.size_alloc, World.size_setCell, World.size_drew] at *; omega))) | (with_reducible refine bel_drewN ?_ _) | (with_reducible refine Below.drew ?_) | (with_reducible assumption) | (refine Hid.out ?_; with_reducible assumption) | (apply belV; (with_reducible assumption); exact (by first | omega | (simp; done) | (simp; omega) | (simp only [World.size_alloc, World.size_setCell, World.size_drew] at *; omega))))))⟩
        case measure => simp [intOf]; omega
    · have hke : k = ds.length := by have := HL.out; omega
      have E := Lib.hid (vDut_3 (ds := ds) (by rw [HL.out]; exact H6.out) hke hal.out)
      clear hke
      go_wp2_with fail
      go_ret
      exact ⟨ret_b E.out.symm, hbel.out⟩

theorem impl_validRules (rest most : Int) (w : World) : Calls Try.prog 80 #[.int .i64 rest, .int .i64 most] w fun e w' => e = .returned (.bool (inB rest 0 200 && inB most 0 9999)) ∧ Below w.heap.size w w' := by
  cases h : inB rest 0 200
  · go_enter Try.func80, Try.ntmps80
    go_wp2_with (go_at_call 88; ((with_reducible refine (impl_inRange _ _ _ _).mono ?_); rintro e w' ⟨rfl, rfl⟩))
    go_ret
    exact ⟨rfl, by (repeat' (first | (with_reducible exact Below.refl _ _) | (with_reducible refine belS ?_ (by first | omega | (simp; done) | (simp; omega) | (simp only [World.size_alloc, World.size_setCell, World.size_drew] at *; omega))) | (with_reducible refine belA ?_ (by first | omega | (simp; done) | (simp; omega) | (simp only [World.size_alloc, World.size_setCell, World.size_drew] at *; omega))) | (with_reducible refine bel_drewN ?_ _) | (with_reducible refine Below.drew ?_) | (with_reducible assumption) | (refine Hid.out ?_; with_reducible assumption) | (apply belV; (with_reducible assumption); exact (by first | omega | (simp; done) | (simp; omega) | (simp only [World.size_alloc, World.size_setCell, World.size_drew] at *; omega)))))⟩
  · go_enter Try.func80, Try.ntmps80
    go_wp2_with (go_at_call 88; ((with_reducible refine (impl_inRange _ _ _ _).mono ?_); rintro e w' ⟨rfl, rfl⟩))
    go_ret
    exact ⟨ret_b (by simp), by (repeat' (first | (with_reducible exact Below.refl _ _) | (with_reducible refine belS ?_ (by first | omega | (simp; done) | (simp; omega) | (simp only [World.size_alloc, World.size_setCell, World.size_drew] at *; omega))) | (with_reducible refine belA ?_ (by first | omega | (simp; done) | (simp; omega) | (simp only [World.size_alloc, World.size_setCell, World.size_drew] at *; omega))) | (with_reducible refine bel_drewN ?_ _) | (with_reducible refine Below.drew ?_) | (with_reducible assumption) | (refine Hid.out ?_; with_reducible assumption) | (apply belV; (with_reducible assumption); exact (by first | omega | (simp; done) | (simp; omega) | (simp only [World.size_alloc, World.size_setCell, World.size_drew] at *; omega)))))⟩
end Go.Proofs.Ytjbgjljcgdligaa
