
/-
  Points of problems, the rows that hold for them, and their costs: what the program's functions and the model's return.
-/
import Derived.Test.YtpcfnlffamgdaabPc
import Derived.Test.YtpcfnlffamgdaabM2
set_option linter.unusedSimpArgs false
set_option linter.unusedVariables false
namespace Go.Proofs.Ytpcfnlffamgdaab
open Go.RowKit

def ptOk (us x : List Int) (i : Nat) : Bool := inB (x.getD i 0) 0 (us.getD i 0)
theorem isPt_no {us x : List Int} (h : ¬ x.length = us.length) : isPt us x = false := by simp [isPt, h]
theorem isPt_all {us x : List Int} (h : x.length = us.length) : isPt us x = (List.range x.length).all (ptOk us x) := by simp [isPt, h]; rfl
theorem range_at {n k : Nat} (h : k < n) : (List.range n)[k]? = some k := by simp [h]

set_option maxHeartbeats 1000000 in
set_option maxRecDepth 100000 in
theorem spec_isPoint (A0 A1 A2 A : Option Addr) (c0 c1 c2 n c : Nat) (p : PProb) (xs : List Int) (w : World) (hp : ProbV w A0 A1 A2 c0 c1 c2 p) (hx : Ints w A n xs) (hn : n ≤ maxLen) (hl : p.uppers.length = p.costs.length) :
    Calls Try.prog 94 #[.agg #[.slice A0 p.costs.length c0, .slice A1 p.uppers.length c1, .slice A2 p.rows.length c2], .slice A n c] w fun e w' => e = .returned (.bool (isPt p.uppers xs)) ∧ Below w.heap.size w w' := by
  have HP := Lib.hid hp
  have m0 := hp.small.1
  clear hp
  have HX := Lib.hid hx
  have hxl := Lib.hid hx.len
  clear hx
  unfold maxLen at hn m0
  by_cases h : n = p.costs.length
  rotate_left
  · have E := Lib.hid (isPt_no (us := p.uppers) (x := xs) (by rw [hxl.out]; omega))
    have hb : ((n : Int) != (p.costs.length : Int)) = true := by simp; omega
    clear h hl
    go_enter Try.func94, Try.ntmps94
    go_wp2_with fail
    go_ret
    exact ⟨ret_b E.out.symm, by (repeat' (first | (with_reducible exact Below.refl _ _) | (with_reducible refine belS ?_ (by first | omega | (simp; done) | (simp; omega) | (simp only [World.size_alloc, World.size_setCell, World.size_drew] at *; omega))) | (with_reducible refine belA ?_ (by first | omega | (simp; done) | (simp; omega) | (simp only [World.size_alloc, World.size_setCell, World.size_drew] at *; omega))) | (with_reducible refine bel_drewN ?_ _) | (with_reducible refine Below.drew ?_) | (with_reducible assumption) | (refine Hid.out ?_; with_reducible assumption) | (apply belV; (with_reducible assumption); exact (by first | omega | (simp; done) | (simp; omega) | (simp only [World.size_alloc, World.size_setCell, World.size_drew] at *; omega)))))⟩
  have hb : ((n : Int) != (p.costs.length : Int)) = false := by simp; omega
  have E := Lib.hid (isPt_all (us := p.uppers) (x := xs) (by rw [hxl.out]; omega))
  have hnu : n ≤ p.uppers.length := by omega
  clear h hl
  go_enter Try.func94, Try.ntmps94
  go_wp2_with fail
  go_loopw [5] (fun s5 wr => ∃ k : Nat, k ≤ n ∧ s5 = .int .i64 k ∧ Hid (((List.range xs.length).take k).all (ptOk p.uppers xs) = true) ∧ Hid (Box wr w.heap.size #[.slice A0 p.costs.length c0, .slice A1 p.uppers.length c1, .slice A2 p.rows.length c2]) ∧ Hid (Below w.heap.size w wr)) (fun s5 _ => n - (intOf s5).toNat)
  case atStart => exact ⟨0, by omega, rfl, all_zero, Box.new _ _ _ rfl, by (refine Lib.hid ?_; (repeat' (first | (with_reducible exact Below.refl _ _) | (with_reducible refine belS ?_ (by first | omega | (simp; done) | (simp; omega) | (simp only [World.size_alloc, World.size_setCell, World.size_drew] at *; omega))) | (with_reducible refine belA ?_ (by first | omega | (simp; done) | (simp; omega) | (simp only [World.size_alloc, World.size_setCell, World.size_drew] at *; omega))) | (with_reducible refine bel_drewN ?_ _) | (with_reducible refine Below.drew ?_) | (with_reducible assumption) | (refine Hid.out ?_; with_reducible assumption) | (apply belV; (with_reducible assumption); exact (by first | omega | (simp; done) | (simp; omega) | (simp only [World.size_alloc, World.size_setCell, World.size_drew] at *; omega))))))⟩
  case round =>
    obtain ⟨k, hk, rfl, hal, hbox, hbel⟩ := hrel
    have z0 := hbox.out.1
    obtain ⟨x0, x1, x2⟩ := Box.facts3 hbox.out
    by_cases hlt : k < n
    · obtain ⟨b, off, x, rfl, hb1, hx, hlo, hhi, hc⟩ := (HX.out.below hbel.out).at_ hlt
      obtain ⟨b', off', u, rfl, hb2, hu, hlo', hhi', hc'⟩ := (HP.out.i1.below hbel.out).at_ (show k < p.uppers.length by omega)
      have hpk : ptOk p.uppers xs k = inB x 0 u := by unfold ptOk; rw [getD_of hx, getD_of hu]
      have HK := Lib.hid hpk; clear hpk hx hu
      have hR := Lib.hid (range_at (n := xs.length) (k := k) (by rw [hxl.out]; omega))
      cases hin : inB x 0 u
      · go_wp2_with fail
        go_quiet ((go_at_call 69; exact q_same (spec_inRange _ _ _ _)))
        go_wp2_with fail
        go_ret
        exact ⟨ret_b (by rw [E.out]; exact (all_no hR.out (by rw [HK.out, hin])).symm), by (repeat' (first | (with_reducible exact Below.refl _ _) | (with_reducible refine belS ?_ (by first | omega | (simp; done) | (simp; omega) | (simp only [World.size_alloc, World.size_setCell, World.size_drew] at *; omega))) | (with_reducible refine belA ?_ (by first | omega | (simp; done) | (simp; omega) | (simp only [World.size_alloc, World.size_setCell, World.size_drew] at *; omega))) | (with_reducible refine bel_drewN ?_ _) | (with_reducible refine Below.drew ?_) | (with_reducible assumption) | (refine Hid.out ?_; with_reducible assumption) | (apply belV; (with_reducible assumption); exact (by first | omega | (simp; done) | (simp; omega) | (simp only [World.size_alloc, World.size_setCell, World.size_drew] at *; omega)))))⟩
      · go_wp2_with fail
        go_quiet ((go_at_call 69; exact q_same (spec_inRange _ _ _ _)))
        go_wp2_with fail
        go_roundw
        case rel => exact ⟨k + 1, by omega, by go_num, all_step hR.out hal.out (by rw [HK.out, hin]), hbox.out.drewN _, by (refine Lib.hid ?_; (repeat' (first | (with_reducible exact Below.refl _ _) | (with_reducible refine belS ?_ (by first | omega | (simp; done) | (simp; omega) | (simp only [World.size_alloc, World.size_setCell, World.size_drew] at *; omega))) | (with_reducible refine belA ?_ (by first | omega | (simp; done) | (simp; omega) | (simp only [World.size_alloc, World.size_setCell, World.size_drew] at *; omega))) | (with_reducible refine bel_drewN ?_ _) | (with_reducible refine Below.drew ?_) | (with_reducible assumption) | (refine Hid.out ?_; with_reducible assumption) | (apply belV; (with_reducible assumption); exact (by first | omega | (simp; done) | (simp; omega) | (simp only [World.size_alloc, World.size_setCell, World.size_drew] at *; omega))))))⟩
        case measure => simp [intOf]; omega
    · have hbel' := hbel.out
      go_wp2_with fail
      go_ret
      exact ⟨ret_b (by rw [E.out]; exact (all_end (by simp; rw [hxl.out]; omega) hal.out).symm), by (repeat' (first | (with_reducible exact Below.refl _ _) | (with_reducible refine belS ?_ (by first | omega | (simp; done) | (simp; omega) | (simp only [World.size_alloc, World.size_setCell, World.size_drew] at *; omega))) | (with_reducible refine belA ?_ (by first | omega | (simp; done) | (simp; omega) | (simp only [World.size_alloc, World.size_setCell, World.size_drew] at *; omega))) | (with_reducible refine bel_drewN ?_ _) | (with_reducible refine Below.drew ?_) | (with_reducible assumption) | (refine Hid.out ?_; with_reducible assumption) | (apply belV; (with_reducible assumption); exact (by first | omega | (simp; done) | (simp; omega) | (simp only [World.size_alloc, World.size_setCell, World.size_drew] at *; omega)))))⟩

set_option maxHeartbeats 1000000 in
set_option maxRecDepth 100000 in
theorem impl_hasPoint (A0 A1 A2 A : Option Addr) (c0 c1 c2 n c : Nat) (p : PProb) (xs : List Int) (w : World) (hp : ProbV w A0 A1 A2 c0 c1 c2 p) (hx : Ints w A n xs) (hn : n ≤ maxLen) :
    Calls Try.prog 88 #[.agg #[.slice A0 p.costs.length c0, .slice A1 p.uppers.length c1, .slice A2 p.rows.length c2], .slice A n c] w fun e w' => e = .returned (.bool (isPt p.uppers xs)) ∧ Below w.heap.size w w' := by
  have HP := Lib.hid hp
  have m0 := hp.small.2.1
  clear hp
  have HX := Lib.hid hx
  have hxl := Lib.hid hx.len
  clear hx
  unfold maxLen at hn m0
  by_cases h : n = p.uppers.length
  rotate_left
  · have E := Lib.hid (isPt_no (us := p.uppers) (x := xs) (by rw [hxl.out]; omega))
    have hb : ((n : Int) != (p.uppers.length : Int)) = true := by simp; omega
    clear h
    go_enter Try.func88, Try.ntmps88
    go_wp2_with fail
    go_ret
    exact ⟨ret_b E.out.symm, by (repeat' (first | (with_reducible exact Below.refl _ _) | (with_reducible refine belS ?_ (by first | omega | (simp; done) | (simp; omega) | (simp only [World.size_alloc, World.size_setCell, World.size_drew] at *; omega))) | (with_reducible refine belA ?_ (by first | omega | (simp; done) | (simp; omega) | (simp only [World.size_alloc, World.size_setCell, World.size_drew] at *; omega))) | (with_reducible refine bel_drewN ?_ _) | (with_reducible refine Below.drew ?_) | (with_reducible assumption) | (refine Hid.out ?_; with_reducible assumption) | (apply belV; (with_reducible assumption); exact (by first | omega | (simp; done) | (simp; omega) | (simp only [World.size_alloc, World.size_setCell, World.size_drew] at *; omega)))))⟩
  have hb : ((n : Int) != (p.uppers.length : Int)) = false := by simp; omega
  have E := Lib.hid (isPt_all (us := p.uppers) (x := xs) (by rw [hxl.out]; omega))
  have hnu : n ≤ p.uppers.length := by omega
  clear h
  go_enter Try.func88, Try.ntmps88
  go_wp2_with fail
  go_loop [5, 6, 15] (fun s5 s6 s15 => ∃ (k : Nat) (u v : Value), k ≤ n ∧ s5 = u ∧ s6 = v ∧ s15 = .int .i64 k ∧ Hid (((List.range xs.length).take k).all (ptOk p.uppers xs) = true)) (fun _ _ s15 => n - (intOf s15).toNat)
  case atStart => exact ⟨0, _, _, by omega, rfl, rfl, rfl, all_zero⟩
  case round =>
    obtain ⟨k, u1, v1, hk, rfl, rfl, rfl, hal⟩ := hrel
    by_cases hlt : k < n
    · obtain ⟨b, off, x, rfl, hb1, hx, hlo, hhi, hc⟩ := HX.out.at_ hlt
      obtain ⟨b', off', u, rfl, hb2, hu, hlo', hhi', hc'⟩ := HP.out.i1.at_ (show k < p.uppers.length by omega)
      have hpk : ptOk p.uppers xs k = inB x 0 u := by unfold ptOk; rw [getD_of hx, getD_of hu]
      have HK := Lib.hid hpk; clear hpk hx hu
      have hR := Lib.hid (range_at (n := xs.length) (k := k) (by rw [hxl.out]; omega))
      cases hin : inB x 0 u
      · go_wp2_with (go_at_call 67; ((with_reducible refine (impl_inRange _ _ _ _).mono ?_); rintro e w' ⟨rfl, rfl⟩))
        go_ret
        exact ⟨ret_b (by rw [E.out]; exact (all_no hR.out (by rw [HK.out, hin])).symm), by (repeat' (first | (with_reducible exact Below.refl _ _) | (with_reducible refine belS ?_ (by first | omega | (simp; done) | (simp; omega) | (simp only [World.size_alloc, World.size_setCell, World.size_drew] at *; omega))) | (with_reducible refine belA ?_ (by first | omega | (simp; done) | (simp; omega) | (simp only [World.size_alloc, World.size_setCell, World.size_drew] at *; omega))) | (with_reducible refine bel_drewN ?_ _) | (with_reducible refine Below.drew ?_) | (with_reducible assumption) | (refine Hid.out ?_; with_reducible assumption) | (apply belV; (with_reducible assumption); exact (by first | omega | (simp; done) | (simp; omega) | (simp only [World.size_alloc, World.size_setCell, World.size_drew] at *; omega)))))⟩
      · go_wp2_with (go_at_call 67; ((with_reducible refine (impl_inRange _ _ _ _).mono ?_); rintro e w' ⟨rfl, rfl⟩))
        go_round
        case rel => exact ⟨k + 1, _, _, by omega, rfl, rfl, by go_num, all_step hR.out hal.out (by rw [HK.out, hin])⟩
        case measure => simp [intOf]; omega
    · go_wp2_with fail
      go_ret
      exact ⟨ret_b (by rw [E.out]; exact (all_end (by simp; rw [hxl.out]; omega) hal.out).symm), by (repeat' (first | (with_reducible exact Below.refl _ _) | (with_reducible refine belS ?_ (by first | omega | (simp; done) | (simp; omega) | (simp only [World.size_alloc, World.size_setCell, World.size_drew] at *; omega))) | (with_reducible refine belA ?_ (by first | omega | (simp; done) | (simp; omega) | (simp only [World.size_alloc, World.size_setCell, World.size_drew] at *; omega))) | (with_reducible refine bel_drewN ?_ _) | (with_reducible refine Below.drew ?_) | (with_reducible assumption) | (refine Hid.out ?_; with_reducible assumption) | (apply belV; (with_reducible assumption); exact (by first | omega | (simp; done) | (simp; omega) | (simp only [World.size_alloc, World.size_setCell, World.size_drew] at *; omega)))))⟩

/-- All rows have as many coefficients as there are variables. -/
def Fits (p : PProb) (n : Nat) : Prop := ∀ r ∈ p.rows, r.cs.length ≤ n
theorem vProb_fits {p : PProb} {xs : List Int} (h : vProb p = true) (hx : isPt p.uppers xs = true) : p.uppers.length = p.costs.length ∧ xs.length = p.uppers.length ∧ Fits p xs.length := by
  simp only [vProb, Bool.and_eq_true, decide_eq_true_eq, List.all_eq_true] at h
  obtain ⟨h1, h2, h3, h4, h5⟩ := h
  simp only [isPt, Bool.and_eq_true, decide_eq_true_eq] at hx
  refine ⟨h2, hx.1, fun r hr => ?_⟩
  have := vRow_len (h5 r hr)
  omega

def allRows (p : PProb) (xs : List Int) : Bool := p.rows.all fun r => holdsW r xs
set_option maxHeartbeats 1000000 in
set_option maxRecDepth 100000 in
theorem impl_allows (A0 A1 A2 A : Option Addr) (c0 c1 c2 n c : Nat) (p : PProb) (xs : List Int) (w : World) (hp : ProbV w A0 A1 A2 c0 c1 c2 p) (hx : Ints w A n xs) (hn : n ≤ maxLen) (hf : Fits p n) :
    Calls Try.prog 87 #[.agg #[.slice A0 p.costs.length c0, .slice A1 p.uppers.length c1, .slice A2 p.rows.length c2], .slice A n c] w fun e w' => e = .returned (.bool (allRows p xs)) ∧ Below w.heap.size w w' := by
  have HP := Lib.hid hp
  have m0 := hp.small.2.2
  clear hp
  have HX := Lib.hid hx; clear hx
  have HF := Lib.hid hf; clear hf
  unfold maxLen at m0
  go_enter Try.func87, Try.ntmps87
  go_wp2_with fail
  go_loopw [6, 10] (fun s6 s10 wr => ∃ (k : Nat) (v : Value), k ≤ p.rows.length ∧ s6 = v ∧ s10 = .int .i64 k ∧ Hid ((p.rows.take k).all (fun r => holdsW r xs) = true) ∧ Hid (Below w.heap.size w wr)) (fun _ s10 _ => p.rows.length - (intOf s10).toNat)
  case atStart => exact ⟨0, _, by omega, rfl, rfl, all_zero, by (refine Lib.hid ?_; (repeat' (first | (with_reducible exact Below.refl _ _) | (with_reducible refine belS ?_ (by first | omega | (simp; done) | (simp; omega) | (simp only [World.size_alloc, World.size_setCell, World.size_drew] at *; omega))) | (with_reducible refine belA ?_ (by first | omega | (simp; done) | (simp; omega) | (simp only [World.size_alloc, World.size_setCell, World.size_drew] at *; omega))) | (with_reducible refine bel_drewN ?_ _) | (with_reducible refine Below.drew ?_) | (with_reducible assumption) | (refine Hid.out ?_; with_reducible assumption) | (apply belV; (with_reducible assumption); exact (by first | omega | (simp; done) | (simp; omega) | (simp only [World.size_alloc, World.size_setCell, World.size_drew] at *; omega))))))⟩
  case round =>
    obtain ⟨k, v, hk, rfl, rfl, hal, hbel⟩ := hrel
    have z0 := hbel.out.size
    by_cases hlt : k < p.rows.length
    · obtain ⟨b, off, r, A', c', rfl, hb, hr, hrv, k0, k1, k2⟩ := (HP.out.rs.below hbel.out).at_ hlt
      have hfl := HF.out r (List.mem_of_getElem? hr)
      have HX1 := Lib.hid hr; clear hr
      have HW : Hid (RowV (wr.alloc (.cells #[.slice A' r.cs.length c', .int .i64 r.s, .int .i64 r.b] 73)) A' c' r) := hrv.below (by (repeat' (first | (with_reducible exact Below.refl _ _) | (with_reducible refine belS ?_ (by first | omega | (simp; done) | (simp; omega) | (simp only [World.size_alloc, World.size_setCell, World.size_drew] at *; omega))) | (with_reducible refine belA ?_ (by first | omega | (simp; done) | (simp; omega) | (simp only [World.size_alloc, World.size_setCell, World.size_drew] at *; omega))) | (with_reducible refine bel_drewN ?_ _) | (with_reducible refine Below.drew ?_) | (with_reducible assumption) | (refine Hid.out ?_; with_reducible assumption) | (apply belV; (with_reducible assumption); exact (by first | omega | (simp; done) | (simp; omega) | (simp only [World.size_alloc, World.size_setCell, World.size_drew] at *; omega))))))
      clear hrv
      cases hin : holdsW r xs
      · go_wp2_with fail
        refine (impl_holds _ _ _ _ _ r xs _ (HW.out.below (by (repeat' (first | (with_reducible exact Below.refl _ _) | (with_reducible refine belS ?_ (by first | omega | (simp; done) | (simp; omega) | (simp only [World.size_alloc, World.size_setCell, World.size_drew] at *; omega))) | (with_reducible refine belA ?_ (by first | omega | (simp; done) | (simp; omega) | (simp only [World.size_alloc, World.size_setCell, World.size_drew] at *; omega))) | (with_reducible refine bel_drewN ?_ _) | (with_reducible refine Below.drew ?_) | (with_reducible assumption) | (refine Hid.out ?_; with_reducible assumption) | (apply belV; (with_reducible assumption); exact (by first | omega | (simp; done) | (simp; omega) | (simp only [World.size_alloc, World.size_setCell, World.size_drew] at *; omega))))))) (HX.out.below (by (repeat' (first | (with_reducible exact Below.refl _ _) | (with_reducible refine belS ?_ (by first | omega | (simp; done) | (simp; omega) | (simp only [World.size_alloc, World.size_setCell, World.size_drew] at *; omega))) | (with_reducible refine belA ?_ (by first | omega | (simp; done) | (simp; omega) | (simp only [World.size_alloc, World.size_setCell, World.size_drew] at *; omega))) | (with_reducible refine bel_drewN ?_ _) | (with_reducible refine Below.drew ?_) | (with_reducible assumption) | (refine Hid.out ?_; with_reducible assumption) | (apply belV; (with_reducible assumption); exact (by first | omega | (simp; done) | (simp; omega) | (simp only [World.size_alloc, World.size_setCell, World.size_drew] at *; omega))))))) hfl hn).mono ?_
        rintro e w1 ⟨rfl, hb1⟩
        have G1 : Hid (Below w.heap.size w w1) := belU hb1 (by (repeat' (first | (with_reducible exact Below.refl _ _) | (with_reducible refine belS ?_ (by first | omega | (simp; done) | (simp; omega) | (simp only [World.size_alloc, World.size_setCell, World.size_drew] at *; omega))) | (with_reducible refine belA ?_ (by first | omega | (simp; done) | (simp; omega) | (simp only [World.size_alloc, World.size_setCell, World.size_drew] at *; omega))) | (with_reducible refine bel_drewN ?_ _) | (with_reducible refine Below.drew ?_) | (with_reducible assumption) | (refine Hid.out ?_; with_reducible assumption) | (apply belV; (with_reducible assumption); exact (by first | omega | (simp; done) | (simp; omega) | (simp only [World.size_alloc, World.size_setCell, World.size_drew] at *; omega)))))) (by first | omega | (simp; done) | (simp; omega) | (simp only [World.size_alloc, World.size_setCell, World.size_drew] at *; omega))
        clear hb1
        go_wp2_with fail
        go_ret
        exact ⟨ret_b (all_no HX1.out hin).symm, by (repeat' (first | (with_reducible exact Below.refl _ _) | (with_reducible refine belS ?_ (by first | omega | (simp; done) | (simp; omega) | (simp only [World.size_alloc, World.size_setCell, World.size_drew] at *; omega))) | (with_reducible refine belA ?_ (by first | omega | (simp; done) | (simp; omega) | (simp only [World.size_alloc, World.size_setCell, World.size_drew] at *; omega))) | (with_reducible refine bel_drewN ?_ _) | (with_reducible refine Below.drew ?_) | (with_reducible assumption) | (refine Hid.out ?_; with_reducible assumption) | (apply belV; (with_reducible assumption); exact (by first | omega | (simp; done) | (simp; omega) | (simp only [World.size_alloc, World.size_setCell, World.size_drew] at *; omega)))))⟩
      · go_wp2_with fail
        refine (impl_holds _ _ _ _ _ r xs _ (HW.out.below (by (repeat' (first | (with_reducible exact Below.refl _ _) | (with_reducible refine belS ?_ (by first | omega | (simp; done) | (simp; omega) | (simp only [World.size_alloc, World.size_setCell, World.size_drew] at *; omega))) | (with_reducible refine belA ?_ (by first | omega | (simp; done) | (simp; omega) | (simp only [World.size_alloc, World.size_setCell, World.size_drew] at *; omega))) | (with_reducible refine bel_drewN ?_ _) | (with_reducible refine Below.drew ?_) | (with_reducible assumption) | (refine Hid.out ?_; with_reducible assumption) | (apply belV; (with_reducible assumption); exact (by first | omega | (simp; done) | (simp; omega) | (simp only [World.size_alloc, World.size_setCell, World.size_drew] at *; omega))))))) (HX.out.below (by (repeat' (first | (with_reducible exact Below.refl _ _) | (with_reducible refine belS ?_ (by first | omega | (simp; done) | (simp; omega) | (simp only [World.size_alloc, World.size_setCell, World.size_drew] at *; omega))) | (with_reducible refine belA ?_ (by first | omega | (simp; done) | (simp; omega) | (simp only [World.size_alloc, World.size_setCell, World.size_drew] at *; omega))) | (with_reducible refine bel_drewN ?_ _) | (with_reducible refine Below.drew ?_) | (with_reducible assumption) | (refine Hid.out ?_; with_reducible assumption) | (apply belV; (with_reducible assumption); exact (by first | omega | (simp; done) | (simp; omega) | (simp only [World.size_alloc, World.size_setCell, World.size_drew] at *; omega))))))) hfl hn).mono ?_
        rintro e w1 ⟨rfl, hb1⟩
        have G1 : Hid (Below w.heap.size w w1) := belU hb1 (by (repeat' (first | (with_reducible exact Below.refl _ _) | (with_reducible refine belS ?_ (by first | omega | (simp; done) | (simp; omega) | (simp only [World.size_alloc, World.size_setCell, World.size_drew] at *; omega))) | (with_reducible refine belA ?_ (by first | omega | (simp; done) | (simp; omega) | (simp only [World.size_alloc, World.size_setCell, World.size_drew] at *; omega))) | (with_reducible refine bel_drewN ?_ _) | (with_reducible refine Below.drew ?_) | (with_reducible assumption) | (refine Hid.out ?_; with_reducible assumption) | (apply belV; (with_reducible assumption); exact (by first | omega | (simp; done) | (simp; omega) | (simp only [World.size_alloc, World.size_setCell, World.size_drew] at *; omega)))))) (by first | omega | (simp; done) | (simp; omega) | (simp only [World.size_alloc, World.size_setCell, World.size_drew] at *; omega))
        clear hb1
        go_wp2_with fail
        go_roundw
        case rel => exact ⟨k + 1, _, by omega, rfl, by go_num, all_step HX1.out hal.out hin, G1⟩
        case measure => simp [intOf]; omega
    · have hbel' := hbel.out
      go_wp2_with fail
      go_ret
      exact ⟨ret_b (all_end (by omega) hal.out).symm, by (repeat' (first | (with_reducible exact Below.refl _ _) | (with_reducible refine belS ?_ (by first | omega | (simp; done) | (simp; omega) | (simp only [World.size_alloc, World.size_setCell, World.size_drew] at *; omega))) | (with_reducible refine belA ?_ (by first | omega | (simp; done) | (simp; omega) | (simp only [World.size_alloc, World.size_setCell, World.size_drew] at *; omega))) | (with_reducible refine bel_drewN ?_ _) | (with_reducible refine Below.drew ?_) | (with_reducible assumption) | (refine Hid.out ?_; with_reducible assumption) | (apply belV; (with_reducible assumption); exact (by first | omega | (simp; done) | (simp; omega) | (simp only [World.size_alloc, World.size_setCell, World.size_drew] at *; omega)))))⟩
end Go.Proofs.Ytpcfnlffamgdaab
