
/-
  Quotients in lowest terms and MakeRat.
-/
import Derived.Test.YtpcfnlffamgdaabR1c
set_option linter.unusedSimpArgs false
set_option linter.unusedVariables false
namespace Go.Proofs.Ytpcfnlffamgdaab.Rat1
open Go.RowKit

theorem bel1 {w w1 : World} {o1 : Obj} (hb : Below (w.alloc o1).heap.size (w.alloc o1) w1) : Below w.heap.size w w1 :=
  ((Below.refl _ _).alloc (Nat.le_refl _) _).trans (hb.mono (by simp))
theorem bel2 {w w1 : World} {o1 o2 : Obj} (hb : Below ((w.alloc o1).alloc o2).heap.size ((w.alloc o1).alloc o2) w1) : Below w.heap.size w w1 :=
  (((Below.refl _ _).alloc (Nat.le_refl _) _).alloc (by simp) _).trans (hb.mono (by first | exact Nat.le_refl _ | (simp; done) | (simp; omega) | omega))
theorem bel3 {w w1 : World} {o1 o2 o3 : Obj} (hb : Below (((w.alloc o1).alloc o2).alloc o3).heap.size (((w.alloc o1).alloc o2).alloc o3) w1) : Below w.heap.size w w1 :=
  ((((Below.refl _ _).alloc (Nat.le_refl _) _).alloc (by simp) _).alloc (by simp; omega) _).trans (hb.mono (by first | exact Nat.le_refl _ | (simp; done) | (simp; omega) | omega))
theorem belS {B : Nat} {w w1 : World} {b o : Nat} {v : Value} (h : Below B w w1) (hb : B ≤ b) : Below B w (w1.setCell ⟨b, o, none⟩ v) := h.setCell hb _
theorem belA {B : Nat} {w w1 : World} {o : Obj} (h : Below B w w1) (hb : B ≤ w1.heap.size) : Below B w (w1.alloc o) := h.alloc hb _
theorem belT {w w1 w2 : World} (ha : Below w.heap.size w w1) (hb : Below w1.heap.size w1 w2) : Below w.heap.size w w2 := ha.trans (hb.mono ha.size)

/-- A result's own variable of two numbers, laid first: it reads as it did behind whatever writes only later blocks. -/
theorem res2 {w w1 : World} {t : TypeId} (hb : Below (w.heap.size + 1) (w.alloc (.cells #[.int .i64 0, .int .i64 0] t)) w1) :
    w1.cell? ⟨w.heap.size, 0, none⟩ = some (.int .i64 0) ∧ w1.cell? ⟨w.heap.size, 1, none⟩ = some (.int .i64 0) ∧ w1.frozen? ⟨w.heap.size, 0, none⟩ = false ∧ w1.frozen? ⟨w.heap.size, 1, none⟩ = false ∧ w.heap.size < w1.heap.size := by
  have hs := hb.size
  simp at hs
  rw [hb.cell (p := ⟨w.heap.size, 0, none⟩) (Nat.lt_succ_self _), hb.cell (p := ⟨w.heap.size, 1, none⟩) (Nat.lt_succ_self _), hb.frozen (p := ⟨w.heap.size, 0, none⟩) (Nat.lt_succ_self _), hb.frozen (p := ⟨w.heap.size, 1, none⟩) (Nat.lt_succ_self _)]
  refine ⟨?_, ?_, ?_, ?_, by omega⟩ <;> simp [World.cell?_alloc_new, go_sem]
theorem Q.gc_le (n d : Int) (h : d ≠ 0) : Q.gc n d ≤ (d.natAbs : Int) := by
  unfold Q.gc
  have h1 : Int.gcd n d ∣ d.natAbs := Nat.gcd_dvd_right _ _
  have := Nat.le_of_dvd (by omega) h1
  omega
theorem Q.go_n {n d : Int} (h0 : d ≠ 0) : (¬ d < 0 → n.tdiv (Q.gc n d) = Q.qn n d) ∧ (d < 0 → n.tdiv (-Q.gc n d) = Q.qn n d) := by
  have hd := Q.gc_dl n d
  have hp := Q.gc_pos n d h0
  unfold Q.qn
  constructor
  · intro h
    rw [if_neg h, Int.tdiv_eq_ediv, if_pos (.inr hd)]; omega
  · intro h
    rw [if_pos h, Int.tdiv_neg, Int.tdiv_eq_ediv, if_pos (.inr hd), Int.neg_ediv_of_dvd hd]; omega
theorem Q.go_d {n d : Int} (h0 : d ≠ 0) : (¬ d < 0 → d.tdiv (Q.gc n d) = Q.qd n d) ∧ (d < 0 → d.tdiv (-Q.gc n d) = Q.qd n d) ∧ (¬ d < 0 → d / (Q.gc n d) = Q.qd n d) := by
  have hd := Q.gc_dr n d
  have hp := Q.gc_pos n d h0
  unfold Q.qd
  refine ⟨?_, ?_, ?_⟩
  · intro h
    rw [if_neg h, Int.tdiv_eq_ediv, if_pos (.inr hd)]; omega
  · intro h
    rw [if_pos h, Int.tdiv_neg, Int.tdiv_eq_ediv, if_pos (.inr hd), Int.neg_ediv_of_dvd hd]; omega
  · intro h
    rw [if_neg h]

theorem Q.tdiv_le (n g : Int) : -(n.natAbs : Int) ≤ n.tdiv g ∧ n.tdiv g ≤ (n.natAbs : Int) := by
  have h : (n.tdiv g).natAbs ≤ n.natAbs := by rw [Int.natAbs_tdiv]; exact Nat.div_le_self _ _
  omega
/-- The two quotients as the walk spells them. -/
theorem Q.low_neg {n d : Int} (h1 : -9000000000000000000 ≤ n) (h2 : n ≤ 9000000000000000000) (h0 : d < 0) : wrap64 (-n.tdiv (Q.gc n d)) = Q.qn n d ∧ wrap64 (-n.tdiv (Q.gc n d)) = Q.qn n d := by
  have e := (Q.go_n (n := n) (d := d) (by omega)).2 h0
  rw [Int.tdiv_neg] at e
  have := Q.tdiv_le n (Q.gc n d)
  rw [IntWalk.wrap64_in _ ⟨by omega, by omega⟩]
  exact ⟨e, e⟩
theorem Q.low_negd {n d : Int} (h1 : -9000000000000000000 ≤ d) (h0 : d < 0) : wrap64 (-d.tdiv (Q.gc n d)) = Q.qd n d := by
  have e := (Q.go_d (n := n) (d := d) (by omega)).2.1 h0
  rw [Int.tdiv_neg] at e
  have := Q.tdiv_le d (Q.gc n d)
  rw [IntWalk.wrap64_in _ ⟨by omega, by omega⟩]
  exact e
theorem Q.low_pos {n d : Int} (h0 : 0 < d) : n.tdiv (Q.gc n d) = Q.qn n d := (Q.go_n (n := n) (d := d) (by omega)).1 (by omega)
theorem Q.gc_negabs {n d : Int} (h : d < 0) : Q.gc (n.natAbs : Int) (-d) = Q.gc n d := by
  have := Q.gc_abs n d
  have e : (d.natAbs : Int) = -d := by omega
  rwa [e] at this
theorem Q.gc_posabs {n d : Int} (h : 0 < d) : Q.gc (n.natAbs : Int) d = Q.gc n d := by
  have := Q.gc_abs n d
  have e : (d.natAbs : Int) = d := by omega
  rwa [e] at this
theorem Q.low_neg2 {n d : Int} (h0 : d < 0) : (-n).tdiv (Q.gc n d) = Q.qn n d := by
  have e := (Q.go_n (n := n) (d := d) (by omega)).2 h0
  rw [Int.tdiv_neg] at e
  rw [Int.neg_tdiv]; exact e
theorem Q.low_neg3 {n d : Int} (h0 : d < 0) : -d / (Q.gc n d) = Q.qd n d := by
  unfold Q.qd; rw [if_pos h0]

set_option maxHeartbeats 1000000 in
theorem impl_lowest (n d : Int) (w : World) (h1 : -9000000000000000000 ≤ n) (h2 : n ≤ 9000000000000000000) (h3 : -9000000000000000000 ≤ d) (h4 : d ≤ 9000000000000000000) (h0 : d ≠ 0) :
    Calls Try.prog 74 #[.int .i64 n, .int .i64 d] w fun e w' => e = .returned (.agg #[.int .i64 (Q.qn n d), .int .i64 (Q.qd n d)]) ∧ Below w.heap.size w w' := by
  have hp := Q.gc_pos n d h0
  have hl := Q.gc_le n d h0
  have G := Lib.hid (Q.gc_abs n d)
  by_cases hd : d < 0
  · have E1 := Lib.hid (Q.low_neg h1 h2 hd).1
    have E2 := Lib.hid (Q.low_negd (n := n) h3 hd)
    clear h0
    go_enter Try.func74, Try.ntmps74
    go_wp2_with fail
    refine (impl_abs _ _ (by omega) (by omega)).mono ?_
    rintro e w' ⟨rfl, rfl⟩
    go_wp2_with fail
    refine (impl_abs _ _ (by omega) (by omega)).mono ?_
    rintro e w' ⟨rfl, rfl⟩
    go_wp2_with fail
    refine (impl_divisor _ _ _ (by omega) (by omega) (by omega) (by omega)).mono ?_
    rintro e w' ⟨rfl, n1, rfl⟩
    rw [G.out]
    go_wp2_with fail
    go_region
    all_goals
      go_wp2
      rw [E1.out, E2.out]
      refine bodyPost_ret (v := .agg #[.int .i64 (Q.qn n d), .int .i64 (Q.qd n d)]) (by simp [results, Try.results74, go_sem]) rfl ⟨rfl, ?_⟩
      exact belS (belS (bel_drewN (belA (Below.refl _ _) (Nat.le_refl _)) _) (Nat.le_refl _)) (Nat.le_refl _)
  · have hd0 : 0 < d := by omega
    have E1 := Lib.hid (Q.low_pos (n := n) hd0)
    have E2 := Lib.hid ((Q.go_d (n := n) h0).2.2 hd)
    clear h0
    go_enter Try.func74, Try.ntmps74
    go_wp2_with fail
    refine (impl_abs _ _ (by omega) (by omega)).mono ?_
    rintro e w' ⟨rfl, rfl⟩
    go_wp2_with fail
    refine (impl_abs _ _ (by omega) (by omega)).mono ?_
    rintro e w' ⟨rfl, rfl⟩
    go_wp2_with fail
    refine (impl_divisor _ _ _ (by omega) (by omega) (by omega) (by omega)).mono ?_
    rintro e w' ⟨rfl, n1, rfl⟩
    rw [G.out]
    go_wp2_with fail
    go_region
    all_goals
      go_wp2
      rw [E1.out, E2.out]
      refine bodyPost_ret (v := .agg #[.int .i64 (Q.qn n d), .int .i64 (Q.qd n d)]) (by simp [results, Try.results74, go_sem]) rfl ⟨rfl, ?_⟩
      exact belS (belS (bel_drewN (belA (Below.refl _ _) (Nat.le_refl _)) _) (Nat.le_refl _)) (Nat.le_refl _)

theorem impl_checked (n d : Int) (w : World) : Calls Try.prog 75 #[.agg #[.int .i64 n, .int .i64 d]] w fun e w' => e = .returned (.tuple #[.agg #[.int .i64 (Q.sel (Q.vr n d) n), .int .i64 (Q.sel (Q.vr n d) d)], .bool (Q.vr n d)]) ∧ Below w.heap.size w w' := by
  cases h : Q.vr n d
  all_goals
    go_enter Try.func75, Try.ntmps75
    go_wp2_with fail
    refine (impl_valid _ _ _).mono ?_
    rintro e w1 ⟨rfl, hb⟩
    obtain ⟨hc, hf⟩ := bcell hb
    have hz : w.heap.size + 1 < w1.heap.size := by have := hb.size; simp at this; omega
    go_wp2_with fail
  · refine bodyPost_ret (v := .tuple #[.agg #[.int .i64 0, .int .i64 0], .bool false]) (by simp [results, Try.results75, go_sem, hc, hz, hf]) rfl ⟨rfl, ?_⟩
    exact belS (belS (bel2 hb) (by simp)) (by simp)
  · refine bodyPost_ret (v := .tuple #[.agg #[.int .i64 n, .int .i64 d], .bool true]) (by simp [results, Try.results75, go_sem, hc, hz, hf]) rfl ⟨rfl, ?_⟩
    exact belS (belS (bel2 hb) (by simp)) (by simp)


set_option maxHeartbeats 1000000 in
theorem spec_makeRat (n d : Int) (w : World) (h1 : -9000000000000000000 ≤ n) (h2 : n ≤ 9000000000000000000) (h3 : -9000000000000000000 ≤ d) (h4 : d ≤ 9000000000000000000) (h0 : d ≠ 0) :
    Calls Try.prog 123 #[.int .i64 n, .int .i64 d] w fun e w' => e = .returned (.tuple #[.agg #[.int .i64 (Q.sel (Q.vr (Q.qn n d) (Q.qd n d)) (Q.qn n d)), .int .i64 (Q.sel (Q.vr (Q.qn n d) (Q.qd n d)) (Q.qd n d))], .bool (Q.vr (Q.qn n d) (Q.qd n d))]) ∧ Below w.heap.size w w' := by
  have hp := Q.gc_pos n d h0
  have hl := Q.gc_le n d h0
  by_cases hd : d < 0
  · have G := Lib.hid (Q.gc_negabs hd (n := n))
    have E1 := Lib.hid (Q.low_neg (n := n) h1 h2 hd).1
    have E2 := Lib.hid (Q.low_negd (n := n) h3 hd)
    clear h0
    cases hv : Q.vr (Q.qn n d) (Q.qd n d)
    · go_enter Try.func123, Try.ntmps123
      go_wp2_with fail
      refine (spec_distance _ _ (by omega) (by omega)).mono ?_
      rintro e w' ⟨rfl, rfl⟩
      go_wp2_with fail
      refine (spec_gcd _ _ _ (by omega) (by omega) (by omega) (by omega)).mono ?_
      rintro e w' ⟨rfl, n1, rfl⟩
      rw [G.out]
      go_wp2_with fail
      go_region
      all_goals
        go_wp2_with fail
        rw [E1.out, E2.out]
        refine (spec_ValidRat _ _ _).mono ?_
        rintro e w1 ⟨rfl, hb⟩
        obtain ⟨r0, r1, r2, r3, _⟩ := res2 (w := w) (w1 := w1) (Below.trans (by (repeat' (first | exact Below.refl _ _ | exact Nat.le_refl _ | assumption | refine belS ?_ ?_ | refine belA ?_ ?_ | refine bel_drewN ?_ _ | (simp; done) | (simp; omega) | omega))) (hb.mono (by first | exact Nat.le_refl _ | (simp; done) | (simp; omega) | omega)))
        obtain ⟨hc, hf⟩ := bcell hb
        have hz : w.heap.size + 1 < w1.heap.size := by have := hb.size; simp at this; omega
        go_wp2_with fail
        have hbb : Below w.heap.size w w1 := Below.trans (by (repeat' (first | exact Below.refl _ _ | exact Nat.le_refl _ | assumption | refine belS ?_ ?_ | refine belA ?_ ?_ | refine bel_drewN ?_ _ | (simp; done) | (simp; omega) | omega))) (hb.mono (by first | exact Nat.le_refl _ | (simp; done) | (simp; omega) | omega))
        refine bodyPost_ret (v := .tuple #[.agg #[.int .i64 (Q.sel false (Q.qn n d)), .int .i64 (Q.sel false (Q.qd n d))], .bool false]) (by simp [results, Try.results123, go_sem, r0, r1, r2, r3, hz, Q.sel]) rfl ⟨rfl, ?_⟩
        (repeat' (first | exact Below.refl _ _ | exact Nat.le_refl _ | assumption | refine belS ?_ ?_ | refine belA ?_ ?_ | refine bel_drewN ?_ _ | (simp; done) | (simp; omega) | omega))
    · go_enter Try.func123, Try.ntmps123
      go_wp2_with fail
      refine (spec_distance _ _ (by omega) (by omega)).mono ?_
      rintro e w' ⟨rfl, rfl⟩
      go_wp2_with fail
      refine (spec_gcd _ _ _ (by omega) (by omega) (by omega) (by omega)).mono ?_
      rintro e w' ⟨rfl, n1, rfl⟩
      rw [G.out]
      go_wp2_with fail
      go_region
      all_goals
        go_wp2_with fail
        rw [E1.out, E2.out]
        refine (spec_ValidRat _ _ _).mono ?_
        rintro e w1 ⟨rfl, hb⟩
        obtain ⟨r0, r1, r2, r3, _⟩ := res2 (w := w) (w1 := w1) (Below.trans (by (repeat' (first | exact Below.refl _ _ | exact Nat.le_refl _ | assumption | refine belS ?_ ?_ | refine belA ?_ ?_ | refine bel_drewN ?_ _ | (simp; done) | (simp; omega) | omega))) (hb.mono (by first | exact Nat.le_refl _ | (simp; done) | (simp; omega) | omega)))
        obtain ⟨hc, hf⟩ := bcell hb
        have hz : w.heap.size + 1 < w1.heap.size := by have := hb.size; simp at this; omega
        go_wp2_with fail
        have hbb : Below w.heap.size w w1 := Below.trans (by (repeat' (first | exact Below.refl _ _ | exact Nat.le_refl _ | assumption | refine belS ?_ ?_ | refine belA ?_ ?_ | refine bel_drewN ?_ _ | (simp; done) | (simp; omega) | omega))) (hb.mono (by first | exact Nat.le_refl _ | (simp; done) | (simp; omega) | omega))
        refine bodyPost_ret (v := .tuple #[.agg #[.int .i64 (Q.sel true (Q.qn n d)), .int .i64 (Q.sel true (Q.qd n d))], .bool true]) (by simp [results, Try.results123, go_sem, r0, r1, r2, r3, hz, Q.sel]) rfl ⟨rfl, ?_⟩
        (repeat' (first | exact Below.refl _ _ | exact Nat.le_refl _ | assumption | refine belS ?_ ?_ | refine belA ?_ ?_ | refine bel_drewN ?_ _ | (simp; done) | (simp; omega) | omega))
  · have hd0 : 0 < d := by omega
    have G := Lib.hid (Q.gc_posabs hd0 (n := n))
    have E1 := Lib.hid (Q.low_pos (n := n) hd0)
    have E2 := Lib.hid ((Q.go_d (n := n) h0).2.2 hd)
    clear h0
    cases hv : Q.vr (Q.qn n d) (Q.qd n d)
    · go_enter Try.func123, Try.ntmps123
      go_wp2_with fail
      refine (spec_distance _ _ (by omega) (by omega)).mono ?_
      rintro e w' ⟨rfl, rfl⟩
      go_wp2_with fail
      refine (spec_gcd _ _ _ (by omega) (by omega) (by omega) (by omega)).mono ?_
      rintro e w' ⟨rfl, n1, rfl⟩
      rw [G.out]
      go_wp2_with fail
      go_region
      all_goals
        go_wp2_with fail
        rw [E1.out, E2.out]
        refine (spec_ValidRat _ _ _).mono ?_
        rintro e w1 ⟨rfl, hb⟩
        obtain ⟨r0, r1, r2, r3, _⟩ := res2 (w := w) (w1 := w1) (Below.trans (by (repeat' (first | exact Below.refl _ _ | exact Nat.le_refl _ | assumption | refine belS ?_ ?_ | refine belA ?_ ?_ | refine bel_drewN ?_ _ | (simp; done) | (simp; omega) | omega))) (hb.mono (by first | exact Nat.le_refl _ | (simp; done) | (simp; omega) | omega)))
        obtain ⟨hc, hf⟩ := bcell hb
        have hz : w.heap.size + 1 < w1.heap.size := by have := hb.size; simp at this; omega
        go_wp2_with fail
        have hbb : Below w.heap.size w w1 := Below.trans (by (repeat' (first | exact Below.refl _ _ | exact Nat.le_refl _ | assumption | refine belS ?_ ?_ | refine belA ?_ ?_ | refine bel_drewN ?_ _ | (simp; done) | (simp; omega) | omega))) (hb.mono (by first | exact Nat.le_refl _ | (simp; done) | (simp; omega) | omega))
        refine bodyPost_ret (v := .tuple #[.agg #[.int .i64 (Q.sel false (Q.qn n d)), .int .i64 (Q.sel false (Q.qd n d))], .bool false]) (by simp [results, Try.results123, go_sem, r0, r1, r2, r3, hz, Q.sel]) rfl ⟨rfl, ?_⟩
        (repeat' (first | exact Below.refl _ _ | exact Nat.le_refl _ | assumption | refine belS ?_ ?_ | refine belA ?_ ?_ | refine bel_drewN ?_ _ | (simp; done) | (simp; omega) | omega))
    · go_enter Try.func123, Try.ntmps123
      go_wp2_with fail
      refine (spec_distance _ _ (by omega) (by omega)).mono ?_
      rintro e w' ⟨rfl, rfl⟩
      go_wp2_with fail
      refine (spec_gcd _ _ _ (by omega) (by omega) (by omega) (by omega)).mono ?_
      rintro e w' ⟨rfl, n1, rfl⟩
      rw [G.out]
      go_wp2_with fail
      go_region
      all_goals
        go_wp2_with fail
        rw [E1.out, E2.out]
        refine (spec_ValidRat _ _ _).mono ?_
        rintro e w1 ⟨rfl, hb⟩
        obtain ⟨r0, r1, r2, r3, _⟩ := res2 (w := w) (w1 := w1) (Below.trans (by (repeat' (first | exact Below.refl _ _ | exact Nat.le_refl _ | assumption | refine belS ?_ ?_ | refine belA ?_ ?_ | refine bel_drewN ?_ _ | (simp; done) | (simp; omega) | omega))) (hb.mono (by first | exact Nat.le_refl _ | (simp; done) | (simp; omega) | omega)))
        obtain ⟨hc, hf⟩ := bcell hb
        have hz : w.heap.size + 1 < w1.heap.size := by have := hb.size; simp at this; omega
        go_wp2_with fail
        have hbb : Below w.heap.size w w1 := Below.trans (by (repeat' (first | exact Below.refl _ _ | exact Nat.le_refl _ | assumption | refine belS ?_ ?_ | refine belA ?_ ?_ | refine bel_drewN ?_ _ | (simp; done) | (simp; omega) | omega))) (hb.mono (by first | exact Nat.le_refl _ | (simp; done) | (simp; omega) | omega))
        refine bodyPost_ret (v := .tuple #[.agg #[.int .i64 (Q.sel true (Q.qn n d)), .int .i64 (Q.sel true (Q.qd n d))], .bool true]) (by simp [results, Try.results123, go_sem, r0, r1, r2, r3, hz, Q.sel]) rfl ⟨rfl, ?_⟩
        (repeat' (first | exact Below.refl _ _ | exact Nat.le_refl _ | assumption | refine belS ?_ ?_ | refine belA ?_ ?_ | refine bel_drewN ?_ _ | (simp; done) | (simp; omega) | omega))
end Go.Proofs.Ytpcfnlffamgdaab.Rat1
