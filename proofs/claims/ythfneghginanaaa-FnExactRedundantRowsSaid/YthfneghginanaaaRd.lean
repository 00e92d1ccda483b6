
/-
  Rows that are redundant in a box: what the program's functions and the model's return.
-/
import Derived.Test.YthfneghginanaaaBv
import Derived.Test.YthfneghginanaaaVi
set_option linter.unusedSimpArgs false
set_option linter.unusedVariables false
namespace Go.Proofs.Ythfneghginanaaa
open Go.RowKit

/-- Whether a row holds for all points of a box. -/
def redW (r : PRow) (b : PBox) : Bool := (decide (r.s = 2) || decide (greatW r.cs b ≤ r.b)) && (decide (r.s = 1) || decide (r.b ≤ leastW r.cs b))
theorem red_1 {r : PRow} {b : PBox} (h : r.s = 1) : redW r b = decide (greatW r.cs b ≤ r.b) := by simp [redW, h]
theorem red_2 {r : PRow} {b : PBox} (h : r.s = 2) : redW r b = decide (r.b ≤ leastW r.cs b) := by simp [redW, h]
theorem red_3 {r : PRow} {b : PBox} (h1 : ¬ r.s = 1) (h2 : ¬ r.s = 2) : redW r b = (decide (greatW r.cs b ≤ r.b) && decide (r.b ≤ leastW r.cs b)) := by simp [redW, h1, h2]

/-- Coefficients and a box within the limits. -/
def Tame (cs : List Int) (b : PBox) : Prop := cs.length ≤ 5 ∧ (∀ x ∈ cs, -9 ≤ x ∧ x ≤ 9) ∧ (∀ x ∈ b.low, 0 ≤ x ∧ x ≤ 9) ∧ (∀ x ∈ b.high, 0 ≤ x ∧ x ≤ 9)
theorem getD_in {xs : List Int} {lo hi : Int} (h : ∀ x ∈ xs, lo ≤ x ∧ x ≤ hi) (h0 : lo ≤ 0) (h1 : 0 ≤ hi) (k : Nat) : lo ≤ xs.getD k 0 ∧ xs.getD k 0 ≤ hi := by
  rw [List.getD_eq_getElem?_getD]
  by_cases hk : k < xs.length
  · rw [List.getElem?_eq_getElem hk]; exact h _ (List.getElem_mem hk)
  · rw [List.getElem?_eq_none (by omega)]; exact ⟨h0, h1⟩
theorem mul_in {x y : Int} (h0 : -9 ≤ x) (h1 : x ≤ 9) (k0 : 0 ≤ y) (k1 : y ≤ 9) : -81 ≤ x * y ∧ x * y ≤ 81 := by
  have a : x * y ≤ 9 * y := Int.mul_le_mul_of_nonneg_right h1 k0
  have b : -9 * y ≤ x * y := Int.mul_le_mul_of_nonneg_right h0 k0
  omega
theorem fold_lg {cs : List Int} {b : PBox} (h : Tame cs b) : ∀ k : Nat, k ≤ 5 → -(81 * (k : Int)) ≤ fold (lstK cs b) k ∧ fold (lstK cs b) k ≤ fold (grtK cs b) k ∧ fold (grtK cs b) k ≤ 81 * (k : Int)
  | 0, _ => by simp [fold]
  | k + 1, hk => by
    obtain ⟨i1, i2, i3⟩ := fold_lg h k (by omega)
    obtain ⟨c0, c1⟩ := getD_in h.2.1 (by omega) (by omega) k
    obtain ⟨l0, l1⟩ := getD_in h.2.2.1 (by omega) (by omega) k
    obtain ⟨u0, u1⟩ := getD_in h.2.2.2 (by omega) (by omega) k
    obtain ⟨p0, p1⟩ := mul_in c0 c1 l0 l1
    obtain ⟨q0, q1⟩ := mul_in c0 c1 u0 u1
    show -(81 * ((k + 1 : Nat) : Int)) ≤ lstK cs b k (fold (lstK cs b) k) ∧ lstK cs b k (fold (lstK cs b) k) ≤ grtK cs b k (fold (grtK cs b) k) ∧ grtK cs b k (fold (grtK cs b) k) ≤ 81 * ((k + 1 : Nat) : Int)
    generalize fold (lstK cs b) k = F at *
    generalize fold (grtK cs b) k = H at *
    unfold lstK grtK lstT grtT
    generalize cs.getD k 0 * b.low.getD k 0 = P at *
    generalize cs.getD k 0 * b.high.getD k 0 = R at *
    rw [IntWalk.wrap64_in P ⟨by omega, by omega⟩, IntWalk.wrap64_in R ⟨by omega, by omega⟩]
    rw [IntWalk.wrap64_in (F + min P R) ⟨by omega, by omega⟩, IntWalk.wrap64_in (H + max P R) ⟨by omega, by omega⟩]
    omega
theorem least_le {cs : List Int} {b : PBox} (h : Tame cs b) : leastW cs b ≤ greatW cs b := (fold_lg h cs.length h.1).2.1
theorem red_eq {r : PRow} {b : PBox} (h1 : ¬ r.s = 1) (h2 : ¬ r.s = 2) (ht : Tame r.cs b) : redW r b = ((leastW r.cs b == r.b) && (greatW r.cs b == r.b)) := by
  have := least_le ht
  rw [red_3 h1 h2, Bool.eq_iff_iff]
  simp
  omega

theorem vInts_in {xs : List Int} {lo hi : Int} (h : vInts xs lo hi = true) : ∀ x ∈ xs, lo ≤ x ∧ x ≤ hi := by
  intro x hx
  rw [vInts, List.all_eq_true] at h
  exact inB_iff.1 (h x hx)
theorem isPt_in {us x : List Int} (h : isPt us x = true) (hu : ∀ y ∈ us, 0 ≤ y ∧ y ≤ 9) : ∀ y ∈ x, 0 ≤ y ∧ y ≤ 9 := by
  intro y hy
  simp only [isPt, Bool.and_eq_true, List.all_eq_true, List.mem_range] at h
  obtain ⟨i, hi⟩ := List.mem_iff_getElem?.1 hy
  have hlt : i < x.length := (List.getElem?_eq_some_iff.1 hi).1
  have h2 := inB_iff.1 (h.2 i hlt)
  rw [getD_of hi] at h2
  have := getD_in hu (by omega) (by omega) i
  omega
theorem vBox_tame {p : PProb} {b : PBox} {k : Nat} {r : PRow} (h : vBox p b = true) (hr : p.rows[k]? = some r) : Tame r.cs b := by
  obtain ⟨h1, h2, h3⟩ := vBox_parts h
  have hv := h1
  simp only [vProb, Bool.and_eq_true, List.all_eq_true] at hv
  have hrow := hv.2.2.2.2 r (List.mem_of_getElem? hr)
  simp only [vRow, Bool.and_eq_true, decide_eq_true_eq] at hrow
  have hu := vInts_in hv.2.2.2.1.2
  refine ⟨?_, vInts_in hrow.2.2.1, isPt_in h2 hu, isPt_in h3 hu⟩
  have := inB_iff.1 hrow.1
  omega

set_option maxHeartbeats 1000000 in
set_option maxRecDepth 100000 in
theorem impl_implies (A0 A1 A : Option Addr) (c0 c1 c : Nat) (b : PBox) (r : PRow) (w : World) (hb : BoxV w A0 A1 c0 c1 b) (hr : RowV w A c r) (h0 : r.cs.length ≤ b.low.length) (h1 : r.cs.length ≤ b.high.length) (ht : Tame r.cs b) :
    Calls Try.prog 37 #[.agg #[.slice A0 b.low.length c0, .slice A1 b.high.length c1], .agg #[.slice A r.cs.length c, .int .i64 r.s, .int .i64 r.b]] w fun e w' => e = .returned (.bool (redW r b)) ∧ Below w.heap.size w w' := by
  have HB := Lib.hid hb; clear hb
  have HR := Lib.hid hr; clear hr
  obtain ⟨v0, v1⟩ := HR.out.2.2.2.2
  have HT := Lib.hid ht; clear ht
  by_cases h1 : r.s = 1
  · have E := Lib.hid (red_1 (b := b) h1)
    have e1 : (r.s == 1) = true := by simp [h1]
    clear h1
    go_enter Try.func37, Try.ntmps37
    go_wp2_with fail
    refine (impl_rowRange _ _ _ _ _ _ b r _ (HB.out.below (by (repeat' (first | (with_reducible exact Below.refl _ _) | (with_reducible refine belS ?_ (by first | omega | (simp; done) | (simp; omega) | (simp only [World.size_alloc, World.size_setCell, World.size_drew] at *; omega))) | (with_reducible refine belA ?_ (by first | omega | (simp; done) | (simp; omega) | (simp only [World.size_alloc, World.size_setCell, World.size_drew] at *; omega))) | (with_reducible refine bel_drewN ?_ _) | (with_reducible refine Below.drew ?_) | (with_reducible assumption) | (refine Hid.out ?_; with_reducible assumption) | (apply belV; (with_reducible assumption); exact (by first | omega | (simp; done) | (simp; omega) | (simp only [World.size_alloc, World.size_setCell, World.size_drew] at *; omega))))))) (HR.out.below (by (repeat' (first | (with_reducible exact Below.refl _ _) | (with_reducible refine belS ?_ (by first | omega | (simp; done) | (simp; omega) | (simp only [World.size_alloc, World.size_setCell, World.size_drew] at *; omega))) | (with_reducible refine belA ?_ (by first | omega | (simp; done) | (simp; omega) | (simp only [World.size_alloc, World.size_setCell, World.size_drew] at *; omega))) | (with_reducible refine bel_drewN ?_ _) | (with_reducible refine Below.drew ?_) | (with_reducible assumption) | (refine Hid.out ?_; with_reducible assumption) | (apply belV; (with_reducible assumption); exact (by first | omega | (simp; done) | (simp; omega) | (simp only [World.size_alloc, World.size_setCell, World.size_drew] at *; omega))))))) h0 ‹_›).mono ?_
    rintro e w1 ⟨rfl, hb⟩
    have G1 : Hid (Below w.heap.size w w1) := belU hb (by (repeat' (first | (with_reducible exact Below.refl _ _) | (with_reducible refine belS ?_ (by first | omega | (simp; done) | (simp; omega) | (simp only [World.size_alloc, World.size_setCell, World.size_drew] at *; omega))) | (with_reducible refine belA ?_ (by first | omega | (simp; done) | (simp; omega) | (simp only [World.size_alloc, World.size_setCell, World.size_drew] at *; omega))) | (with_reducible refine bel_drewN ?_ _) | (with_reducible refine Below.drew ?_) | (with_reducible assumption) | (refine Hid.out ?_; with_reducible assumption) | (apply belV; (with_reducible assumption); exact (by first | omega | (simp; done) | (simp; omega) | (simp only [World.size_alloc, World.size_setCell, World.size_drew] at *; omega)))))) (by first | omega | (simp; done) | (simp; omega) | (simp only [World.size_alloc, World.size_setCell, World.size_drew] at *; omega))
    have X_1 : Hid (Box w1 (w.heap.size) #[.slice A0 b.low.length c0, .slice A1 b.high.length c1]) := Lib.hid (Box.below (by (repeat' (first | (with_reducible exact Box.new _ _ _ (by first | omega | (simp; done) | (simp; omega) | (simp only [World.size_alloc, World.size_setCell, World.size_drew] at *; omega))) | (with_reducible refine Box.far ?_ (by first | omega | (simp; done) | (simp; omega) | (simp only [World.size_alloc, World.size_setCell, World.size_drew] at *; omega)) _) | (apply Box.put3_0) | (apply Box.put3_1) | (apply Box.put3_2) | (apply Box.put2_0) | (apply Box.put2_1) | (with_reducible refine Box.alloc ?_ _) | (with_reducible refine Box.drewN ?_ _) | (with_reducible refine Box.drew ?_) | (with_reducible assumption) | (refine Hid.out ?_; with_reducible assumption) | (apply Box.only; (with_reducible assumption); exact (by first | omega | (simp; done) | (simp; omega) | (simp only [World.size_alloc, World.size_setCell, World.size_drew] at *; omega))) | (apply Box.belowD; (with_reducible assumption))))) hb)
    have yX_1 : w.heap.size < w1.heap.size := X_1.out.1
    obtain ⟨X_1c0, X_1c1⟩ := Box.facts2 X_1.out
    have Y_1 : Hid (Box w1 (w.heap.size + 1) #[.slice A r.cs.length c, .int .i64 r.s, .int .i64 r.b]) := Lib.hid (Box.below (by (repeat' (first | (with_reducible exact Box.new _ _ _ (by first | omega | (simp; done) | (simp; omega) | (simp only [World.size_alloc, World.size_setCell, World.size_drew] at *; omega))) | (with_reducible refine Box.far ?_ (by first | omega | (simp; done) | (simp; omega) | (simp only [World.size_alloc, World.size_setCell, World.size_drew] at *; omega)) _) | (apply Box.put3_0) | (apply Box.put3_1) | (apply Box.put3_2) | (apply Box.put2_0) | (apply Box.put2_1) | (with_reducible refine Box.alloc ?_ _) | (with_reducible refine Box.drewN ?_ _) | (with_reducible refine Box.drew ?_) | (with_reducible assumption) | (refine Hid.out ?_; with_reducible assumption) | (apply Box.only; (with_reducible assumption); exact (by first | omega | (simp; done) | (simp; omega) | (simp only [World.size_alloc, World.size_setCell, World.size_drew] at *; omega))) | (apply Box.belowD; (with_reducible assumption))))) hb)
    have yY_1 : w.heap.size + 1 < w1.heap.size := Y_1.out.1
    obtain ⟨Y_1c0, Y_1c1, Y_1c2⟩ := Box.facts3 Y_1.out
    have z1 := hb.size
    (try simp at z1)
    have D1 := Lib.hid hb; clear hb
    go_wp2_with fail
    go_ret
    exact ⟨ret_b E.out.symm, by (repeat' (first | (with_reducible exact Below.refl _ _) | (with_reducible refine belS ?_ (by first | omega | (simp; done) | (simp; omega) | (simp only [World.size_alloc, World.size_setCell, World.size_drew] at *; omega))) | (with_reducible refine belA ?_ (by first | omega | (simp; done) | (simp; omega) | (simp only [World.size_alloc, World.size_setCell, World.size_drew] at *; omega))) | (with_reducible refine bel_drewN ?_ _) | (with_reducible refine Below.drew ?_) | (with_reducible assumption) | (refine Hid.out ?_; with_reducible assumption) | (apply belV; (with_reducible assumption); exact (by first | omega | (simp; done) | (simp; omega) | (simp only [World.size_alloc, World.size_setCell, World.size_drew] at *; omega)))))⟩
  by_cases h2 : r.s = 2
  · have E := Lib.hid (red_2 (b := b) h2)
    have e1 : (r.s == 1) = false := by simp [h1]
    have e2 : (r.s == 2) = true := by simp [h2]
    clear h1 h2
    go_enter Try.func37, Try.ntmps37
    go_wp2_with fail
    refine (impl_rowRange _ _ _ _ _ _ b r _ (HB.out.below (by (repeat' (first | (with_reducible exact Below.refl _ _) | (with_reducible refine belS ?_ (by first | omega | (simp; done) | (simp; omega) | (simp only [World.size_alloc, World.size_setCell, World.size_drew] at *; omega))) | (with_reducible refine belA ?_ (by first | omega | (simp; done) | (simp; omega) | (simp only [World.size_alloc, World.size_setCell, World.size_drew] at *; omega))) | (with_reducible refine bel_drewN ?_ _) | (with_reducible refine Below.drew ?_) | (with_reducible assumption) | (refine Hid.out ?_; with_reducible assumption) | (apply belV; (with_reducible assumption); exact (by first | omega | (simp; done) | (simp; omega) | (simp only [World.size_alloc, World.size_setCell, World.size_drew] at *; omega))))))) (HR.out.below (by (repeat' (first | (with_reducible exact Below.refl _ _) | (with_reducible refine belS ?_ (by first | omega | (simp; done) | (simp; omega) | (simp only [World.size_alloc, World.size_setCell, World.size_drew] at *; omega))) | (with_reducible refine belA ?_ (by first | omega | (simp; done) | (simp; omega) | (simp only [World.size_alloc, World.size_setCell, World.size_drew] at *; omega))) | (with_reducible refine bel_drewN ?_ _) | (with_reducible refine Below.drew ?_) | (with_reducible assumption) | (refine Hid.out ?_; with_reducible assumption) | (apply belV; (with_reducible assumption); exact (by first | omega | (simp; done) | (simp; omega) | (simp only [World.size_alloc, World.size_setCell, World.size_drew] at *; omega))))))) h0 ‹_›).mono ?_
    rintro e w1 ⟨rfl, hb⟩
    have G1 : Hid (Below w.heap.size w w1) := belU hb (by (repeat' (first | (with_reducible exact Below.refl _ _) | (with_reducible refine belS ?_ (by first | omega | (simp; done) | (simp; omega) | (simp only [World.size_alloc, World.size_setCell, World.size_drew] at *; omega))) | (with_reducible refine belA ?_ (by first | omega | (simp; done) | (simp; omega) | (simp only [World.size_alloc, World.size_setCell, World.size_drew] at *; omega))) | (with_reducible refine bel_drewN ?_ _) | (with_reducible refine Below.drew ?_) | (with_reducible assumption) | (refine Hid.out ?_; with_reducible assumption) | (apply belV; (with_reducible assumption); exact (by first | omega | (simp; done) | (simp; omega) | (simp only [World.size_alloc, World.size_setCell, World.size_drew] at *; omega)))))) (by first | omega | (simp; done) | (simp; omega) | (simp only [World.size_alloc, World.size_setCell, World.size_drew] at *; omega))
    have X_1 : Hid (Box w1 (w.heap.size) #[.slice A0 b.low.length c0, .slice A1 b.high.length c1]) := Lib.hid (Box.below (by (repeat' (first | (with_reducible exact Box.new _ _ _ (by first | omega | (simp; done) | (simp; omega) | (simp only [World.size_alloc, World.size_setCell, World.size_drew] at *; omega))) | (with_reducible refine Box.far ?_ (by first | omega | (simp; done) | (simp; omega) | (simp only [World.size_alloc, World.size_setCell, World.size_drew] at *; omega)) _) | (apply Box.put3_0) | (apply Box.put3_1) | (apply Box.put3_2) | (apply Box.put2_0) | (apply Box.put2_1) | (with_reducible refine Box.alloc ?_ _) | (with_reducible refine Box.drewN ?_ _) | (with_reducible refine Box.drew ?_) | (with_reducible assumption) | (refine Hid.out ?_; with_reducible assumption) | (apply Box.only; (with_reducible assumption); exact (by first | omega | (simp; done) | (simp; omega) | (simp only [World.size_alloc, World.size_setCell, World.size_drew] at *; omega))) | (apply Box.belowD; (with_reducible assumption))))) hb)
    have yX_1 : w.heap.size < w1.heap.size := X_1.out.1
    obtain ⟨X_1c0, X_1c1⟩ := Box.facts2 X_1.out
    have Y_1 : Hid (Box w1 (w.heap.size + 1) #[.slice A r.cs.length c, .int .i64 r.s, .int .i64 r.b]) := Lib.hid (Box.below (by (repeat' (first | (with_reducible exact Box.new _ _ _ (by first | omega | (simp; done) | (simp; omega) | (simp only [World.size_alloc, World.size_setCell, World.size_drew] at *; omega))) | (with_reducible refine Box.far ?_ (by first | omega | (simp; done) | (simp; omega) | (simp only [World.size_alloc, World.size_setCell, World.size_drew] at *; omega)) _) | (apply Box.put3_0) | (apply Box.put3_1) | (apply Box.put3_2) | (apply Box.put2_0) | (apply Box.put2_1) | (with_reducible refine Box.alloc ?_ _) | (with_reducible refine Box.drewN ?_ _) | (with_reducible refine Box.drew ?_) | (with_reducible assumption) | (refine Hid.out ?_; with_reducible assumption) | (apply Box.only; (with_reducible assumption); exact (by first | omega | (simp; done) | (simp; omega) | (simp only [World.size_alloc, World.size_setCell, World.size_drew] at *; omega))) | (apply Box.belowD; (with_reducible assumption))))) hb)
    have yY_1 : w.heap.size + 1 < w1.heap.size := Y_1.out.1
    obtain ⟨Y_1c0, Y_1c1, Y_1c2⟩ := Box.facts3 Y_1.out
    have z1 := hb.size
    (try simp at z1)
    have D1 := Lib.hid hb; clear hb
    go_wp2_with fail
    go_ret
    exact ⟨ret_b E.out.symm, by (repeat' (first | (with_reducible exact Below.refl _ _) | (with_reducible refine belS ?_ (by first | omega | (simp; done) | (simp; omega) | (simp only [World.size_alloc, World.size_setCell, World.size_drew] at *; omega))) | (with_reducible refine belA ?_ (by first | omega | (simp; done) | (simp; omega) | (simp only [World.size_alloc, World.size_setCell, World.size_drew] at *; omega))) | (with_reducible refine bel_drewN ?_ _) | (with_reducible refine Below.drew ?_) | (with_reducible assumption) | (refine Hid.out ?_; with_reducible assumption) | (apply belV; (with_reducible assumption); exact (by first | omega | (simp; done) | (simp; omega) | (simp only [World.size_alloc, World.size_setCell, World.size_drew] at *; omega)))))⟩
  · have E := Lib.hid (red_eq h1 h2 HT.out)
    have e1 : (r.s == 1) = false := by simp [h1]
    have e2 : (r.s == 2) = false := by simp [h2]
    clear h1 h2
    cases hl : (leastW r.cs b == r.b)
    all_goals
      go_enter Try.func37, Try.ntmps37
      go_wp2_with fail
      refine (impl_rowRange _ _ _ _ _ _ b r _ (HB.out.below (by (repeat' (first | (with_reducible exact Below.refl _ _) | (with_reducible refine belS ?_ (by first | omega | (simp; done) | (simp; omega) | (simp only [World.size_alloc, World.size_setCell, World.size_drew] at *; omega))) | (with_reducible refine belA ?_ (by first | omega | (simp; done) | (simp; omega) | (simp only [World.size_alloc, World.size_setCell, World.size_drew] at *; omega))) | (with_reducible refine bel_drewN ?_ _) | (with_reducible refine Below.drew ?_) | (with_reducible assumption) | (refine Hid.out ?_; with_reducible assumption) | (apply belV; (with_reducible assumption); exact (by first | omega | (simp; done) | (simp; omega) | (simp only [World.size_alloc, World.size_setCell, World.size_drew] at *; omega))))))) (HR.out.below (by (repeat' (first | (with_reducible exact Below.refl _ _) | (with_reducible refine belS ?_ (by first | omega | (simp; done) | (simp; omega) | (simp only [World.size_alloc, World.size_setCell, World.size_drew] at *; omega))) | (with_reducible refine belA ?_ (by first | omega | (simp; done) | (simp; omega) | (simp only [World.size_alloc, World.size_setCell, World.size_drew] at *; omega))) | (with_reducible refine bel_drewN ?_ _) | (with_reducible refine Below.drew ?_) | (with_reducible assumption) | (refine Hid.out ?_; with_reducible assumption) | (apply belV; (with_reducible assumption); exact (by first | omega | (simp; done) | (simp; omega) | (simp only [World.size_alloc, World.size_setCell, World.size_drew] at *; omega))))))) h0 ‹_›).mono ?_
      rintro e w1 ⟨rfl, hb⟩
      have G1 : Hid (Below w.heap.size w w1) := belU hb (by (repeat' (first | (with_reducible exact Below.refl _ _) | (with_reducible refine belS ?_ (by first | omega | (simp; done) | (simp; omega) | (simp only [World.size_alloc, World.size_setCell, World.size_drew] at *; omega))) | (with_reducible refine belA ?_ (by first | omega | (simp; done) | (simp; omega) | (simp only [World.size_alloc, World.size_setCell, World.size_drew] at *; omega))) | (with_reducible refine bel_drewN ?_ _) | (with_reducible refine Below.drew ?_) | (with_reducible assumption) | (refine Hid.out ?_; with_reducible assumption) | (apply belV; (with_reducible assumption); exact (by first | omega | (simp; done) | (simp; omega) | (simp only [World.size_alloc, World.size_setCell, World.size_drew] at *; omega)))))) (by first | omega | (simp; done) | (simp; omega) | (simp only [World.size_alloc, World.size_setCell, World.size_drew] at *; omega))
      have X_1 : Hid (Box w1 (w.heap.size) #[.slice A0 b.low.length c0, .slice A1 b.high.length c1]) := Lib.hid (Box.below (by (repeat' (first | (with_reducible exact Box.new _ _ _ (by first | omega | (simp; done) | (simp; omega) | (simp only [World.size_alloc, World.size_setCell, World.size_drew] at *; omega))) | (with_reducible refine Box.far ?_ (by first | omega | (simp; done) | (simp; omega) | (simp only [World.size_alloc, World.size_setCell, World.size_drew] at *; omega)) _) | (apply Box.put3_0) | (apply Box.put3_1) | (apply Box.put3_2) | (apply Box.put2_0) | (apply Box.put2_1) | (with_reducible refine Box.alloc ?_ _) | (with_reducible refine Box.drewN ?_ _) | (with_reducible refine Box.drew ?_) | (with_reducible assumption) | (refine Hid.out ?_; with_reducible assumption) | (apply Box.only; (with_reducible assumption); exact (by first | omega | (simp; done) | (simp; omega) | (simp only [World.size_alloc, World.size_setCell, World.size_drew] at *; omega))) | (apply Box.belowD; (with_reducible assumption))))) hb)
      have yX_1 : w.heap.size < w1.heap.size := X_1.out.1
      obtain ⟨X_1c0, X_1c1⟩ := Box.facts2 X_1.out
      have Y_1 : Hid (Box w1 (w.heap.size + 1) #[.slice A r.cs.length c, .int .i64 r.s, .int .i64 r.b]) := Lib.hid (Box.below (by (repeat' (first | (with_reducible exact Box.new _ _ _ (by first | omega | (simp; done) | (simp; omega) | (simp only [World.size_alloc, World.size_setCell, World.size_drew] at *; omega))) | (with_reducible refine Box.far ?_ (by first | omega | (simp; done) | (simp; omega) | (simp only [World.size_alloc, World.size_setCell, World.size_drew] at *; omega)) _) | (apply Box.put3_0) | (apply Box.put3_1) | (apply Box.put3_2) | (apply Box.put2_0) | (apply Box.put2_1) | (with_reducible refine Box.alloc ?_ _) | (with_reducible refine Box.drewN ?_ _) | (with_reducible refine Box.drew ?_) | (with_reducible assumption) | (refine Hid.out ?_; with_reducible assumption) | (apply Box.only; (with_reducible assumption); exact (by first | omega | (simp; done) | (simp; omega) | (simp only [World.size_alloc, World.size_setCell, World.size_drew] at *; omega))) | (apply Box.belowD; (with_reducible assumption))))) hb)
      have yY_1 : w.heap.size + 1 < w1.heap.size := Y_1.out.1
      obtain ⟨Y_1c0, Y_1c1, Y_1c2⟩ := Box.facts3 Y_1.out
      have z1 := hb.size
      (try simp at z1)
      have D1 := Lib.hid hb; clear hb
      go_wp2_with fail
      go_ret
      exact ⟨ret_b (by rw [E.out, hl]; simp), by (repeat' (first | (with_reducible exact Below.refl _ _) | (with_reducible refine belS ?_ (by first | omega | (simp; done) | (simp; omega) | (simp only [World.size_alloc, World.size_setCell, World.size_drew] at *; omega))) | (with_reducible refine belA ?_ (by first | omega | (simp; done) | (simp; omega) | (simp only [World.size_alloc, World.size_setCell, World.size_drew] at *; omega))) | (with_reducible refine bel_drewN ?_ _) | (with_reducible refine Below.drew ?_) | (with_reducible assumption) | (refine Hid.out ?_; with_reducible assumption) | (apply belV; (with_reducible assumption); exact (by first | omega | (simp; done) | (simp; omega) | (simp only [World.size_alloc, World.size_setCell, World.size_drew] at *; omega)))))⟩
end Go.Proofs.Ythfneghginanaaa
