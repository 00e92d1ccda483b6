
/-
  Sums of products and whether rows hold: what the program's functions and the model's return.
-/
import Derived.Test.YtpcfnlffamgdaabRw
set_option linter.unusedSimpArgs false
set_option linter.unusedVariables false
namespace Go.Proofs.Ytpcfnlffamgdaab
open Go.RowKit

theorem mac_step {xs ys : List Int} {k : Nat} {x y : Int} (hx : xs[k]? = some x) (hy : ys[k]? = some y) : wrap64 (fold (mac xs ys) k + wrap64 (x * y)) = fold (mac xs ys) (k + 1) := by
  show _ = mac xs ys k (fold (mac xs ys) k)
  unfold mac; rw [getD_of hx, getD_of hy]

set_option maxHeartbeats 1000000 in
theorem impl_sumOfProducts (A A' : Option Addr) (n n' c c' : Nat) (xs ys : List Int) (w : World) (hI : Ints w A n xs) (hJ : Ints w A' n' ys) (hn : n ≤ maxLen) (hnn : n ≤ n') (hn' : n' ≤ maxLen) :
    Calls Try.prog 116 #[.slice A n c, .slice A' n' c'] w fun e w' => e = .returned (.int .i64 (dotW xs ys)) ∧ w = w' := by
  unfold maxLen at hn hn'
  have HI := Lib.hid hI; clear hI
  have HJ := Lib.hid hJ; clear hJ
  go_enter Try.func116, Try.ntmps116
  go_wp2
  go_loop [5, 6, 7, 10] (fun s5 s6 s7 s10 => ∃ (k : Nat) (u v : Value), k ≤ n ∧ s5 = .int .i64 (fold (mac xs ys) k) ∧ s6 = u ∧ s7 = v ∧ s10 = .int .i64 k) (fun _ _ _ s10 => n - (intOf s10).toNat)
  case atStart => exact ⟨0, _, _, by omega, rfl, rfl, rfl, rfl⟩
  case round =>
    obtain ⟨k, u, v, hk, rfl, rfl, rfl, rfl⟩ := hrel
    by_cases hlt : k < n
    · obtain ⟨b, off, x, rfl, hb, hx, hlo, hhi, hc⟩ := HI.out.at_ hlt
      obtain ⟨b', off', y, rfl, hb', hy, hlo', hhi', hc'⟩ := HJ.out.at_ (show k < n' by omega)
      have HS := Lib.hid (mac_step hx hy)
      clear hx hy
      go_wp2
      go_round
      case rel => exact ⟨k + 1, _, _, by omega, by rw [HS.out], rfl, rfl, by go_num⟩
      case measure => simp [intOf]; omega
    · have hl := HI.out.len
      have hke : k = n := by omega
      subst hke
      have HL := Lib.hid hl; clear hl
      go_wp2
      go_ret
      exact ⟨ret_i (by unfold dotW; rw [HL.out]), rfl⟩

set_option maxHeartbeats 1000000 in
theorem spec_dot (A A' : Option Addr) (n n' c c' : Nat) (xs ys : List Int) (w : World) (hI : Ints w A n xs) (hJ : Ints w A' n' ys) (hn : n ≤ maxLen) (hnn : n ≤ n') (hn' : n' ≤ maxLen) :
    Calls Try.prog 97 #[.slice A n c, .slice A' n' c'] w fun e w' => e = .returned (.int .i64 (dotW xs ys)) ∧ ∃ m, w' = w.drewN m := by
  unfold maxLen at hn hn'
  have HI := Lib.hid hI; clear hI
  have HJ := Lib.hid hJ; clear hJ
  go_enter Try.func97, Try.ntmps97
  go_wp2
  go_loopw [5, 6] (fun s5 s6 wr => ∃ (k : Nat), k ≤ n ∧ s5 = .int .i64 (fold (mac xs ys) k) ∧ s6 = .int .i64 k ∧ ∃ m, wr = w.drewN m) (fun _ s6 _ => n - (intOf s6).toNat)
  case atStart => exact ⟨0, by omega, rfl, rfl, 0, rfl⟩
  case round =>
    obtain ⟨k, hk, rfl, rfl, m, rfl⟩ := hrel
    by_cases hlt : k < n
    · obtain ⟨b, off, x, rfl, hb, hx, hlo, hhi, hc⟩ := HI.out.at_ hlt
      obtain ⟨b', off', y, rfl, hb', hy, hlo', hhi', hc'⟩ := HJ.out.at_ (show k < n' by omega)
      have HS := Lib.hid (mac_step hx hy)
      clear hx hy
      go_wp2
      go_quiet (fail)
      go_wp2
      go_roundw
      case rel => exact ⟨k + 1, by omega, by rw [← HS.out], by go_num, m + nq, rfl⟩
      case measure => simp [intOf]; omega
    · have hl := HI.out.len
      have hke : k = n := by omega
      subst hke
      have HL := Lib.hid hl; clear hl
      go_wp2
      go_ret
      exact ⟨ret_i (by unfold dotW; rw [HL.out]), m, rfl⟩

theorem cmp_1 {n s b : Int} (h : s = 1) : cmpW n s b = decide (n ≤ b) := by simp [cmpW, h]
theorem cmp_2 {n s b : Int} (h : s = 2) : cmpW n s b = decide (b ≤ n) := by simp [cmpW, h]
theorem cmp_3 {n s b : Int} (h1 : ¬ s = 1) (h2 : ¬ s = 2) : cmpW n s b = (n == b) := by simp [cmpW, h1, h2]; by_cases h : n = b <;> simp [h]
theorem spec_compares (n s b : Int) (w : World) : Calls Try.prog 126 #[.int .i64 n, .int .i64 s, .int .i64 b] w fun e w' => e = .returned (.bool (cmpW n s b)) ∧ w = w' := by
  by_cases h1 : s = 1
  · have E := Lib.hid (cmp_1 (n := n) (b := b) h1)
    have e1 : (s == 1) = true := by simp [h1]
    clear h1
    go_enter Try.func126, Try.ntmps126
    go_wp2
    go_ret
    exact ⟨ret_b E.out.symm, rfl⟩
  by_cases h2 : s = 2
  · have E := Lib.hid (cmp_2 (n := n) (b := b) h2)
    have e1 : (s == 1) = false := by simp [h1]
    have e2 : (s == 2) = true := by simp [h2]
    clear h1 h2
    go_enter Try.func126, Try.ntmps126
    go_wp2
    go_ret
    exact ⟨ret_b E.out.symm, rfl⟩
  · have e1 : (s == 1) = false := by simp [h1]
    have e2 : (s == 2) = false := by simp [h2]
    have E := Lib.hid (cmp_3 (n := n) (b := b) h1 h2)
    clear h1 h2
    go_enter Try.func126, Try.ntmps126
    go_wp2
    go_ret
    exact ⟨ret_b E.out.symm, rfl⟩

theorem impl_leftSide (A A' : Option Addr) (c n' c' : Nat) (r : PRow) (xs : List Int) (w : World) (hr : RowV w A c r) (hJ : Ints w A' n' xs) (hnn : r.cs.length ≤ n') (hn' : n' ≤ maxLen) :
    Calls Try.prog 120 #[.agg #[.slice A r.cs.length c, .int .i64 r.s, .int .i64 r.b], .slice A' n' c'] w fun e w' => e = .returned (.int .i64 (dotW r.cs xs)) ∧ Below w.heap.size w w' := by
  have hsm := hr.small
  have HR := Lib.hid hr; clear hr
  have HJ := Lib.hid hJ; clear hJ
  go_enter Try.func120, Try.ntmps120
  go_wp2_with fail
  refine (impl_sumOfProducts _ _ _ _ _ _ r.cs xs _ (HR.out.1.below (by (repeat' (first | (with_reducible exact Below.refl _ _) | (with_reducible refine belS ?_ (by first | omega | (simp; done) | (simp; omega) | (simp only [World.size_alloc, World.size_setCell, World.size_drew] at *; omega))) | (with_reducible refine belA ?_ (by first | omega | (simp; done) | (simp; omega) | (simp only [World.size_alloc, World.size_setCell, World.size_drew] at *; omega))) | (with_reducible refine bel_drewN ?_ _) | (with_reducible refine Below.drew ?_) | (with_reducible assumption) | (refine Hid.out ?_; with_reducible assumption) | (apply belV; (with_reducible assumption); exact (by first | omega | (simp; done) | (simp; omega) | (simp only [World.size_alloc, World.size_setCell, World.size_drew] at *; omega))))))) (HJ.out.below (by (repeat' (first | (with_reducible exact Below.refl _ _) | (with_reducible refine belS ?_ (by first | omega | (simp; done) | (simp; omega) | (simp only [World.size_alloc, World.size_setCell, World.size_drew] at *; omega))) | (with_reducible refine belA ?_ (by first | omega | (simp; done) | (simp; omega) | (simp only [World.size_alloc, World.size_setCell, World.size_drew] at *; omega))) | (with_reducible refine bel_drewN ?_ _) | (with_reducible refine Below.drew ?_) | (with_reducible assumption) | (refine Hid.out ?_; with_reducible assumption) | (apply belV; (with_reducible assumption); exact (by first | omega | (simp; done) | (simp; omega) | (simp only [World.size_alloc, World.size_setCell, World.size_drew] at *; omega))))))) hsm hnn hn').mono ?_
  rintro e w1 ⟨rfl, rfl⟩
  go_wp2_with fail
  go_ret
  exact ⟨rfl, by (repeat' (first | (with_reducible exact Below.refl _ _) | (with_reducible refine belS ?_ (by first | omega | (simp; done) | (simp; omega) | (simp only [World.size_alloc, World.size_setCell, World.size_drew] at *; omega))) | (with_reducible refine belA ?_ (by first | omega | (simp; done) | (simp; omega) | (simp only [World.size_alloc, World.size_setCell, World.size_drew] at *; omega))) | (with_reducible refine bel_drewN ?_ _) | (with_reducible refine Below.drew ?_) | (with_reducible assumption) | (refine Hid.out ?_; with_reducible assumption) | (apply belV; (with_reducible assumption); exact (by first | omega | (simp; done) | (simp; omega) | (simp only [World.size_alloc, World.size_setCell, World.size_drew] at *; omega)))))⟩

set_option maxHeartbeats 1000000 in
theorem impl_holds (A A' : Option Addr) (c n' c' : Nat) (r : PRow) (xs : List Int) (w : World) (hr : RowV w A c r) (hJ : Ints w A' n' xs) (hnn : r.cs.length ≤ n') (hn' : n' ≤ maxLen) :
    Calls Try.prog 96 #[.agg #[.slice A r.cs.length c, .int .i64 r.s, .int .i64 r.b], .slice A' n' c'] w fun e w' => e = .returned (.bool (holdsW r xs)) ∧ Below w.heap.size w w' := by
  have hsm := hr.small
  have HR := Lib.hid hr; clear hr
  have HJ := Lib.hid hJ; clear hJ
  have hb := HR.out.2.2.2.2
  obtain ⟨hb1, hb2⟩ := hb
  by_cases h1 : r.s = 1
  · have E := Lib.hid (show holdsW r xs = _ from cmp_1 h1)
    have e1 : (r.s == 1) = true := by simp [h1]
    clear h1
    go_enter Try.func96, Try.ntmps96
    go_wp2_with fail
    refine (impl_leftSide _ _ _ _ _ r xs _ (HR.out.below (by (repeat' (first | (with_reducible exact Below.refl _ _) | (with_reducible refine belS ?_ (by first | omega | (simp; done) | (simp; omega) | (simp only [World.size_alloc, World.size_setCell, World.size_drew] at *; omega))) | (with_reducible refine belA ?_ (by first | omega | (simp; done) | (simp; omega) | (simp only [World.size_alloc, World.size_setCell, World.size_drew] at *; omega))) | (with_reducible refine bel_drewN ?_ _) | (with_reducible refine Below.drew ?_) | (with_reducible assumption) | (refine Hid.out ?_; with_reducible assumption) | (apply belV; (with_reducible assumption); exact (by first | omega | (simp; done) | (simp; omega) | (simp only [World.size_alloc, World.size_setCell, World.size_drew] at *; omega))))))) (HJ.out.below (by (repeat' (first | (with_reducible exact Below.refl _ _) | (with_reducible refine belS ?_ (by first | omega | (simp; done) | (simp; omega) | (simp only [World.size_alloc, World.size_setCell, World.size_drew] at *; omega))) | (with_reducible refine belA ?_ (by first | omega | (simp; done) | (simp; omega) | (simp only [World.size_alloc, World.size_setCell, World.size_drew] at *; omega))) | (with_reducible refine bel_drewN ?_ _) | (with_reducible refine Below.drew ?_) | (with_reducible assumption) | (refine Hid.out ?_; with_reducible assumption) | (apply belV; (with_reducible assumption); exact (by first | omega | (simp; done) | (simp; omega) | (simp only [World.size_alloc, World.size_setCell, World.size_drew] at *; omega))))))) hnn hn').mono ?_
    rintro e w1 ⟨rfl, hb⟩
    have G1 : Hid (Below w.heap.size w w1) := belU hb (by (repeat' (first | (with_reducible exact Below.refl _ _) | (with_reducible refine belS ?_ (by first | omega | (simp; done) | (simp; omega) | (simp only [World.size_alloc, World.size_setCell, World.size_drew] at *; omega))) | (with_reducible refine belA ?_ (by first | omega | (simp; done) | (simp; omega) | (simp only [World.size_alloc, World.size_setCell, World.size_drew] at *; omega))) | (with_reducible refine bel_drewN ?_ _) | (with_reducible refine Below.drew ?_) | (with_reducible assumption) | (refine Hid.out ?_; with_reducible assumption) | (apply belV; (with_reducible assumption); exact (by first | omega | (simp; done) | (simp; omega) | (simp only [World.size_alloc, World.size_setCell, World.size_drew] at *; omega)))))) (by first | omega | (simp; done) | (simp; omega) | (simp only [World.size_alloc, World.size_setCell, World.size_drew] at *; omega))
    have X_1 : Hid (Box w1 (w.heap.size) #[.slice A r.cs.length c, .int .i64 r.s, .int .i64 r.b]) := Lib.hid (Box.below (by (repeat' (first | (with_reducible exact Box.new _ _ _ (by first | omega | (simp; done) | (simp; omega) | (simp only [World.size_alloc, World.size_setCell, World.size_drew] at *; omega))) | (with_reducible refine Box.far ?_ (by first | omega | (simp; done) | (simp; omega) | (simp only [World.size_alloc, World.size_setCell, World.size_drew] at *; omega)) _) | (apply Box.put3_0) | (apply Box.put3_1) | (apply Box.put3_2) | (apply Box.put2_0) | (apply Box.put2_1) | (with_reducible refine Box.alloc ?_ _) | (with_reducible refine Box.drewN ?_ _) | (with_reducible refine Box.drew ?_) | (with_reducible assumption) | (refine Hid.out ?_; with_reducible assumption) | (apply Box.only; (with_reducible assumption); exact (by first | omega | (simp; done) | (simp; omega) | (simp only [World.size_alloc, World.size_setCell, World.size_drew] at *; omega))) | (apply Box.belowD; (with_reducible assumption))))) hb)
    have yX_1 : w.heap.size < w1.heap.size := X_1.out.1
    obtain ⟨X_1c0, X_1c1, X_1c2⟩ := Box.facts3 X_1.out
    have z1 := hb.size
    (try simp at z1)
    have D1 := Lib.hid hb; clear hb
    go_wp2_with fail
    go_ret
    exact ⟨ret_b E.out.symm, by (repeat' (first | (with_reducible exact Below.refl _ _) | (with_reducible refine belS ?_ (by first | omega | (simp; done) | (simp; omega) | (simp only [World.size_alloc, World.size_setCell, World.size_drew] at *; omega))) | (with_reducible refine belA ?_ (by first | omega | (simp; done) | (simp; omega) | (simp only [World.size_alloc, World.size_setCell, World.size_drew] at *; omega))) | (with_reducible refine bel_drewN ?_ _) | (with_reducible refine Below.drew ?_) | (with_reducible assumption) | (refine Hid.out ?_; with_reducible assumption) | (apply belV; (with_reducible assumption); exact (by first | omega | (simp; done) | (simp; omega) | (simp only [World.size_alloc, World.size_setCell, World.size_drew] at *; omega)))))⟩
  by_cases h2 : r.s = 2
  · have E := Lib.hid (show holdsW r xs = _ from cmp_2 h2)
    have e1 : (r.s == 1) = false := by simp [h1]
    have e2 : (r.s == 2) = true := by simp [h2]
    clear h1 h2
    go_enter Try.func96, Try.ntmps96
    go_wp2_with fail
    refine (impl_leftSide _ _ _ _ _ r xs _ (HR.out.below (by (repeat' (first | (with_reducible exact Below.refl _ _) | (with_reducible refine belS ?_ (by first | omega | (simp; done) | (simp; omega) | (simp only [World.size_alloc, World.size_setCell, World.size_drew] at *; omega))) | (with_reducible refine belA ?_ (by first | omega | (simp; done) | (simp; omega) | (simp only [World.size_alloc, World.size_setCell, World.size_drew] at *; omega))) | (with_reducible refine bel_drewN ?_ _) | (with_reducible refine Below.drew ?_) | (with_reducible assumption) | (refine Hid.out ?_; with_reducible assumption) | (apply belV; (with_reducible assumption); exact (by first | omega | (simp; done) | (simp; omega) | (simp only [World.size_alloc, World.size_setCell, World.size_drew] at *; omega))))))) (HJ.out.below (by (repeat' (first | (with_reducible exact Below.refl _ _) | (with_reducible refine belS ?_ (by first | omega | (simp; done) | (simp; omega) | (simp only [World.size_alloc, World.size_setCell, World.size_drew] at *; omega))) | (with_reducible refine belA ?_ (by first | omega | (simp; done) | (simp; omega) | (simp only [World.size_alloc, World.size_setCell, World.size_drew] at *; omega))) | (with_reducible refine bel_drewN ?_ _) | (with_reducible refine Below.drew ?_) | (with_reducible assumption) | (refine Hid.out ?_; with_reducible assumption) | (apply belV; (with_reducible assumption); exact (by first | omega | (simp; done) | (simp; omega) | (simp only [World.size_alloc, World.size_setCell, World.size_drew] at *; omega))))))) hnn hn').mono ?_
    rintro e w1 ⟨rfl, hb⟩
    have G1 : Hid (Below w.heap.size w w1) := belU hb (by (repeat' (first | (with_reducible exact Below.refl _ _) | (with_reducible refine belS ?_ (by first | omega | (simp; done) | (simp; omega) | (simp only [World.size_alloc, World.size_setCell, World.size_drew] at *; omega))) | (with_reducible refine belA ?_ (by first | omega | (simp; done) | (simp; omega) | (simp only [World.size_alloc, World.size_setCell, World.size_drew] at *; omega))) | (with_reducible refine bel_drewN ?_ _) | (with_reducible refine Below.drew ?_) | (with_reducible assumption) | (refine Hid.out ?_; with_reducible assumption) | (apply belV; (with_reducible assumption); exact (by first | omega | (simp; done) | (simp; omega) | (simp only [World.size_alloc, World.size_setCell, World.size_drew] at *; omega)))))) (by first | omega | (simp; done) | (simp; omega) | (simp only [World.size_alloc, World.size_setCell, World.size_drew] at *; omega))
    have X_1 : Hid (Box w1 (w.heap.size) #[.slice A r.cs.length c, .int .i64 r.s, .int .i64 r.b]) := Lib.hid (Box.below (by (repeat' (first | (with_reducible exact Box.new _ _ _ (by first | omega | (simp; done) | (simp; omega) | (simp only [World.size_alloc, World.size_setCell, World.size_drew] at *; omega))) | (with_reducible refine Box.far ?_ (by first | omega | (simp; done) | (simp; omega) | (simp only [World.size_alloc, World.size_setCell, World.size_drew] at *; omega)) _) | (apply Box.put3_0) | (apply Box.put3_1) | (apply Box.put3_2) | (apply Box.put2_0) | (apply Box.put2_1) | (with_reducible refine Box.alloc ?_ _) | (with_reducible refine Box.drewN ?_ _) | (with_reducible refine Box.drew ?_) | (with_reducible assumption) | (refine Hid.out ?_; with_reducible assumption) | (apply Box.only; (with_reducible assumption); exact (by first | omega | (simp; done) | (simp; omega) | (simp only [World.size_alloc, World.size_setCell, World.size_drew] at *; omega))) | (apply Box.belowD; (with_reducible assumption))))) hb)
    have yX_1 : w.heap.size < w1.heap.size := X_1.out.1
    obtain ⟨X_1c0, X_1c1, X_1c2⟩ := Box.facts3 X_1.out
    have z1 := hb.size
    (try simp at z1)
    have D1 := Lib.hid hb; clear hb
    go_wp2_with fail
    go_ret
    exact ⟨ret_b E.out.symm, by (repeat' (first | (with_reducible exact Below.refl _ _) | (with_reducible refine belS ?_ (by first | omega | (simp; done) | (simp; omega) | (simp only [World.size_alloc, World.size_setCell, World.size_drew] at *; omega))) | (with_reducible refine belA ?_ (by first | omega | (simp; done) | (simp; omega) | (simp only [World.size_alloc, World.size_setCell, World.size_drew] at *; omega))) | (with_reducible refine bel_drewN ?_ _) | (with_reducible refine Below.drew ?_) | (with_reducible assumption) | (refine Hid.out ?_; with_reducible assumption) | (apply belV; (with_reducible assumption); exact (by first | omega | (simp; done) | (simp; omega) | (simp only [World.size_alloc, World.size_setCell, World.size_drew] at *; omega)))))⟩
  · have E := Lib.hid (show holdsW r xs = _ from cmp_3 h1 h2)
    have e1 : (r.s == 1) = false := by simp [h1]
    have e2 : (r.s == 2) = false := by simp [h2]
    clear h1 h2
    go_enter Try.func96, Try.ntmps96
    go_wp2_with fail
    refine (impl_leftSide _ _ _ _ _ r xs _ (HR.out.below (by (repeat' (first | (with_reducible exact Below.refl _ _) | (with_reducible refine belS ?_ (by first | omega | (simp; done) | (simp; omega) | (simp only [World.size_alloc, World.size_setCell, World.size_drew] at *; omega))) | (with_reducible refine belA ?_ (by first | omega | (simp; done) | (simp; omega) | (simp only [World.size_alloc, World.size_setCell, World.size_drew] at *; omega))) | (with_reducible refine bel_drewN ?_ _) | (with_reducible refine Below.drew ?_) | (with_reducible assumption) | (refine Hid.out ?_; with_reducible assumption) | (apply belV; (with_reducible assumption); exact (by first | omega | (simp; done) | (simp; omega) | (simp only [World.size_alloc, World.size_setCell, World.size_drew] at *; omega))))))) (HJ.out.below (by (repeat' (first | (with_reducible exact Below.refl _ _) | (with_reducible refine belS ?_ (by first | omega | (simp; done) | (simp; omega) | (simp only [World.size_alloc, World.size_setCell, World.size_drew] at *; omega))) | (with_reducible refine belA ?_ (by first | omega | (simp; done) | (simp; omega) | (simp only [World.size_alloc, World.size_setCell, World.size_drew] at *; omega))) | (with_reducible refine bel_drewN ?_ _) | (with_reducible refine Below.drew ?_) | (with_reducible assumption) | (refine Hid.out ?_; with_reducible assumption) | (apply belV; (with_reducible assumption); exact (by first | omega | (simp; done) | (simp; omega) | (simp only [World.size_alloc, World.size_setCell, World.size_drew] at *; omega))))))) hnn hn').mono ?_
    rintro e w1 ⟨rfl, hb⟩
    have G1 : Hid (Below w.heap.size w w1) := belU hb (by (repeat' (first | (with_reducible exact Below.refl _ _) | (with_reducible refine belS ?_ (by first | omega | (simp; done) | (simp; omega) | (simp only [World.size_alloc, World.size_setCell, World.size_drew] at *; omega))) | (with_reducible refine belA ?_ (by first | omega | (simp; done) | (simp; omega) | (simp only [World.size_alloc, World.size_setCell, World.size_drew] at *; omega))) | (with_reducible refine bel_drewN ?_ _) | (with_reducible refine Below.drew ?_) | (with_reducible assumption) | (refine Hid.out ?_; with_reducible assumption) | (apply belV; (with_reducible assumption); exact (by first | omega | (simp; done) | (simp; omega) | (simp only [World.size_alloc, World.size_setCell, World.size_drew] at *; omega)))))) (by first | omega | (simp; done) | (simp; omega) | (simp only [World.size_alloc, World.size_setCell, World.size_drew] at *; omega))
    have X_1 : Hid (Box w1 (w.heap.size) #[.slice A r.cs.length c, .int .i64 r.s, .int .i64 r.b]) := Lib.hid (Box.below (by (repeat' (first | (with_reducible exact Box.new _ _ _ (by first | omega | (simp; done) | (simp; omega) | (simp only [World.size_alloc, World.size_setCell, World.size_drew] at *; omega))) | (with_reducible refine Box.far ?_ (by first | omega | (simp; done) | (simp; omega) | (simp only [World.size_alloc, World.size_setCell, World.size_drew] at *; omega)) _) | (apply Box.put3_0) | (apply Box.put3_1) | (apply Box.put3_2) | (apply Box.put2_0) | (apply Box.put2_1) | (with_reducible refine Box.alloc ?_ _) | (with_reducible refine Box.drewN ?_ _) | (with_reducible refine Box.drew ?_) | (with_reducible assumption) | (refine Hid.out ?_; with_reducible assumption) | (apply Box.only; (with_reducible assumption); exact (by first | omega | (simp; done) | (simp; omega) | (simp only [World.size_alloc, World.size_setCell, World.size_drew] at *; omega))) | (apply Box.belowD; (with_reducible assumption))))) hb)
    have yX_1 : w.heap.size < w1.heap.size := X_1.out.1
    obtain ⟨X_1c0, X_1c1, X_1c2⟩ := Box.facts3 X_1.out
    have z1 := hb.size
    (try simp at z1)
    have D1 := Lib.hid hb; clear hb
    go_wp2_with fail
    go_ret
    exact ⟨ret_b E.out.symm, by (repeat' (first | (with_reducible exact Below.refl _ _) | (with_reducible refine belS ?_ (by first | omega | (simp; done) | (simp; omega) | (simp only [World.size_alloc, World.size_setCell, World.size_drew] at *; omega))) | (with_reducible refine belA ?_ (by first | omega | (simp; done) | (simp; omega) | (simp only [World.size_alloc, World.size_setCell, World.size_drew] at *; omega))) | (with_reducible refine bel_drewN ?_ _) | (with_reducible refine Below.drew ?_) | (with_reducible assumption) | (refine Hid.out ?_; with_reducible assumption) | (apply belV; (with_reducible assumption); exact (by first | omega | (simp; done) | (simp; omega) | (simp only [World.size_alloc, World.size_setCell, World.size_drew] at *; omega)))))⟩

set_option maxHeartbeats 1000000 in
theorem spec_rowHolds (A A' : Option Addr) (c n' c' : Nat) (r : PRow) (xs : List Int) (w : World) (hr : RowV w A c r) (hJ : Ints w A' n' xs) (hnn : r.cs.length ≤ n') (hn' : n' ≤ maxLen) :
    Calls Try.prog 119 #[.agg #[.slice A r.cs.length c, .int .i64 r.s, .int .i64 r.b], .slice A' n' c'] w fun e w' => e = .returned (.bool (holdsW r xs)) ∧ Below w.heap.size w w' := by
  have hsm := hr.small
  have HR := Lib.hid hr; clear hr
  have HJ := Lib.hid hJ; clear hJ
  have E := Lib.hid (show holdsW r xs = cmpW (dotW r.cs xs) r.s r.b from rfl)
  have R0 : Hid (RowV (w.alloc (.cells #[.slice A r.cs.length c, .int .i64 r.s, .int .i64 r.b] 73)) A c r) := HR.out.below (by (repeat' (first | (with_reducible exact Below.refl _ _) | (with_reducible refine belS ?_ (by first | omega | (simp; done) | (simp; omega) | (simp only [World.size_alloc, World.size_setCell, World.size_drew] at *; omega))) | (with_reducible refine belA ?_ (by first | omega | (simp; done) | (simp; omega) | (simp only [World.size_alloc, World.size_setCell, World.size_drew] at *; omega))) | (with_reducible refine bel_drewN ?_ _) | (with_reducible refine Below.drew ?_) | (with_reducible assumption) | (refine Hid.out ?_; with_reducible assumption) | (apply belV; (with_reducible assumption); exact (by first | omega | (simp; done) | (simp; omega) | (simp only [World.size_alloc, World.size_setCell, World.size_drew] at *; omega))))))
  have J0 : Hid (Ints (w.alloc (.cells #[.slice A r.cs.length c, .int .i64 r.s, .int .i64 r.b] 73)) A' n' xs) := HJ.out.below (by (repeat' (first | (with_reducible exact Below.refl _ _) | (with_reducible refine belS ?_ (by first | omega | (simp; done) | (simp; omega) | (simp only [World.size_alloc, World.size_setCell, World.size_drew] at *; omega))) | (with_reducible refine belA ?_ (by first | omega | (simp; done) | (simp; omega) | (simp only [World.size_alloc, World.size_setCell, World.size_drew] at *; omega))) | (with_reducible refine bel_drewN ?_ _) | (with_reducible refine Below.drew ?_) | (with_reducible assumption) | (refine Hid.out ?_; with_reducible assumption) | (apply belV; (with_reducible assumption); exact (by first | omega | (simp; done) | (simp; omega) | (simp only [World.size_alloc, World.size_setCell, World.size_drew] at *; omega))))))
  go_enter Try.func119, Try.ntmps119
  go_wp2_with fail
  go_quiet ((first
    | (go_at_call 97; exact Calls.quiet_of (spec_dot _ _ _ _ _ _ r.cs xs _ (R0.out.1.below (by (repeat' (first | (with_reducible exact Below.refl _ _) | (with_reducible refine belS ?_ (by first | omega | (simp; done) | (simp; omega) | (simp only [World.size_alloc, World.size_setCell, World.size_drew] at *; omega))) | (with_reducible refine belA ?_ (by first | omega | (simp; done) | (simp; omega) | (simp only [World.size_alloc, World.size_setCell, World.size_drew] at *; omega))) | (with_reducible refine bel_drewN ?_ _) | (with_reducible refine Below.drew ?_) | (with_reducible assumption) | (refine Hid.out ?_; with_reducible assumption) | (apply belV; (with_reducible assumption); exact (by first | omega | (simp; done) | (simp; omega) | (simp only [World.size_alloc, World.size_setCell, World.size_drew] at *; omega))))))) (J0.out.below (by (repeat' (first | (with_reducible exact Below.refl _ _) | (with_reducible refine belS ?_ (by first | omega | (simp; done) | (simp; omega) | (simp only [World.size_alloc, World.size_setCell, World.size_drew] at *; omega))) | (with_reducible refine belA ?_ (by first | omega | (simp; done) | (simp; omega) | (simp only [World.size_alloc, World.size_setCell, World.size_drew] at *; omega))) | (with_reducible refine bel_drewN ?_ _) | (with_reducible refine Below.drew ?_) | (with_reducible assumption) | (refine Hid.out ?_; with_reducible assumption) | (apply belV; (with_reducible assumption); exact (by first | omega | (simp; done) | (simp; omega) | (simp only [World.size_alloc, World.size_setCell, World.size_drew] at *; omega))))))) hsm hnn hn'))
    | (go_at_call 126; exact q_same (spec_compares _ _ _ _))))
  go_wp2_with fail
  go_ret
  exact ⟨ret_b E.out.symm, by (repeat' (first | (with_reducible exact Below.refl _ _) | (with_reducible refine belS ?_ (by first | omega | (simp; done) | (simp; omega) | (simp only [World.size_alloc, World.size_setCell, World.size_drew] at *; omega))) | (with_reducible refine belA ?_ (by first | omega | (simp; done) | (simp; omega) | (simp only [World.size_alloc, World.size_setCell, World.size_drew] at *; omega))) | (with_reducible refine bel_drewN ?_ _) | (with_reducible refine Below.drew ?_) | (with_reducible assumption) | (refine Hid.out ?_; with_reducible assumption) | (apply belV; (with_reducible assumption); exact (by first | omega | (simp; done) | (simp; omega) | (simp only [World.size_alloc, World.size_setCell, World.size_drew] at *; omega)))))⟩
def rhB (r : PRow) (xs : List Int) (n : Nat) : Bool := vRow r n && (vInts xs 0 9 && holdsW r xs)
theorem rhB_1 {r : PRow} {xs : List Int} {n : Nat} (h : vRow r n = false) : rhB r xs n = false := by simp [rhB, h]
theorem rhB_2 {r : PRow} {xs : List Int} {n : Nat} (h : vInts xs 0 9 = false) : rhB r xs n = false := by simp [rhB, h]
theorem rhB_3 {r : PRow} {xs : List Int} {n : Nat} (h1 : vRow r n = true) (h2 : vInts xs 0 9 = true) : rhB r xs n = holdsW r xs := by simp [rhB, h1, h2]
theorem vRow_len {r : PRow} {n : Nat} (h : vRow r n = true) : r.cs.length = n := by simp [vRow] at h; omega

end Go.Proofs.Ytpcfnlffamgdaab
