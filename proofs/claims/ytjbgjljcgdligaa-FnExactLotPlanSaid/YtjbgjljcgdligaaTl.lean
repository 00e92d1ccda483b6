
/-
  The helpers of the exact laws on lots (shaped as rows): sizes, copies, comparisons, marks.
-/
import Derived.Test.YtjbgjljcgdligaaMr
import Derived.Test.YtjbgjljcgdligaaTz
set_option linter.unusedSimpArgs false
set_option linter.unusedVariables false
namespace Go.Proofs.Ytjbgjljcgdligaa
open Go.RowKit

theorem laws_szLots (A : Option Addr) (n c : Nat) (s b : Int) (left : Int) (w : World) (hn : n ≤ maxLen) (h0 : 0 ≤ left) (h1 : left ≤ 1048576) :
    Calls Try.prog 15 #[.agg #[.slice A n c, .int .i64 s, .int .i64 b], .int .i64 left] w fun e w' => e = .returned (.int .i64 (szI left n)) ∧ Below w.heap.size w w' := by
  by_cases h : left - n < 0
  · have E := Lib.hid (szI_pos h)
    clear h
    go_enter Try.func15, Try.ntmps15
    go_wp2_with fail
    refine (laws_szIntS _ _ _ _ _ hn h0 h1).mono ?_
    rintro e w' ⟨rfl, rfl⟩
    rw [E.out]
    go_wp2_with fail
    go_ret
    exact ⟨ret_i E.out.symm, by (repeat' (first | exact Below.refl _ _ | exact Nat.le_refl _ | assumption | refine belS ?_ ?_ | refine belA ?_ ?_ | refine bel_drewN ?_ _ | (simp; done) | (simp; omega) | omega))⟩
  · have E := Lib.hid (szI_neg h)
    have hn' := hn
    unfold maxLen at hn'
    go_enter Try.func15, Try.ntmps15
    go_wp2_with fail
    refine (laws_szIntS _ _ _ _ _ hn h0 h1).mono ?_
    rintro e w' ⟨rfl, rfl⟩
    rw [E.out]
    go_wp2_with fail
    go_ret
    exact ⟨ret_i E.out.symm, by (repeat' (first | exact Below.refl _ _ | exact Nat.le_refl _ | assumption | refine belS ?_ ?_ | refine belA ?_ ?_ | refine bel_drewN ?_ _ | (simp; done) | (simp; omega) | omega))⟩

set_option maxHeartbeats 1000000 in
theorem laws_toLots (A : Option Addr) (c : Nat) (r : PRow) (w : World) (hr : RowV w A c r) (hn : r.cs.length ≤ 1048576) :
    Calls Try.prog 17 #[.agg #[.slice A r.cs.length c, .int .i64 r.s, .int .i64 r.b]] w fun e w' => ∃ g, e = .returned (.agg #[.slice (some ⟨g, 0, none⟩) r.cs.length r.cs.length, .int .i64 r.s, .int .i64 r.b]) ∧
      w.heap.size ≤ g ∧ OwnI w' g r.cs ∧ RowV w' (some ⟨g, 0, none⟩) r.cs.length r ∧ Below w.heap.size w w' := by
  have HR := Lib.hid hr; clear hr
  go_enter Try.func17, Try.ntmps17
  go_wp2_with fail
  refine (laws_toIntS _ _ _ r.cs _ (HR.out.1.below (by (repeat' (first | (with_reducible exact Below.refl _ _) | (with_reducible refine belS ?_ (by first | omega | (simp; done) | (simp; omega) | (simp only [World.size_alloc, World.size_setCell, World.size_drew] at *; omega))) | (with_reducible refine belA ?_ (by first | omega | (simp; done) | (simp; omega) | (simp only [World.size_alloc, World.size_setCell, World.size_drew] at *; omega))) | (with_reducible refine bel_drewN ?_ _) | (with_reducible refine Below.drew ?_) | (with_reducible assumption) | (refine Hid.out ?_; with_reducible assumption) | (apply belV; (with_reducible assumption); exact (by first | omega | (simp; done) | (simp; omega) | (simp only [World.size_alloc, World.size_setCell, World.size_drew] at *; omega))))))) hn).mono ?_
  rintro e w1 ⟨g, rfl, hg, ho, hi, hb1⟩
  obtain ⟨hc1, hf1⟩ := bcell hb1
  have z := hb1.size
  simp at z hg
  have HO := Lib.hid ho; clear ho
  have HI := Lib.hid hi; clear hi
  have HB := Lib.hid hb1; clear hb1
  go_wp2_with fail
  have bel : Below w.heap.size w w1 := belU HB.out (by (repeat' (first | (with_reducible exact Below.refl _ _) | (with_reducible refine belS ?_ (by first | omega | (simp; done) | (simp; omega) | (simp only [World.size_alloc, World.size_setCell, World.size_drew] at *; omega))) | (with_reducible refine belA ?_ (by first | omega | (simp; done) | (simp; omega) | (simp only [World.size_alloc, World.size_setCell, World.size_drew] at *; omega))) | (with_reducible refine bel_drewN ?_ _) | (with_reducible refine Below.drew ?_) | (with_reducible assumption) | (refine Hid.out ?_; with_reducible assumption) | (apply belV; (with_reducible assumption); exact (by first | omega | (simp; done) | (simp; omega) | (simp only [World.size_alloc, World.size_setCell, World.size_drew] at *; omega)))))) (by simp; omega)
  refine bodyPost_ret (v := .agg #[.slice (some ⟨g, 0, none⟩) r.cs.length r.cs.length, .int .i64 r.s, .int .i64 r.b]) (by simp [results, Try.results17, go_sem, hc1, hf1]) rfl ⟨g, rfl, by omega, ?_, ?_, ?_⟩
  · (repeat' (first | (with_reducible exact OwnI.madeAt _ _ _ (by first | omega | (simp; done) | (simp; omega) | (simp only [World.size_alloc, World.size_setCell, World.size_drew] at *; omega))) | (with_reducible refine OwnI.far ?_ (by first | omega | (simp; done) | (simp; omega) | (simp only [World.size_alloc, World.size_setCell, World.size_drew] at *; omega)) _) | (with_reducible refine OwnI.alloc ?_ _) | (with_reducible refine OwnI.drewN ?_ _) | (with_reducible refine OwnI.drew ?_) | (with_reducible assumption) | (refine Hid.out ?_; with_reducible assumption) | (apply OwnI.turn; (with_reducible assumption); exact (by first | omega | (simp; done) | (simp; omega) | (simp only [World.size_alloc, World.size_setCell, World.size_drew] at *; omega))) | (apply OwnI.only; (with_reducible assumption); exact (by first | omega | (simp; done) | (simp; omega) | (simp only [World.size_alloc, World.size_setCell, World.size_drew] at *; omega))) | (apply OwnI.belowD; (with_reducible assumption))))
  · have O : OwnI _ g r.cs := HO.out
    refine ⟨OwnI.ints_of (w0 := w) ?_ HR.out.1, Nat.le_refl _, Nat.le_trans hn (by unfold maxLen; omega), HR.out.2.2.2⟩
    (repeat' (first | (with_reducible exact OwnI.madeAt _ _ _ (by first | omega | (simp; done) | (simp; omega) | (simp only [World.size_alloc, World.size_setCell, World.size_drew] at *; omega))) | (with_reducible refine OwnI.far ?_ (by first | omega | (simp; done) | (simp; omega) | (simp only [World.size_alloc, World.size_setCell, World.size_drew] at *; omega)) _) | (with_reducible refine OwnI.alloc ?_ _) | (with_reducible refine OwnI.drewN ?_ _) | (with_reducible refine OwnI.drew ?_) | (with_reducible assumption) | (refine Hid.out ?_; with_reducible assumption) | (apply OwnI.turn; (with_reducible assumption); exact (by first | omega | (simp; done) | (simp; omega) | (simp only [World.size_alloc, World.size_setCell, World.size_drew] at *; omega))) | (apply OwnI.only; (with_reducible assumption); exact (by first | omega | (simp; done) | (simp; omega) | (simp only [World.size_alloc, World.size_setCell, World.size_drew] at *; omega))) | (apply OwnI.belowD; (with_reducible assumption))))
  · clear HO HI
    (repeat' (first | (with_reducible exact Below.refl _ _) | (with_reducible refine belS ?_ (by first | omega | (simp; done) | (simp; omega) | (simp only [World.size_alloc, World.size_setCell, World.size_drew] at *; omega))) | (with_reducible refine belA ?_ (by first | omega | (simp; done) | (simp; omega) | (simp only [World.size_alloc, World.size_setCell, World.size_drew] at *; omega))) | (with_reducible refine bel_drewN ?_ _) | (with_reducible refine Below.drew ?_) | (with_reducible assumption) | (refine Hid.out ?_; with_reducible assumption) | (apply belV; (with_reducible assumption); exact (by first | omega | (simp; done) | (simp; omega) | (simp only [World.size_alloc, World.size_setCell, World.size_drew] at *; omega)))))

set_option maxHeartbeats 1000000 in
theorem laws_eqLots (A A' : Option Addr) (c c' : Nat) (r : PRow) (w : World) (hr : RowV w A c r) (hr' : RowV w A' c' r) (hn : r.cs.length ≤ 1048576) :
    Calls Try.prog 21 #[.agg #[.slice A r.cs.length c, .int .i64 r.s, .int .i64 r.b], .agg #[.slice A' r.cs.length c', .int .i64 r.s, .int .i64 r.b]] w fun e w' => e = .returned (.bool true) ∧ Below w.heap.size w w' := by
  have HR := Lib.hid hr; clear hr
  have HR' := Lib.hid hr'; clear hr'
  go_enter Try.func21, Try.ntmps21
  go_wp2_with fail
  refine (laws_eqIntS _ _ _ _ _ r.cs _ (HR.out.1.below (by (repeat' (first | (with_reducible exact Below.refl _ _) | (with_reducible refine belS ?_ (by first | omega | (simp; done) | (simp; omega) | (simp only [World.size_alloc, World.size_setCell, World.size_drew] at *; omega))) | (with_reducible refine belA ?_ (by first | omega | (simp; done) | (simp; omega) | (simp only [World.size_alloc, World.size_setCell, World.size_drew] at *; omega))) | (with_reducible refine bel_drewN ?_ _) | (with_reducible refine Below.drew ?_) | (with_reducible assumption) | (refine Hid.out ?_; with_reducible assumption) | (apply belV; (with_reducible assumption); exact (by first | omega | (simp; done) | (simp; omega) | (simp only [World.size_alloc, World.size_setCell, World.size_drew] at *; omega))))))) (HR'.out.1.below (by (repeat' (first | (with_reducible exact Below.refl _ _) | (with_reducible refine belS ?_ (by first | omega | (simp; done) | (simp; omega) | (simp only [World.size_alloc, World.size_setCell, World.size_drew] at *; omega))) | (with_reducible refine belA ?_ (by first | omega | (simp; done) | (simp; omega) | (simp only [World.size_alloc, World.size_setCell, World.size_drew] at *; omega))) | (with_reducible refine bel_drewN ?_ _) | (with_reducible refine Below.drew ?_) | (with_reducible assumption) | (refine Hid.out ?_; with_reducible assumption) | (apply belV; (with_reducible assumption); exact (by first | omega | (simp; done) | (simp; omega) | (simp only [World.size_alloc, World.size_setCell, World.size_drew] at *; omega))))))) hn).mono ?_
  rintro e w1 ⟨rfl, m, rfl⟩
  go_wp2
  go_ret
  exact ⟨rfl, by (repeat' (first | (with_reducible exact Below.refl _ _) | (with_reducible refine belS ?_ (by first | omega | (simp; done) | (simp; omega) | (simp only [World.size_alloc, World.size_setCell, World.size_drew] at *; omega))) | (with_reducible refine belA ?_ (by first | omega | (simp; done) | (simp; omega) | (simp only [World.size_alloc, World.size_setCell, World.size_drew] at *; omega))) | (with_reducible refine bel_drewN ?_ _) | (with_reducible refine Below.drew ?_) | (with_reducible assumption) | (refine Hid.out ?_; with_reducible assumption) | (apply belV; (with_reducible assumption); exact (by first | omega | (simp; done) | (simp; omega) | (simp only [World.size_alloc, World.size_setCell, World.size_drew] at *; omega)))))⟩

theorem szLots_any (A : Option Addr) (n c : Nat) (s b : Int) (left : Int) (w : World) (hn : n ≤ maxLen) (h0 : 0 ≤ left) (h1 : left ≤ 1048576) :
    Calls Try.prog 15 #[.agg #[.slice A n c, .int .i64 s, .int .i64 b], .int .i64 left] w fun e w' => ∃ v, Sz left v (n ≤ 1048576) ∧ e = .returned (.int .i64 v) ∧ Below w.heap.size w w' :=
  (laws_szLots A n c s b left w hn h0 h1).mono fun _ _ ⟨he, hw⟩ => ⟨_, szI_Sz h1 id, he, hw⟩

theorem markLotsI (lo hi : Nat) (A0 : Option Addr) (c0 : Nat) (r : PRow) (k : Int) (w : World) (h0 : OwnS w lo hi A0 r.cs) (k0 : 0 ≤ k) (k1 : k ≤ 1048576) :
    Calls Try.prog 22 #[.agg #[.slice A0 r.cs.length c0, .int .i64 r.s, .int .i64 r.b], .int .i64 k] w
      fun e w' => e = .returned (.int .i64 (k + r.cs.length)) ∧ OwnS w' lo hi A0 (marks k r.cs.length) ∧ Turn lo hi w w' := by
  have s0 := h0.small
  have H0 := Lib.hid h0; clear h0
  go_enter Try.func22, Try.ntmps22
  go_wp2_with fail
  refine (markS lo hi _ _ r.cs _ _ (H0.out.alloc _) k0 (by omega)).mono ?_
  rintro e w1 ⟨rfl, ho0, ht⟩
  have M0 := Lib.hid ho0; clear ho0
  have T1 := Lib.hid ht; clear ht
  go_wp2_with fail
  go_ret
  exact ⟨rfl, M0.out, ((Turn.refl lo hi w).alloc _).trans T1.out⟩

theorem markLotsA (g c0 : Nat) (r : PRow) (k : Int) (w : World) (h0 : OwnI w g r.cs) (hI : Ints w (some ⟨g, 0, none⟩) r.cs.length r.cs) (s0 : r.cs.length ≤ 1048576) (k0 : 0 ≤ k) (k1 : k ≤ 1048576) :
    Calls Try.prog 22 #[.agg #[.slice (some ⟨g, 0, none⟩) r.cs.length c0, .int .i64 r.s, .int .i64 r.b], .int .i64 k] w
      fun e w' => e = .returned (.int .i64 (k + r.cs.length)) ∧ Turn g (g + 1) w w' :=
  (markLotsI g (g + 1) _ c0 r k w ⟨.inr ⟨g, rfl, Nat.le_refl _, Nat.lt_succ_self _, h0⟩, hI.2.1, s0⟩ k0 k1).mono fun _ _ ⟨he, _, ht⟩ => ⟨he, ht⟩
end Go.Proofs.Ytjbgjljcgdligaa
