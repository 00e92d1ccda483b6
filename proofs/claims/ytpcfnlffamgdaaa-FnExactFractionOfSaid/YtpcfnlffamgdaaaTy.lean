
/-
  The helpers of the exact laws on rows.
-/
import Derived.Test.YtpcfnlffamgdaaaTx
set_option linter.unusedSimpArgs false
set_option linter.unusedVariables false
namespace Go.Proofs.Ytpcfnlffamgdaaa
open Go.RowKit

theorem RowV.small {w : World} {A : Option Addr} {c : Nat} {r : PRow} (h : RowV w A c r) : r.cs.length ≤ maxLen := Nat.le_trans h.2.1 h.2.2.1

theorem laws_szRow (A : Option Addr) (n c : Nat) (s b : Int) (left : Int) (w : World) (hn : n ≤ maxLen) (h0 : 0 ≤ left) (h1 : left ≤ 1048576) :
    Calls Try.prog 118 #[.agg #[.slice A n c, .int .i64 s, .int .i64 b], .int .i64 left] w fun e w' => e = .returned (.int .i64 (szI left n)) ∧ Below w.heap.size w w' := by
  by_cases h : left - n < 0
  · have E := Lib.hid (szI_pos h)
    clear h
    go_enter Try.func118, Try.ntmps118
    go_wp2_with fail
    refine (laws_szIntS _ _ _ _ _ hn h0 h1).mono ?_
    rintro e w' ⟨rfl, rfl⟩
    rw [E.out]
    go_wp2_with fail
    go_ret
    exact ⟨ret_i E.out.symm, by (repeat' (first | exact Below.refl _ _ | exact Nat.le_refl _ | assumption | refine belS ?_ ?_ | refine belA ?_ ?_ | refine bel_drewN ?_ _ | (simp; done) | (simp; omega) | omega))⟩
  · have E := Lib.hid (szI_neg h)
    have hn' := hn
    unfold maxLen at hn'
    go_enter Try.func118, Try.ntmps118
    go_wp2_with fail
    refine (laws_szIntS _ _ _ _ _ hn h0 h1).mono ?_
    rintro e w' ⟨rfl, rfl⟩
    rw [E.out]
    go_wp2_with fail
    go_ret
    exact ⟨ret_i E.out.symm, by (repeat' (first | exact Below.refl _ _ | exact Nat.le_refl _ | assumption | refine belS ?_ ?_ | refine belA ?_ ?_ | refine bel_drewN ?_ _ | (simp; done) | (simp; omega) | omega))⟩

set_option maxHeartbeats 1000000 in
theorem laws_toRow (A : Option Addr) (c : Nat) (r : PRow) (w : World) (hr : RowV w A c r) (hn : r.cs.length ≤ 1048576) :
    Calls Try.prog 121 #[.agg #[.slice A r.cs.length c, .int .i64 r.s, .int .i64 r.b]] w fun e w' => ∃ g, e = .returned (.agg #[.slice (some ⟨g, 0, none⟩) r.cs.length r.cs.length, .int .i64 r.s, .int .i64 r.b]) ∧
      w.heap.size ≤ g ∧ OwnI w' g r.cs ∧ RowV w' (some ⟨g, 0, none⟩) r.cs.length r ∧ Below w.heap.size w w' := by
  have HR := Lib.hid hr; clear hr
  go_enter Try.func121, Try.ntmps121
  go_wp2_with fail
  refine (laws_toIntS _ _ _ r.cs _ (HR.out.1.below (by (repeat' (first | (with_reducible exact Below.refl _ _) | (with_reducible refine belS ?_ (by first | omega | (simp; done) | (simp; omega) | (simp only [World.size_alloc, World.size_setCell, World.size_drew] at *; omega))) | (with_reducible refine belA ?_ (by first | omega | (simp; done) | (simp; omega) | (simp only [World.size_alloc, World.size_setCell, World.size_drew] at *; omega))) | (with_reducible refine bel_drewN ?_ _) | (with_reducible refine Below.drew ?_) | (with_reducible assumption) | (refine Hid.out ?_; with_reducible assumption) | (apply belV; (with_reducible assumption); exact (by first | omega | (simp; done) | (simp; omega) | (simp only [World.size_alloc, World.size_setCell, World.size_drew] at *; omega))))))) hn).mono ?_
  rintro e w1 ⟨g, rfl, hg, ho, hi, hb1⟩
  obtain ⟨hc1, hf1⟩ := bcell hb1
  have z := hb1.size
  simp at z hg
  have HO := Lib.hid ho; clear ho
  have HI := Lib.hid hi; clear hi
  have HB := Lib.hid hb1; clear hb1
  go_wp2_with fail
  have bel : Below w.heap.size w w1 := belU HB.out (by (repeat' (first | (with_reducible exact Below.refl _ _) | (with_reducible refine belS ?_ (by first | omega | (simp; done) | (simp; omega) | (simp only [World.size_alloc, World.size_setCell, World.size_drew] at *; omega))) | (with_reducible refine belA ?_ (by first | omega | (simp; done) | (simp; omega) | (simp only [World.size_alloc, World.size_setCell, World.size_drew] at *; omega))) | (with_reducible refine bel_drewN ?_ _) | (with_reducible refine Below.drew ?_) | (with_reducible assumption) | (refine Hid.out ?_; with_reducible assumption) | (apply belV; (with_reducible assumption); exact (by first | omega | (simp; done) | (simp; omega) | (simp only [World.size_alloc, World.size_setCell, World.size_drew] at *; omega)))))) (by simp; omega)
  refine bodyPost_ret (v := .agg #[.slice (some ⟨g, 0, none⟩) r.cs.length r.cs.length, .int .i64 r.s, .int .i64 r.b]) (by simp [results, Try.results121, go_sem, hc1, hf1]) rfl ⟨g, rfl, by omega, ?_, ?_, ?_⟩
  · (repeat' (first | (with_reducible exact OwnI.madeAt _ _ _ (by first | omega | (simp; done) | (simp; omega) | (simp only [World.size_alloc, World.size_setCell, World.size_drew] at *; omega))) | (with_reducible refine OwnI.far ?_ (by first | omega | (simp; done) | (simp; omega) | (simp only [World.size_alloc, World.size_setCell, World.size_drew] at *; omega)) _) | (with_reducible refine OwnI.alloc ?_ _) | (with_reducible refine OwnI.drewN ?_ _) | (with_reducible refine OwnI.drew ?_) | (with_reducible assumption) | (refine Hid.out ?_; with_reducible assumption) | (apply OwnI.turn; (with_reducible assumption); exact (by first | omega | (simp; done) | (simp; omega) | (simp only [World.size_alloc, World.size_setCell, World.size_drew] at *; omega))) | (apply OwnI.only; (with_reducible assumption); exact (by first | omega | (simp; done) | (simp; omega) | (simp only [World.size_alloc, World.size_setCell, World.size_drew] at *; omega))) | (apply OwnI.belowD; (with_reducible assumption))))
  · have O : OwnI _ g r.cs := HO.out
    refine ⟨OwnI.ints_of (w0 := w) ?_ HR.out.1, Nat.le_refl _, Nat.le_trans hn (by unfold maxLen; omega), HR.out.2.2.2⟩
    (repeat' (first | (with_reducible exact OwnI.madeAt _ _ _ (by first | omega | (simp; done) | (simp; omega) | (simp only [World.size_alloc, World.size_setCell, World.size_drew] at *; omega))) | (with_reducible refine OwnI.far ?_ (by first | omega | (simp; done) | (simp; omega) | (simp only [World.size_alloc, World.size_setCell, World.size_drew] at *; omega)) _) | (with_reducible refine OwnI.alloc ?_ _) | (with_reducible refine OwnI.drewN ?_ _) | (with_reducible refine OwnI.drew ?_) | (with_reducible assumption) | (refine Hid.out ?_; with_reducible assumption) | (apply OwnI.turn; (with_reducible assumption); exact (by first | omega | (simp; done) | (simp; omega) | (simp only [World.size_alloc, World.size_setCell, World.size_drew] at *; omega))) | (apply OwnI.only; (with_reducible assumption); exact (by first | omega | (simp; done) | (simp; omega) | (simp only [World.size_alloc, World.size_setCell, World.size_drew] at *; omega))) | (apply OwnI.belowD; (with_reducible assumption))))
  · clear HO HI
    (repeat' (first | (with_reducible exact Below.refl _ _) | (with_reducible refine belS ?_ (by first | omega | (simp; done) | (simp; omega) | (simp only [World.size_alloc, World.size_setCell, World.size_drew] at *; omega))) | (with_reducible refine belA ?_ (by first | omega | (simp; done) | (simp; omega) | (simp only [World.size_alloc, World.size_setCell, World.size_drew] at *; omega))) | (with_reducible refine bel_drewN ?_ _) | (with_reducible refine Below.drew ?_) | (with_reducible assumption) | (refine Hid.out ?_; with_reducible assumption) | (apply belV; (with_reducible assumption); exact (by first | omega | (simp; done) | (simp; omega) | (simp only [World.size_alloc, World.size_setCell, World.size_drew] at *; omega)))))

set_option maxHeartbeats 1000000 in
theorem laws_eqRow (A A' : Option Addr) (c c' : Nat) (r : PRow) (w : World) (hr : RowV w A c r) (hr' : RowV w A' c' r) (hn : r.cs.length ≤ 1048576) :
    Calls Try.prog 126 #[.agg #[.slice A r.cs.length c, .int .i64 r.s, .int .i64 r.b], .agg #[.slice A' r.cs.length c', .int .i64 r.s, .int .i64 r.b]] w fun e w' => e = .returned (.bool true) ∧ Below w.heap.size w w' := by
  have HR := Lib.hid hr; clear hr
  have HR' := Lib.hid hr'; clear hr'
  go_enter Try.func126, Try.ntmps126
  go_wp2_with fail
  refine (laws_eqIntS _ _ _ _ _ r.cs _ (HR.out.1.below (by (repeat' (first | (with_reducible exact Below.refl _ _) | (with_reducible refine belS ?_ (by first | omega | (simp; done) | (simp; omega) | (simp only [World.size_alloc, World.size_setCell, World.size_drew] at *; omega))) | (with_reducible refine belA ?_ (by first | omega | (simp; done) | (simp; omega) | (simp only [World.size_alloc, World.size_setCell, World.size_drew] at *; omega))) | (with_reducible refine bel_drewN ?_ _) | (with_reducible refine Below.drew ?_) | (with_reducible assumption) | (refine Hid.out ?_; with_reducible assumption) | (apply belV; (with_reducible assumption); exact (by first | omega | (simp; done) | (simp; omega) | (simp only [World.size_alloc, World.size_setCell, World.size_drew] at *; omega))))))) (HR'.out.1.below (by (repeat' (first | (with_reducible exact Below.refl _ _) | (with_reducible refine belS ?_ (by first | omega | (simp; done) | (simp; omega) | (simp only [World.size_alloc, World.size_setCell, World.size_drew] at *; omega))) | (with_reducible refine belA ?_ (by first | omega | (simp; done) | (simp; omega) | (simp only [World.size_alloc, World.size_setCell, World.size_drew] at *; omega))) | (with_reducible refine bel_drewN ?_ _) | (with_reducible refine Below.drew ?_) | (with_reducible assumption) | (refine Hid.out ?_; with_reducible assumption) | (apply belV; (with_reducible assumption); exact (by first | omega | (simp; done) | (simp; omega) | (simp only [World.size_alloc, World.size_setCell, World.size_drew] at *; omega))))))) hn).mono ?_
  rintro e w1 ⟨rfl, m, rfl⟩
  go_wp2
  go_ret
  exact ⟨rfl, by (repeat' (first | (with_reducible exact Below.refl _ _) | (with_reducible refine belS ?_ (by first | omega | (simp; done) | (simp; omega) | (simp only [World.size_alloc, World.size_setCell, World.size_drew] at *; omega))) | (with_reducible refine belA ?_ (by first | omega | (simp; done) | (simp; omega) | (simp only [World.size_alloc, World.size_setCell, World.size_drew] at *; omega))) | (with_reducible refine bel_drewN ?_ _) | (with_reducible refine Below.drew ?_) | (with_reducible assumption) | (refine Hid.out ?_; with_reducible assumption) | (apply belV; (with_reducible assumption); exact (by first | omega | (simp; done) | (simp; omega) | (simp only [World.size_alloc, World.size_setCell, World.size_drew] at *; omega)))))⟩
end Go.Proofs.Ytpcfnlffamgdaaa
