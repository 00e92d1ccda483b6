
/-
  Tables of values, more: the model's table, single best values, and what KnapsackTable answers.
-/
import Derived.Test.YtppdomoifnokpabKt
set_option linter.unusedSimpArgs false
set_option linter.unusedVariables false
namespace Go.Proofs.Ytppdomoifnokpab
open Go.RowKit

theorem OwnS.widen {w : World} {lo hi lo' hi' : Nat} {A : Option Addr} {xs : List Int} (h : OwnS w lo hi A xs) (h1 : lo' ≤ lo) (h2 : hi ≤ hi') : OwnS w lo' hi' A xs := by
  obtain ⟨h0 | ⟨g, e, a, b, c⟩, h4⟩ := h
  · exact ⟨.inl h0, h4⟩
  · exact ⟨.inr ⟨g, e, by omega, by omega, c⟩, h4⟩
theorem SliceEnd.pass {L L' : List Int} {w w' : World} {A : Option Addr} {c lo hi : Nat} (e : L' = L) (h : OwnS w' lo hi A L) (h1 : w.heap.size ≤ lo) (h2 : hi ≤ w'.heap.size) (hb : Below w.heap.size w w') : SliceEnd L' w (.returned (.slice A L.length c)) w' := by
  subst e
  exact ⟨A, c, rfl, h.widen h1 h2, hb⟩

set_option maxHeartbeats 2000000 in
set_option maxRecDepth 100000 in
theorem impl_KnapsackTable (A A' : Option Addr) (n n' c c' : Nat) (a : Int) (vs ws : List Int) (w : World) (hI : Ints w A n vs) (hJ : Ints w A' n' ws) (hn : n ≤ maxLen) (hn' : n' ≤ maxLen) :
    Calls Try.prog 18 #[.slice A n c, .slice A' n' c', .int .i64 a] w (SliceEnd (kTabV vs ws a) w) := by
  have hl := hI.len
  have hl' := hJ.len
  have HI := Lib.hid hI; clear hI
  have HJ := Lib.hid hJ; clear hJ
  cases h1 : vItems vs ws a
  · have E := Lib.hid (kTabV_1 h1)
    clear hl hl'
    go_enter Try.func18, Try.ntmps18
    go_wp2_with (go_at_call 55; ((with_reducible refine (impl_validItems _ _ _ _ _ _ _ vs ws _ HI.out HJ.out hn hn').mono ?_); rintro e w' ⟨rfl, rfl⟩))
    go_ret
    exact SliceEnd.nil E.out (by (repeat' (first | (with_reducible exact Below.refl _ _) | (with_reducible refine belS ?_ (by first | omega | (simp; done) | (simp; omega) | (simp only [World.size_alloc, World.size_setCell, World.size_drew] at *; omega))) | (with_reducible refine belA ?_ (by first | omega | (simp; done) | (simp; omega) | (simp only [World.size_alloc, World.size_setCell, World.size_drew] at *; omega))) | (with_reducible refine bel_drewN ?_ _) | (with_reducible refine Below.drew ?_) | (with_reducible assumption) | (refine Hid.out ?_; with_reducible assumption) | (apply belV; (with_reducible assumption); exact (by first | omega | (simp; done) | (simp; omega) | (simp only [World.size_alloc, World.size_setCell, World.size_drew] at *; omega))))))
  · obtain ⟨f1, f2, _⟩ := vItems_facts h1
    obtain ⟨f3, f4, f5, f6⟩ := vWts_facts f2
    have HW := Lib.hid f4; clear f4
    obtain ⟨C, rfl⟩ := Int.eq_ofNat_of_zero_le f5
    have E : Hid (kTabV vs ws C = ktab vs ws C) := kTabV_2 h1
    have l1 : n' ≤ n := by omega
    have l2 : n ≤ 1000 := by omega
    clear hl hl' f1 f2 f3
    go_enter Try.func18, Try.ntmps18
    go_wp2_with (go_at_call 55; ((with_reducible refine (impl_validItems _ _ _ _ _ _ _ vs ws _ HI.out HJ.out hn hn').mono ?_); rintro e w' ⟨rfl, rfl⟩))
    refine (impl_bestValues _ _ _ _ _ _ _ C vs ws _ HI.out HJ.out rfl l1 l2 (by omega) HW.out).mono ?_
    rintro e w1 ⟨A1, d, rfl, ho, hb⟩
    have W1 := Lib.hid ho; clear ho
    have G1 := Lib.hid hb; clear hb
    go_wp2_with fail
    go_ret
    exact SliceEnd.pass E.out W1.out (Nat.le_refl _) (Nat.le_refl _) G1.out

end Go.Proofs.Ytppdomoifnokpab
