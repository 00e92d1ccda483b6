
/-
  Best choices: what the model's BestKnapsack answers; bounds of inequalities.
-/
import Derived.Test.YtfidahpaidkhgabKc
set_option linter.unusedSimpArgs false
set_option linter.unusedVariables false
namespace Go.Proofs.Ytfidahpaidkhgab
open Go.RowKit

theorem PairI.pass {L L' : List Int} {x y : Int} {w w' : World} {A : Option Addr} {c lo hi : Nat} (e : L' = L ∧ y = x) (h : OwnS w' lo hi A L) (h1 : w.heap.size ≤ lo) (h2 : hi ≤ w'.heap.size) (hb : Below w.heap.size w w') : PairI L' y w (.returned (.tuple #[.slice A L.length c, .int .i64 x])) w' := by
  obtain ⟨rfl, rfl⟩ := e
  exact ⟨A, c, rfl, h.widen h1 h2, hb⟩

set_option maxHeartbeats 4000000 in
set_option maxRecDepth 100000 in
theorem spec_BestKnapsack (A A' : Option Addr) (n n' c c' : Nat) (a : Int) (vs ws : List Int) (w : World) (hI : Ints w A n vs) (hJ : Ints w A' n' ws) (hn : n ≤ maxLen) (hn' : n' ≤ maxLen) (hc : n ≤ c) (hc' : n' ≤ c') :
    Calls Try.prog 17 #[.slice A n c, .slice A' n' c', .int .i64 a] w (PairI (kBestL vs ws a) (kBestV vs ws a) w) := by
  have hl := hI.len
  have hl' := hJ.len
  have HI := Lib.hid hI; clear hI
  have HJ := Lib.hid hJ; clear hJ
  cases h1 : vItems vs ws a
  · have E := Lib.hid (kBest_1 h1)
    clear hl hl'
    go_enter Try.func17, Try.ntmps17
    go_wp2_with (go_at_call 46; ((with_reducible refine (spec_validItems _ _ _ _ _ _ _ vs ws _ HI.out HJ.out hn hn').mono ?_); rintro e w' ⟨rfl, rfl⟩))
    go_ret2
    exact PairI.nil E.out (by (repeat' (first | (with_reducible exact Below.refl _ _) | (with_reducible refine belS ?_ (by first | omega | (simp; done) | (simp; omega) | (simp only [World.size_alloc, World.size_setCell, World.size_drew] at *; omega))) | (with_reducible refine belA ?_ (by first | omega | (simp; done) | (simp; omega) | (simp only [World.size_alloc, World.size_setCell, World.size_drew] at *; omega))) | (with_reducible refine bel_drewN ?_ _) | (with_reducible refine Below.drew ?_) | (with_reducible assumption) | (refine Hid.out ?_; with_reducible assumption) | (apply belV; (with_reducible assumption); exact (by first | omega | (simp; done) | (simp; omega) | (simp only [World.size_alloc, World.size_setCell, World.size_drew] at *; omega))))))
  · obtain ⟨f1, f2, f0⟩ := vItems_facts h1
    obtain ⟨f3, f4, f5, f6⟩ := vWts_facts f2
    have HVL := Lib.hid f1
    have HV := Lib.hid f0; clear f0
    have HW := Lib.hid f4; clear f4
    obtain ⟨C, rfl⟩ := Int.eq_ofNat_of_zero_le f5
    have E0 : Hid (kBestL vs ws C = chosen vs ws C ∧ kBestV vs ws C = best vs ws C) := kBest_2 h1
    have H10 := Lib.hid f3
    have E : Hid (kBestL vs ws C = chosen vs ws C ∧ kBestV vs ws C = sumW vs (chosen vs ws C)) := Lib.hid ⟨E0.out.1, by rw [E0.out.2, sum_chosen HVL.out H10.out HV.out]⟩
    have HM : Hid (∀ p ∈ chosen vs ws C, 0 ≤ p ∧ p < n) := Lib.hid (fun p hp => by have := chosen_mem p hp; omega)
    have HC : Hid ((chosen vs ws C).length ≤ maxLen) := Lib.hid (by have := (chosen_bd (vs := vs) (c := C) H10.out).2; unfold maxLen; omega)
    clear hl hl' f1 f2 f3
    go_enter Try.func17, Try.ntmps17
    go_wp2_with (go_at_call 46; ((with_reducible refine (spec_validItems _ _ _ _ _ _ _ vs ws _ HI.out HJ.out hn hn').mono ?_); rintro e w' ⟨rfl, rfl⟩))
    refine (spec_bestKnapsack _ _ _ _ _ _ C vs ws _ HI.out HJ.out hc hc' HVL.out H10.out (by omega) HV.out HW.out).mono ?_
    rintro e w1 ⟨A1, d, rfl, ho, hb⟩
    have W1 := Lib.hid ho; clear ho
    have G1 := Lib.hid hb; clear hb
    go_wp2_with fail
    refine (spec_sumAt _ _ _ _ _ _ vs (chosen vs ws C) _ (HI.out.below G1.out) (OwnS.ints W1.out) hn HC.out HM.out).mono ?_
    rintro e w2 ⟨rfl, rfl⟩
    go_wp2_with fail
    go_ret2
    exact PairI.pass E.out W1.out (Nat.le_refl _) (Nat.le_refl _) G1.out

def covB (ws : List Int) (c : Int) (cs : List Int) (bd : Int) : Bool := vItems cs ws c && (decide (0 ≤ bd) && decide (best cs ws c.toNat ≤ bd))
theorem covB_1 {ws cs : List Int} {c bd : Int} (h : vItems cs ws c = false) : covB ws c cs bd = false := by simp [covB, h]
theorem covB_2 {ws cs : List Int} {c bd : Int} (h : bd < 0) : covB ws c cs bd = false := by
  have : ¬ 0 ≤ bd := by omega
  simp [covB, this]
theorem covB_3 {ws cs : List Int} {c bd : Int} (h : vItems cs ws c = true) (h2 : 0 ≤ bd) : covB ws c cs bd = decide (best cs ws c.toNat ≤ bd) := by simp [covB, h, h2]
theorem covB_any (ws cs : List Int) (c bd : Int) : covB ws c cs bd = inB (kBestV cs ws c) 0 bd := by
  cases h : vItems cs ws c with
  | false => rw [covB_1 h, (kBest_1 h).2]; symm; exact inB_not.2 (by omega)
  | true =>
    rw [(kBest_2 h).2]
    have b := (best_bd (ws := ws) (vItems_facts h).2.2 c.toNat).1
    by_cases hb : 0 ≤ bd
    · rw [covB_3 h hb]
      unfold inB
      congr 1
      exact propext ⟨fun x => ⟨b, x⟩, fun x => x.2⟩
    · rw [covB_2 (by omega)]; symm; exact inB_not.2 (by omega)

set_option maxHeartbeats 2000000 in
set_option maxRecDepth 100000 in
theorem impl_CoverHolds (A A' : Option Addr) (n n' c c' : Nat) (a bd : Int) (ws cs : List Int) (w : World) (hI : Ints w A n ws) (hJ : Ints w A' n' cs) (hn : n ≤ maxLen) (hn' : n' ≤ maxLen) (hc : n ≤ c) (hc' : n' ≤ c') :
    Calls Try.prog 28 #[.slice A n c, .int .i64 a, .slice A' n' c', .int .i64 bd] w fun e w' => e = .returned (.bool (covB ws a cs bd)) ∧ Below w.heap.size w w' := by
  have HI := Lib.hid hI; clear hI
  have HJ := Lib.hid hJ; clear hJ
  have E := Lib.hid (covB_any ws cs a bd)
  go_enter Try.func28, Try.ntmps28
  go_wp2_with fail
  refine (impl_BestKnapsack _ _ _ _ _ _ a cs ws _ HJ.out HI.out hn' hn hc' hc).mono ?_
  rintro e w1 ⟨A1, d, rfl, ho, hb⟩
  have G1 := Lib.hid hb; clear hb ho
  go_wp2_with (go_at_call 64; ((with_reducible refine (impl_inRange _ _ _ _).mono ?_); rintro e w' ⟨rfl, rfl⟩))
  go_ret
  exact ⟨ret_b E.out.symm, G1.out⟩

end Go.Proofs.Ytfidahpaidkhgab
