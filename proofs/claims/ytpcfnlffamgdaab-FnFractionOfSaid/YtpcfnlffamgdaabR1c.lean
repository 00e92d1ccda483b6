
/-
  Quotients in lowest terms, validity and MakeRat: what the program's functions and the model's return.
-/
import Derived.Test.YtpcfnlffamgdaabR1b
import Derived.RegionTactic
import Derived.ChangeAlike
set_option linter.unusedSimpArgs false
set_option linter.unusedVariables false
namespace Go.Proofs.Ytpcfnlffamgdaab.Rat1
open Go.RowKit

theorem q_same {P : Program} {f : FuncId} {args : Array Value} {w : World} {n : Nat} {v : Value}
    (h : Calls P f args (w.drewN n) fun e w' => e = .returned v ∧ w.drewN n = w') : Calls P f args (w.drewN n) fun e w'' => e = .returned v ∧ ∃ m, w'' = w.drewN m :=
  h.mono fun _ _ ⟨he, hm⟩ => ⟨he, n, hm.symm⟩
theorem bel_drewN {B : Nat} {a w : World} (h : Below B a w) (n : Nat) : Below B a (w.drewN n) := ⟨h.os, h.tape, h.output, h.size, h.block⟩
theorem bcell {W w1 : World} (hb : Below W.heap.size W w1) : (∀ b o, b < W.heap.size → w1.cell? ⟨b, o, none⟩ = W.cell? ⟨b, o, none⟩) ∧ (∀ b o, b < W.heap.size → w1.frozen? ⟨b, o, none⟩ = W.frozen? ⟨b, o, none⟩) :=
  ⟨fun b o h => hb.cell (p := ⟨b, o, none⟩) h, fun b o h => hb.frozen (p := ⟨b, o, none⟩) h⟩

theorem Q.gc_abs (a b : Int) : Q.gc (a.natAbs : Int) (b.natAbs : Int) = Q.gc a b := by
  unfold Q.gc; simp [Int.gcd]
theorem Q.vr_f1 {n d : Int} (h : Q.inR d 1 10000000 = false) : Q.vr n d = false := by
  simp only [Q.inR, decide_eq_false_iff_not] at h
  simp only [Q.vr, decide_eq_false_iff_not]; omega
theorem Q.vr_f2 {n d : Int} (h : Q.inR n (-100000000000) 100000000000 = false) : Q.vr n d = false := by
  simp only [Q.inR, decide_eq_false_iff_not] at h
  simp only [Q.vr, decide_eq_false_iff_not]; omega
theorem Q.vr_t {n d : Int} (h1 : Q.inR d 1 10000000 = true) (h2 : Q.inR n (-100000000000) 100000000000 = true) : Q.vr n d = (Q.gc n d == 1) := by
  simp only [Q.inR, decide_eq_true_eq] at h1 h2
  rw [Bool.eq_iff_iff, Q.vr_iff]
  unfold Q.gc
  simp only [beq_iff_eq]
  omega
theorem Q.inR_of {a lo hi : Int} (h : Q.inR a lo hi = true) : lo ≤ a ∧ a ≤ hi := by simpa [Q.inR] using h

def Q.VrSays (n d : Int) (w : World) (e : Ending) (w' : World) : Prop := e = .returned (.bool (Q.vr n d)) ∧ Below w.heap.size w w'

set_option maxHeartbeats 1000000 in
theorem impl_valid (n d : Int) (w : World) : Calls Try.prog 71 #[.agg #[.int .i64 n, .int .i64 d]] w fun e w' => e = .returned (.bool (Q.vr n d)) ∧ Below w.heap.size w w' := by
  cases h1 : Q.inR d 1 10000000
  · have hr := Q.vr_f1 (n := n) h1
    have HR := Lib.hid hr; clear hr
    go_enter Try.func71, Try.ntmps71
    go_wp2_with fail
    go_quiet ((first | (go_at_call 67; exact q_same (impl_inRange _ _ _ _))))
    go_wp2_with fail
    go_ret
    exact ⟨ret_b (by rw [HR.out]), bel_drewN ((Below.refl _ _).alloc (Nat.le_refl _) _) _⟩
  · cases h2 : Q.inR n (-100000000000) 100000000000
    · have hr := Q.vr_f2 (d := d) h2
      have HR := Lib.hid hr; clear hr
      go_enter Try.func71, Try.ntmps71
      go_wp2_with fail
      go_quiet ((first | (go_at_call 67; exact q_same (impl_inRange _ _ _ _))))
      go_wp2_with fail
      go_ret
      exact ⟨ret_b (by rw [HR.out]), bel_drewN ((Below.refl _ _).alloc (Nat.le_refl _) _) _⟩
    · have hr := Q.vr_t h1 h2
      have hg := Q.gc_abs n d
      have HR := Lib.hid hr; clear hr
      obtain ⟨a1, a2⟩ := Q.inR_of h1
      obtain ⟨b1, b2⟩ := Q.inR_of h2
      have hd : ((d.natAbs : Nat) : Int) = d := by omega
      rw [hd] at hg
      have HG := Lib.hid hg; clear hg hd
      go_enter Try.func71, Try.ntmps71
      go_wp2_with fail
      go_quiet ((first
        | (go_at_call 67; exact q_same (impl_inRange _ _ _ _))
        | (go_at_call 103; exact q_same (impl_abs _ _ (by omega) (by omega)))
        | (go_at_call 102; exact Calls.quiet_of (impl_divisor _ _ _ (by omega) (by omega) (by omega) (by omega)))))
      go_wp2_with fail
      go_ret
      exact ⟨ret_b (by rw [HR.out, HG.out]), bel_drewN ((Below.refl _ _).alloc (Nat.le_refl _) _) _⟩
set_option maxHeartbeats 1000000 in
theorem spec_ValidRat (n d : Int) (w : World) : Calls Try.prog 72 #[.agg #[.int .i64 n, .int .i64 d]] w fun e w' => e = .returned (.bool (Q.vr n d)) ∧ Below w.heap.size w w' := by
  cases h1 : Q.inR d 1 10000000
  · have hr := Q.vr_f1 (n := n) h1
    have HR := Lib.hid hr; clear hr
    go_enter Try.func72, Try.ntmps72
    go_wp2_with fail
    go_quiet ((first | (go_at_call 69; exact q_same (spec_inRange _ _ _ _))))
    go_wp2_with fail
    go_ret
    exact ⟨ret_b (by rw [HR.out]), bel_drewN ((Below.refl _ _).alloc (Nat.le_refl _) _) _⟩
  · cases h2 : Q.inR n (-100000000000) 100000000000
    · have hr := Q.vr_f2 (d := d) h2
      have HR := Lib.hid hr; clear hr
      go_enter Try.func72, Try.ntmps72
      go_wp2_with fail
      go_quiet ((first | (go_at_call 69; exact q_same (spec_inRange _ _ _ _))))
      go_wp2_with fail
      go_ret
      exact ⟨ret_b (by rw [HR.out]), bel_drewN ((Below.refl _ _).alloc (Nat.le_refl _) _) _⟩
    · have hr := Q.vr_t h1 h2
      have hg := Q.gc_abs n d
      have HR := Lib.hid hr; clear hr
      obtain ⟨a1, a2⟩ := Q.inR_of h1
      obtain ⟨b1, b2⟩ := Q.inR_of h2
      have hd : ((d.natAbs : Nat) : Int) = d := by omega
      rw [hd] at hg
      have HG := Lib.hid hg; clear hg hd
      go_enter Try.func72, Try.ntmps72
      go_wp2_with fail
      go_quiet ((first
        | (go_at_call 69; exact q_same (spec_inRange _ _ _ _))
        | (go_at_call 105; exact q_same (spec_distance _ _ (by omega) (by omega)))
        | (go_at_call 104; exact Calls.quiet_of (spec_gcd _ _ _ (by omega) (by omega) (by omega) (by omega)))))
      go_wp2_with fail
      go_ret
      exact ⟨ret_b (by rw [HR.out, HG.out]), bel_drewN ((Below.refl _ _).alloc (Nat.le_refl _) _) _⟩

theorem impl_ValidRat (n d : Int) (w : World) : Calls Try.prog 24 #[.agg #[.int .i64 n, .int .i64 d]] w fun e w' => e = .returned (.bool (Q.vr n d)) ∧ Below w.heap.size w w' := by
  go_enter Try.func24, Try.ntmps24
  go_wp2_with (go_at_call 71; refine (impl_valid _ _ _).mono ?_; rintro e w1 ⟨rfl, hb⟩)
  go_ret
  exact ⟨rfl, ((Below.refl _ _).alloc (Nat.le_refl _) _).trans (hb.mono (by simp))⟩
end Go.Proofs.Ytpcfnlffamgdaab.Rat1
