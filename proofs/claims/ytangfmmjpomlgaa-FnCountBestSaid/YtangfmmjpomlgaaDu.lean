
/-
  The draws of the laws on rows; rows that are equal.
-/
import Derived.Test.YtangfmmjpomlgaaDt
set_option linter.unusedSimpArgs false
set_option linter.unusedVariables false
namespace Go.Proofs.Ytangfmmjpomlgaa
open Go.RowKit

/-- A row was drawn: its numbers lie in a block of its own. -/
def RowDrawn (w : World) (e : Ending) (w' : World) : Prop :=
  ∃ (g c : Nat) (r : PRow), w.heap.size ≤ g ∧ e = .returned (.agg #[.slice (some ⟨g, 0, none⟩) r.cs.length c, .int .i64 r.s, .int .i64 r.b]) ∧ OwnI w' g r.cs ∧ RowV w' (some ⟨g, 0, none⟩) c r ∧ r.cs.length ≤ 1000 ∧ Below w.heap.size w w'

set_option maxHeartbeats 1000000 in
theorem laws_equalInts0 (A A' : Option Addr) (n c c' : Nat) (xs : List Int) (w : World) (hi : Ints w A n xs) (hj : Ints w A' n xs) (hn : n ≤ 1048576) :
    Calls Try.prog 12 #[.slice A n c, .slice A' n c'] w fun e w' => e = .returned (.bool true) ∧ ∃ m, w' = w.drewN m := by
  have HI := Lib.hid hi; clear hi
  have HJ := Lib.hid hj; clear hj
  go_enter Try.func12, Try.ntmps12
  go_wp2
  go_loopw [5] (fun s5 wr => ∃ k : Nat, k ≤ n ∧ s5 = .int .i64 k ∧ ∃ m, wr = w.drewN m) (fun s5 _ => n - (intOf s5).toNat)
  case atStart => exact ⟨0, by omega, rfl, 0, rfl⟩
  case round =>
    obtain ⟨k, hk, rfl, m, rfl⟩ := hrel
    by_cases hlt : k < n
    · obtain ⟨b, off, x, rfl, hb, hx, hlo, hhi, hc⟩ := HI.out.at_ hlt
      obtain ⟨b', off', x', rfl, hb', hx', hlo', hhi', hc'⟩ := HJ.out.at_ hlt
      rw [hx] at hx'
      injection hx' with hx'
      subst hx'
      clear hx
      go_wp2
      go_quiet (fail)
      go_wp2
      go_roundw
      case rel => exact ⟨k + 1, by omega, by go_num, m + nq, rfl⟩
      case measure => simp [intOf]; omega
    · go_wp2
      go_ret
      exact ⟨rfl, m, rfl⟩
theorem laws_equalInts (A A' : Option Addr) (n c c' : Nat) (xs : List Int) (w : World) (hi : Ints w A n xs) (hj : Ints w A' n xs) (hn : n ≤ 1048576) :
    Calls Try.prog 12 #[.slice A n c, .slice A' n c'] w fun e w' => e = .returned (.bool true) ∧ Below w.heap.size w w' :=
  (laws_equalInts0 _ _ _ _ _ _ _ hi hj hn).mono fun _ _ ⟨h, m, e⟩ => ⟨h, by subst e; exact bel_drewN (Below.refl _ _) m⟩
theorem RowDrawn.mk {g c n : Nat} {xs : List Int} {s b : Int} {A : Option Addr} {w w' w0 : World} (hg : w.heap.size ≤ g) (ho : OwnI w' g xs) (hi : Ints w0 A n xs) (lc : xs.length ≤ c) (mc : c ≤ maxLen) (hm : xs.length ≤ 1000) (hs : I64 s) (hb : I64 b) (hO : Below w.heap.size w w') :
    RowDrawn w (.returned (.agg #[.slice (some ⟨g, 0, none⟩) xs.length c, .int .i64 s, .int .i64 b])) w' := by
  have e := hi.1
  subst e
  exact ⟨g, c, ⟨xs, s, b⟩, hg, rfl, ho, ⟨ho.ints_of hi, lc, mc, hs, hb⟩, hm, hO⟩
end Go.Proofs.Ytangfmmjpomlgaa
