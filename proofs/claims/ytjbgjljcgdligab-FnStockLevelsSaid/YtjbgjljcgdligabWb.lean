
/-
  The model's checks of lists, as callers take them; cells behind a call.
-/
import Derived.Test.YtjbgjljcgdligabKn
set_option linter.unusedSimpArgs false
set_option linter.unusedVariables false
namespace Go.Proofs.Ytjbgjljcgdligab
open Go.RowKit

theorem cell_byW {W w' : World} {b o : Nat} {v : Value} (hb : Below W.heap.size W w') (hlt : b < W.heap.size) (c : W.cell? ⟨b, o, none⟩ = some v) : w'.cell? ⟨b, o, none⟩ = some v := (hb.cell (p := ⟨b, o, none⟩) hlt).trans c
theorem spec_ascW (A : Option Addr) (n c : Nat) (m hi : Int) (xs : List Int) (w : World) (hI : Ints w A n xs) (hn : n ≤ maxLen) (hm : hi = m - 1) :
    Calls Try.prog 78 #[.slice A n c, .int .i64 0, .int .i64 hi] w fun e w' => e = .returned (.bool (ascB xs m)) ∧ Below w.heap.size w w' :=
  (spec_ascending A n c m hi xs w hI hn hm).mono fun _ _ ⟨he, d, hw⟩ => ⟨he, hw ▸ bel_drewN (Below.refl _ _) d⟩
theorem spec_allInW (A : Option Addr) (n c : Nat) (lo hi : Int) (xs : List Int) (w : World) (hI : Ints w A n xs) (hn : n ≤ maxLen) :
    Calls Try.prog 73 #[.slice A n c, .int .i64 lo, .int .i64 hi] w fun e w' => e = .returned (.bool (vInts xs lo hi)) ∧ Below w.heap.size w w' :=
  (spec_allIn A n c lo hi xs w hI hn).mono fun _ _ h => ⟨h.1, by first | exact h.2 ▸ Below.refl _ _ | exact (by obtain ⟨d, hd⟩ := h.2; exact hd ▸ bel_drewN (Below.refl _ _) d)⟩
end Go.Proofs.Ytjbgjljcgdligab
