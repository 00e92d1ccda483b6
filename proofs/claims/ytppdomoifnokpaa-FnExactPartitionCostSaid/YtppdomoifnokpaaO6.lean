
/-
  Opening arguments, more: slices of slices.
-/
import Derived.Test.YtppdomoifnokpaaO5
import Derived.Test.YtppdomoifnokpaaVa
set_option linter.unusedSimpArgs false
set_option linter.unusedVariables false
namespace Go.Proofs.Ytppdomoifnokpaa
open Go.ChangeShapes Go.WideShapes Go.ChangeAt Go.RowKit Go.Deep Go.Joins

section
variable {H : Type} {enc : TypeId × Value → H} {P : Program} {w : World} {base : Nat} {held : Bool}
theorem lists_of_trod {tS t e : TypeId} {fuel : Nat} {v : Value} {x : DataW H × List MemPlace} (hS : P.underlying tS = some (.slice t)) (hC : P.cellsOf t = 1) (hs : P.underlying t = some (.slice e)) (he : P.underlying e = some (.int .i64)) (hc : P.cellsOf e = 1)
    (h : DataW.trod enc P w base (fun _ => true) held fuel tS [v] = some x) : ∃ (A : Option Addr) (n c : Nat) (xss : List (List Int)), v = .slice A n c ∧ n ≤ c ∧ c ≤ maxLen ∧ Lists w A n xss := by
  rcases open_slice1 hS hC h with ⟨h0, _⟩ | ⟨a, len, cap, m, n, V, D, Pl, hcs, hb, hl, hm, hmm, hx, hi⟩
  · simp at h0
    exact ⟨none, 0, 0, [], h0, Nat.le_refl _, Nat.zero_le _, Lists.nil _ _⟩
  · simp at hcs
    simp only [if_true] at hmm
    subst hmm
    have each : ∀ i, i < m → ∃ y : Option Addr × Nat × List Int, Ints w y.1 y.2.2.length y.2.2 ∧ y.2.2.length ≤ y.2.1 ∧ y.2.1 ≤ maxLen ∧ w.cell? (a.add i) = some (.slice y.1 y.2.2.length y.2.1) := by
      intro i him
      obtain ⟨hc', ht'⟩ := hi i him
      obtain ⟨A, n', c', xs, hv, h1, h2, h3⟩ := ints_of_trod hs he hc ht'
      have e := h3.1
      subst e
      exact ⟨(A, c', xs), h3, h1, h2, by rw [hc', hv]⟩
    have : Inhabited (Option Addr × Nat × List Int) := ⟨(none, 0, [])⟩
    obtain ⟨y, hy⟩ := choose_lt each
    refine ⟨some a, len, m, (List.range len).map fun i => (y i).2.2, hcs, hl, hm, by simp, fun hn => ?_⟩
    have h0 := (hy 0 (by omega)).2.2.2
    obtain ⟨b, off, spot⟩ := a
    have hspot : spot = none := by simpa [Addr.add] using World.cell?_spot h0
    subst hspot
    refine ⟨b, off, rfl, fun i xs hxs => ?_⟩
    by_cases hil : i < len
    · simp [hil] at hxs
      subst hxs
      obtain ⟨k0, k1, k2, k3⟩ := hy i (by omega)
      rw [add_flat] at k3
      exact ⟨_, _, k0, k1, k2, k3⟩
    · simp [hil] at hxs
end
end Go.Proofs.Ytppdomoifnokpaa
