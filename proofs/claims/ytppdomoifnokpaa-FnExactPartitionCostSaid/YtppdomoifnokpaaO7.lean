
/-
  Opening arguments, more: slices of columns.
-/
import Derived.Test.YtppdomoifnokpaaO6
import Derived.Test.YtppdomoifnokpaaCa
set_option linter.unusedSimpArgs false
set_option linter.unusedVariables false
namespace Go.Proofs.Ytppdomoifnokpaa
open Go.ChangeShapes Go.WideShapes Go.ChangeAt Go.RowKit Go.Deep Go.Joins

section
variable {H : Type} {enc : TypeId × Value → H} {P : Program} {w : World} {base : Nat} {held : Bool}
theorem col_of_trod {t e : TypeId} {f0 f1 : Field} {fuel : Nat} {cs : List Value} {x : DataW H × List MemPlace} (hs : P.underlying t = some (.struct #[f0, f1])) (hone : oneCellFields P #[f0, f1] = true) (hC : P.cellsOf t = 2)
    (ht0 : P.underlying f0.type = some (.int .i64)) (ht1 : P.underlying f1.type = some (.slice e)) (he : P.underlying e = some (.int .i64)) (hc : P.cellsOf e = 1)
    (h : DataW.trod enc P w base (fun _ => true) held fuel t cs = some x) : ∃ (A : Option Addr) (c : Nat) (d : PCol), cs = [.int .i64 d.c, .slice A d.s.length c] ∧ Ints w A d.s.length d.s ∧ d.s.length ≤ c ∧ c ≤ maxLen ∧ I64 d.c := by
  obtain ⟨y0, y1, n, hx, hlen, h0, h1⟩ := trod_struct2 hs h
  rw [hC] at hlen
  obtain ⟨c0, c1, rfl⟩ := list2 hlen
  obtain ⟨o0, k0⟩ := hone_of hone 0 f0 rfl
  obtain ⟨o1, k1⟩ := hone_of hone 1 f1 rfl
  have h0' : DataW.trod enc P w base (fun _ => true) held n f0.type [c0] = some y0 := by simpa [o0, k0] using h0
  have h1' : DataW.trod enc P w base (fun _ => true) held n f1.type [c1] = some y1 := by simpa [o1, k1] using h1
  obtain ⟨a, e0, -, w0⟩ := DataW.trod_int ht0 h0'
  obtain ⟨A, n', c', xs, rfl, hn, hm, hi⟩ := ints_of_trod ht1 he hc h1'
  simp at e0
  subst e0
  have hl := hi.1
  subst hl
  exact ⟨A, c', ⟨a, xs⟩, rfl, hi, hn, hm, i64_of_wf w0⟩
theorem cols_of_trod {tS t e : TypeId} {f0 f1 : Field} {fuel : Nat} {v : Value} {x : DataW H × List MemPlace} (hS : P.underlying tS = some (.slice t)) (hs : P.underlying t = some (.struct #[f0, f1])) (hone : oneCellFields P #[f0, f1] = true) (hC : P.cellsOf t = 2)
    (ht0 : P.underlying f0.type = some (.int .i64)) (ht1 : P.underlying f1.type = some (.slice e)) (he : P.underlying e = some (.int .i64)) (hc : P.cellsOf e = 1)
    (h : DataW.trod enc P w base (fun _ => true) held fuel tS [v] = some x) : ∃ (A : Option Addr) (n c : Nat) (cs : List PCol), v = .slice A n c ∧ n ≤ c ∧ c ≤ maxLen ∧ ColS w A n cs := by
  rcases open_slice hS h with ⟨h0, _⟩ | ⟨a, len, cap, m, n, D, Pl, hcs, hb, hl, hm, hmm, hx, hi⟩
  · simp at h0
    exact ⟨none, 0, 0, [], h0, Nat.le_refl _, Nat.zero_le _, ColS.nil _ _⟩
  · simp at hcs
    simp only [if_true] at hmm
    subst hmm
    rw [hC] at hi
    have each : ∀ i, i < m → ∃ y : Option Addr × Nat × PCol, (Ints w y.1 y.2.2.s.length y.2.2.s ∧ y.2.2.s.length ≤ y.2.1 ∧ y.2.1 ≤ maxLen ∧ I64 y.2.2.c) ∧
        w.cell? (a.add (i * 2)) = some (.int .i64 y.2.2.c) ∧ w.cell? ((a.add (i * 2)).add 1) = some (.slice y.1 y.2.2.s.length y.2.1) := by
      intro i him
      obtain ⟨cs', hc', ht'⟩ := hi i him
      obtain ⟨A, c', d, hcs', hr⟩ := col_of_trod hs hone hC ht0 ht1 he hc ht'
      obtain ⟨_, hcl, hat⟩ := World.cells?_some hc'
      subst hcs'
      have a0 := hat 0 (by omega)
      have a1 := hat 1 (by omega)
      exact ⟨(A, c', d), hr, by simpa [Addr.add] using a0, by simpa using a1⟩
    have : Inhabited (Option Addr × Nat × PCol) := ⟨(none, 0, ⟨0, []⟩)⟩
    obtain ⟨y, hy⟩ := choose_lt each
    refine ⟨some a, len, m, (List.range len).map fun i => (y i).2.2, hcs, hl, hm, by simp, fun hn => ?_⟩
    have h0 := (hy 0 (by omega)).2.1
    obtain ⟨b, off, spot⟩ := a
    have hspot : spot = none := by simpa [Addr.add] using World.cell?_spot h0
    subst hspot
    refine ⟨b, off, rfl, fun i d hd => ?_⟩
    by_cases hil : i < len
    · simp [hil] at hd
      subst hd
      obtain ⟨⟨v1, v2, v3, v4⟩, k0, k1⟩ := hy i (by omega)
      rw [add_flat] at k0 k1
      rw [add_flat] at k1
      exact ⟨_, _, v1, v2, v3, v4, k0, k1⟩
    · simp [hil] at hd
end
end Go.Proofs.Ytppdomoifnokpaa
