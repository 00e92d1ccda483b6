
/-
  Opening arguments: slices of numbers, rows, slices of rows, problems and boxes, read as plain data.
-/
import Derived.Test.YtpcfnlffamgdaaaM
import Derived.ProofKit
import Derived.OpenShut
import Derived.ChangeOld
import Derived.Deep.Slices
import Derived.Deep.Strs
import Derived.Deep.Fields
import Derived.ChangeSame
import Derived.Lib.SmallJoins
set_option linter.unusedSimpArgs false
set_option linter.unusedVariables false
namespace Go.Proofs.Ytpcfnlffamgdaaa
open Go.ChangeShapes Go.WideShapes Go.ChangeAt Go.RowKit Go.Deep Go.Joins

theorem own : ownKnob Try.prog.godebug = none := by kernel_rfl
theorem laidOut : laidOutB Try.prog = true := by kernel_rfl
theorem add_flat (b off i : Nat) : (⟨b, off, none⟩ : Addr).add i = ⟨b, off + i, none⟩ := by
  rcases Nat.eq_zero_or_pos i with rfl | h
  · simp [Addr.add]
  · simp [Addr.add]; omega
theorem i64_of_wf {n : Int} (h : (Lit.int .i64 n).wf = true) : I64 n := by
  simp [Lit.wf, IntKind.min, IntKind.max, IntKind.signed, IntKind.bits] at h
  exact ⟨by omega, by omega⟩

section
variable {H : Type} {enc : TypeId × Value → H} {P : Program} {w : World} {base : Nat} {held : Bool}

theorem ints_of_trod {t e : TypeId} {fuel : Nat} {v : Value} {x : DataW H × List MemPlace} (ht : P.underlying t = some (.slice e)) (he : P.underlying e = some (.int .i64)) (hc : P.cellsOf e = 1)
    (h : DataW.trod enc P w base (fun _ => true) held fuel t [v] = some x) : ∃ (A : Option Addr) (n c : Nat) (xs : List Int), v = .slice A n c ∧ n ≤ c ∧ c ≤ maxLen ∧ Ints w A n xs := by
  rcases open_ints ht he hc h with ⟨hcs, _⟩ | ⟨a, l, c, zs, hcs, hbx, hl, hm, hz, hx, hcell, hwz⟩
  · simp at hcs
    exact ⟨none, 0, 0, [], hcs, Nat.le_refl _, Nat.zero_le _, Ints.nil _ _⟩
  · simp at hcs
    simp only [if_true] at hz
    refine ⟨some a, l, c, zs.take l, hcs, hl, hm, by simp; omega, fun y hy => i64_of_wf (hwz y (List.mem_of_mem_take hy)), fun hn => ?_⟩
    have h0 := hcell 0 (by omega)
    obtain ⟨b, off, spot⟩ := a
    have hspot : spot = none := by simpa [Addr.add] using World.cell?_spot h0
    subst hspot
    refine ⟨b, off, rfl, fun i y hy => ?_⟩
    rw [List.getElem?_take] at hy
    by_cases hi : i < l
    · rw [if_pos hi] at hy
      have := hcell i (by omega)
      rw [add_flat] at this
      rw [this, List.getD_eq_getElem?_getD, hy]; rfl
    · rw [if_neg hi] at hy; cases hy

theorem row_of_trod {t e : TypeId} {f0 f1 f2 : Field} {fuel : Nat} {cs : List Value} {x : DataW H × List MemPlace} (hs : P.underlying t = some (.struct #[f0, f1, f2])) (hone : oneCellFields P #[f0, f1, f2] = true) (hC : P.cellsOf t = 3)
    (ht0 : P.underlying f0.type = some (.slice e)) (he : P.underlying e = some (.int .i64)) (hc : P.cellsOf e = 1) (ht1 : P.underlying f1.type = some (.int .i64)) (ht2 : P.underlying f2.type = some (.int .i64))
    (h : DataW.trod enc P w base (fun _ => true) held fuel t cs = some x) : ∃ (A : Option Addr) (c : Nat) (r : PRow), cs = [.slice A r.cs.length c, .int .i64 r.s, .int .i64 r.b] ∧ RowV w A c r := by
  obtain ⟨y0, y1, y2, n, hx, hlen, h0, h1, h2⟩ := trod_struct3 hs h
  rw [hC] at hlen
  match cs, hlen with
  | [c0, c1, c2], _ =>
    obtain ⟨o0, k0⟩ := hone_of hone 0 f0 rfl
    obtain ⟨o1, k1⟩ := hone_of hone 1 f1 rfl
    obtain ⟨o2, k2⟩ := hone_of hone 2 f2 rfl
    have h0' : DataW.trod enc P w base (fun _ => true) held n f0.type [c0] = some y0 := by simpa [o0, k0] using h0
    have h1' : DataW.trod enc P w base (fun _ => true) held n f1.type [c1] = some y1 := by simpa [o1, k1] using h1
    have h2' : DataW.trod enc P w base (fun _ => true) held n f2.type [c2] = some y2 := by simpa [o2, k2] using h2
    obtain ⟨A, n', c', xs, rfl, hn, hm, hi⟩ := ints_of_trod ht0 he hc h0'
    obtain ⟨s, e1, -, w1⟩ := DataW.trod_int ht1 h1'
    obtain ⟨b, e2, -, w2⟩ := DataW.trod_int ht2 h2'
    simp at e1 e2
    subst e1 e2
    have hl := hi.1
    subst hl
    exact ⟨A, c', ⟨xs, s, b⟩, rfl, hi, hn, hm, i64_of_wf w1, i64_of_wf w2⟩

theorem rows_of_trod {tS t e : TypeId} {f0 f1 f2 : Field} {fuel : Nat} {v : Value} {x : DataW H × List MemPlace} (hS : P.underlying tS = some (.slice t)) (hs : P.underlying t = some (.struct #[f0, f1, f2])) (hone : oneCellFields P #[f0, f1, f2] = true) (hC : P.cellsOf t = 3)
    (ht0 : P.underlying f0.type = some (.slice e)) (he : P.underlying e = some (.int .i64)) (hc : P.cellsOf e = 1) (ht1 : P.underlying f1.type = some (.int .i64)) (ht2 : P.underlying f2.type = some (.int .i64))
    (h : DataW.trod enc P w base (fun _ => true) held fuel tS [v] = some x) : ∃ (A : Option Addr) (n c : Nat) (rs : List PRow), v = .slice A n c ∧ n ≤ c ∧ c ≤ maxLen ∧ RowS w A n rs := by
  rcases open_slice hS h with ⟨h0, _⟩ | ⟨a, len, cap, m, n, D, Pl, hcs, hb, hl, hm, hmm, hx, hi⟩
  · simp at h0
    exact ⟨none, 0, 0, [], h0, Nat.le_refl _, Nat.zero_le _, RowS.nil _ _⟩
  · simp at hcs
    simp only [if_true] at hmm
    subst hmm
    rw [hC] at hi
    have each : ∀ i, i < m → ∃ y : Option Addr × Nat × PRow, RowV w y.1 y.2.1 y.2.2 ∧
        w.cell? (a.add (i * 3)) = some (.slice y.1 y.2.2.cs.length y.2.1) ∧ w.cell? ((a.add (i * 3)).add 1) = some (.int .i64 y.2.2.s) ∧ w.cell? ((a.add (i * 3)).add 2) = some (.int .i64 y.2.2.b) := by
      intro i him
      obtain ⟨cs', hc', ht'⟩ := hi i him
      obtain ⟨A, c', r, hcs', hr⟩ := row_of_trod hs hone hC ht0 he hc ht1 ht2 ht'
      obtain ⟨_, hcl, hat⟩ := World.cells?_some hc'
      subst hcs'
      have a0 := hat 0 (by omega)
      have a1 := hat 1 (by omega)
      have a2 := hat 2 (by omega)
      exact ⟨(A, c', r), hr, by simpa [Addr.add] using a0, by simpa using a1, by simpa using a2⟩
    have : Inhabited (Option Addr × Nat × PRow) := ⟨(none, 0, ⟨[], 0, 0⟩)⟩
    obtain ⟨y, hy⟩ := choose_lt each
    refine ⟨some a, len, m, (List.range len).map fun i => (y i).2.2, hcs, hl, hm, by simp, fun hn => ?_⟩
    have h0 := (hy 0 (by omega)).2.1
    obtain ⟨b, off, spot⟩ := a
    have hspot : spot = none := by simpa [Addr.add] using World.cell?_spot h0
    subst hspot
    refine ⟨b, off, rfl, fun i r hr => ?_⟩
    by_cases hil : i < len
    · simp [hil] at hr
      subst hr
      obtain ⟨hv, k0, k1, k2⟩ := hy i (by omega)
      rw [add_flat] at k0 k1 k2
      rw [add_flat] at k1 k2
      exact ⟨_, _, hv, k0, k1, k2⟩
    · simp [hil] at hr
end
end Go.Proofs.Ytpcfnlffamgdaaa
