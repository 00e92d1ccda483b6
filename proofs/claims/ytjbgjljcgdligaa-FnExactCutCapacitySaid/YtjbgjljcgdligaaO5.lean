
/-
  Opening arguments, more: slices of flat structures, structures of five numbers.
-/
import Derived.Test.YtjbgjljcgdligaaOp
import Derived.Test.YtjbgjljcgdligaaFa
set_option linter.unusedSimpArgs false
set_option linter.unusedVariables false
namespace Go.Proofs.Ytjbgjljcgdligaa
open Go.ChangeShapes Go.WideShapes Go.ChangeAt Go.RowKit Go.Deep Go.Joins

theorem list2 {α : Type} {l : List α} (h : l.length = 2) : ∃ c0 c1, l = [c0, c1] := by
  match l, h with
  | [c0, c1], _ => exact ⟨c0, c1, rfl⟩
theorem list4 {α : Type} {l : List α} (h : l.length = 4) : ∃ c0 c1 c2 c3, l = [c0, c1, c2, c3] := by
  match l, h with
  | [c0, c1, c2, c3], _ => exact ⟨c0, c1, c2, c3, rfl⟩
theorem list5 {α : Type} {l : List α} (h : l.length = 5) : ∃ c0 c1 c2 c3 c4, l = [c0, c1, c2, c3, c4] := by
  match l, h with
  | [c0, c1, c2, c3, c4], _ => exact ⟨c0, c1, c2, c3, c4, rfl⟩
theorem array5 {α : Type} {cs : Array α} (h : cs.size = 5) : ∃ c0 c1 c2 c3 c4, cs = #[c0, c1, c2, c3, c4] := by
  obtain ⟨l⟩ := cs
  match l, h with
  | [c0, c1, c2, c3, c4], _ => exact ⟨c0, c1, c2, c3, c4, rfl⟩
section
variable {H : Type} {enc : TypeId × Value → H} {P : Program} {w : World} {base : Nat} {held : Bool}
theorem trod_struct5 {spare : Nat → Bool} {t : TypeId} {f0 f1 f2 f3 f4 : Field} {fuel : Nat} {cs : List Value} {x : DataW H × List MemPlace} (ht : P.underlying t = some (.struct #[f0, f1, f2, f3, f4])) (h : DataW.trod enc P w base spare held fuel t cs = some x) :
    ∃ y0 y1 y2 y3 y4 n, x = (.agg [y0.1, y1.1, y2.1, y3.1, y4.1], y0.2 ++ (y1.2 ++ (y2.2 ++ (y3.2 ++ y4.2)))) ∧ cs.length = P.cellsOf t ∧ DataW.trod enc P w base spare held n f0.type ((cs.drop f0.offset).take (P.cellsOf f0.type)) = some y0 ∧
      DataW.trod enc P w base spare held n f1.type ((cs.drop f1.offset).take (P.cellsOf f1.type)) = some y1 ∧ DataW.trod enc P w base spare held n f2.type ((cs.drop f2.offset).take (P.cellsOf f2.type)) = some y2 ∧
      DataW.trod enc P w base spare held n f3.type ((cs.drop f3.offset).take (P.cellsOf f3.type)) = some y3 ∧ DataW.trod enc P w base spare held n f4.type ((cs.drop f4.offset).take (P.cellsOf f4.type)) = some y4 := by
  obtain ⟨xs, n, _, rfl, hl, hlen, hf⟩ := DataW.trod_struct ht h
  match xs, hlen with
  | [y0, y1, y2, y3, y4], _ => exact ⟨y0, y1, y2, y3, y4, n, by simp, hl, by simpa using hf 0 f0 rfl, by simpa using hf 1 f1 rfl, by simpa using hf 2 f2 rfl, by simpa using hf 3 f3 rfl, by simpa using hf 4 f4 rfl⟩
theorem open_agg5 {spare : Nat → Bool} {r : Reach} {b0 : Nat} {t : TypeId} {f0 f1 f2 f3 f4 : Field} {v : Value} {d : DataW H} {p : List MemPlace} (hs : P.underlying t = some (.struct #[f0, f1, f2, f3, f4])) (hone : oneCellFields P #[f0, f1, f2, f3, f4] = true) (hC : P.cellsOf t = 5)
    (hv : Value.okWide P w r b0 t v) (h : DataW.Trod enc P w base spare held t v d p) :
    ∃ (v0 v1 v2 v3 v4 : Value) (y0 y1 y2 y3 y4 : DataW H × List MemPlace) (n : Nat), v = .agg #[v0, v1, v2, v3, v4] ∧ d = .agg [y0.1, y1.1, y2.1, y3.1, y4.1] ∧ p = y0.2 ++ (y1.2 ++ (y2.2 ++ (y3.2 ++ y4.2))) ∧
      DataW.trod enc P w base spare held n f0.type [v0] = some y0 ∧ DataW.trod enc P w base spare held n f1.type [v1] = some y1 ∧ DataW.trod enc P w base spare held n f2.type [v2] = some y2 ∧ DataW.trod enc P w base spare held n f3.type [v3] = some y3 ∧ DataW.trod enc P w base spare held n f4.type [v4] = some y4 := by
  obtain ⟨cs, rfl, hsz⟩ := okWide_struct hs hv
  obtain ⟨c0, c1, c2, c3, c4, rfl⟩ := array5 (hsz.trans hC)
  obtain ⟨fuel, hf⟩ := h
  obtain ⟨y0, y1, y2, y3, y4, n, hx, _, h0, h1, h2, h3, h4⟩ := trod_struct5 hs hf
  obtain ⟨o0, k0⟩ := hone_of hone 0 f0 rfl
  obtain ⟨o1, k1⟩ := hone_of hone 1 f1 rfl
  obtain ⟨o2, k2⟩ := hone_of hone 2 f2 rfl
  obtain ⟨o3, k3⟩ := hone_of hone 3 f3 rfl
  obtain ⟨o4, k4⟩ := hone_of hone 4 f4 rfl
  simp only [Prod.mk.injEq] at hx
  exact ⟨c0, c1, c2, c3, c4, y0, y1, y2, y3, y4, n, rfl, hx.1, hx.2, by simpa [Value.cells, o0, k0] using h0, by simpa [Value.cells, o1, k1] using h1, by simpa [Value.cells, o2, k2] using h2, by simpa [Value.cells, o3, k3] using h3, by simpa [Value.cells, o4, k4] using h4⟩
theorem flatElem2 {t : TypeId} {f0 f1 : Field} (hs : P.underlying t = some (.struct #[f0, f1])) (hone : oneCellFields P #[f0, f1] = true) (hC : P.cellsOf t = 2) (ht0 : P.underlying f0.type = some (.int .i64)) (ht1 : P.underlying f1.type = some (.int .i64)) :
    ∀ (fuel : Nat) (cs : List Value) (x : DataW H × List MemPlace), DataW.trod enc P w base (fun _ => true) held fuel t cs = some x → ∃ y : Nat → Int, (∀ d, d < 2 → I64 (y d)) ∧ ∀ d, d < 2 → cs[d]? = some (.int .i64 (y d)) := by
  intro fuel cs x h
  obtain ⟨y0, y1, n, hx, hlen, h0, h1⟩ := trod_struct2 hs h
  rw [hC] at hlen
  obtain ⟨c0, c1, rfl⟩ := list2 hlen
  obtain ⟨o0, k0⟩ := hone_of hone 0 f0 rfl
  have h0' : DataW.trod enc P w base (fun _ => true) held n f0.type [c0] = some y0 := by simpa [o0, k0] using h0
  obtain ⟨z0, e0, -, w0⟩ := DataW.trod_int ht0 h0'
  obtain ⟨o1, k1⟩ := hone_of hone 1 f1 rfl
  have h1' : DataW.trod enc P w base (fun _ => true) held n f1.type [c1] = some y1 := by simpa [o1, k1] using h1
  obtain ⟨z1, e1, -, w1⟩ := DataW.trod_int ht1 h1'
  simp at e0 e1
  subst e0 e1
  refine ⟨fun d => if d = 0 then z0 else z1, fun d hd => ?_, fun d hd => ?_⟩
  · rcases (by omega : d = 0 ∨ d = 1) with rfl | rfl <;> simp <;> exact i64_of_wf (by assumption)
  · rcases (by omega : d = 0 ∨ d = 1) with rfl | rfl <;> simp
theorem list3 {α : Type} {l : List α} (h : l.length = 3) : ∃ c0 c1 c2, l = [c0, c1, c2] := by
  match l, h with
  | [c0, c1, c2], _ => exact ⟨c0, c1, c2, rfl⟩
theorem flatElem3 {t : TypeId} {f0 f1 f2 : Field} (hs : P.underlying t = some (.struct #[f0, f1, f2])) (hone : oneCellFields P #[f0, f1, f2] = true) (hC : P.cellsOf t = 3) (ht0 : P.underlying f0.type = some (.int .i64)) (ht1 : P.underlying f1.type = some (.int .i64)) (ht2 : P.underlying f2.type = some (.int .i64)) :
    ∀ (fuel : Nat) (cs : List Value) (x : DataW H × List MemPlace), DataW.trod enc P w base (fun _ => true) held fuel t cs = some x → ∃ y : Nat → Int, (∀ d, d < 3 → I64 (y d)) ∧ ∀ d, d < 3 → cs[d]? = some (.int .i64 (y d)) := by
  intro fuel cs x h
  obtain ⟨y0, y1, y2, n, hx, hlen, h0, h1, h2⟩ := trod_struct3 hs h
  rw [hC] at hlen
  obtain ⟨c0, c1, c2, rfl⟩ := list3 hlen
  obtain ⟨o0, k0⟩ := hone_of hone 0 f0 rfl
  have h0' : DataW.trod enc P w base (fun _ => true) held n f0.type [c0] = some y0 := by simpa [o0, k0] using h0
  obtain ⟨z0, e0, -, w0⟩ := DataW.trod_int ht0 h0'
  obtain ⟨o1, k1⟩ := hone_of hone 1 f1 rfl
  have h1' : DataW.trod enc P w base (fun _ => true) held n f1.type [c1] = some y1 := by simpa [o1, k1] using h1
  obtain ⟨z1, e1, -, w1⟩ := DataW.trod_int ht1 h1'
  obtain ⟨o2, k2⟩ := hone_of hone 2 f2 rfl
  have h2' : DataW.trod enc P w base (fun _ => true) held n f2.type [c2] = some y2 := by simpa [o2, k2] using h2
  obtain ⟨z2, e2, -, w2⟩ := DataW.trod_int ht2 h2'
  simp at e0 e1 e2
  subst e0 e1 e2
  refine ⟨fun d => if d = 0 then z0 else if d = 1 then z1 else z2, fun d hd => ?_, fun d hd => ?_⟩
  · rcases (by omega : d = 0 ∨ d = 1 ∨ d = 2) with rfl | rfl | rfl <;> simp <;> exact i64_of_wf (by assumption)
  · rcases (by omega : d = 0 ∨ d = 1 ∨ d = 2) with rfl | rfl | rfl <;> simp
theorem flatElem4 {t : TypeId} {f0 f1 f2 f3 : Field} (hs : P.underlying t = some (.struct #[f0, f1, f2, f3])) (hone : oneCellFields P #[f0, f1, f2, f3] = true) (hC : P.cellsOf t = 4) (ht0 : P.underlying f0.type = some (.int .i64)) (ht1 : P.underlying f1.type = some (.int .i64)) (ht2 : P.underlying f2.type = some (.int .i64)) (ht3 : P.underlying f3.type = some (.int .i64)) :
    ∀ (fuel : Nat) (cs : List Value) (x : DataW H × List MemPlace), DataW.trod enc P w base (fun _ => true) held fuel t cs = some x → ∃ y : Nat → Int, (∀ d, d < 4 → I64 (y d)) ∧ ∀ d, d < 4 → cs[d]? = some (.int .i64 (y d)) := by
  intro fuel cs x h
  obtain ⟨y0, y1, y2, y3, n, hx, hlen, h0, h1, h2, h3⟩ := trod_struct4 hs h
  rw [hC] at hlen
  obtain ⟨c0, c1, c2, c3, rfl⟩ := list4 hlen
  obtain ⟨o0, k0⟩ := hone_of hone 0 f0 rfl
  have h0' : DataW.trod enc P w base (fun _ => true) held n f0.type [c0] = some y0 := by simpa [o0, k0] using h0
  obtain ⟨z0, e0, -, w0⟩ := DataW.trod_int ht0 h0'
  obtain ⟨o1, k1⟩ := hone_of hone 1 f1 rfl
  have h1' : DataW.trod enc P w base (fun _ => true) held n f1.type [c1] = some y1 := by simpa [o1, k1] using h1
  obtain ⟨z1, e1, -, w1⟩ := DataW.trod_int ht1 h1'
  obtain ⟨o2, k2⟩ := hone_of hone 2 f2 rfl
  have h2' : DataW.trod enc P w base (fun _ => true) held n f2.type [c2] = some y2 := by simpa [o2, k2] using h2
  obtain ⟨z2, e2, -, w2⟩ := DataW.trod_int ht2 h2'
  obtain ⟨o3, k3⟩ := hone_of hone 3 f3 rfl
  have h3' : DataW.trod enc P w base (fun _ => true) held n f3.type [c3] = some y3 := by simpa [o3, k3] using h3
  obtain ⟨z3, e3, -, w3⟩ := DataW.trod_int ht3 h3'
  simp at e0 e1 e2 e3
  subst e0 e1 e2 e3
  refine ⟨fun d => if d = 0 then z0 else if d = 1 then z1 else if d = 2 then z2 else z3, fun d hd => ?_, fun d hd => ?_⟩
  · rcases (by omega : d = 0 ∨ d = 1 ∨ d = 2 ∨ d = 3) with rfl | rfl | rfl | rfl <;> simp <;> exact i64_of_wf (by assumption)
  · rcases (by omega : d = 0 ∨ d = 1 ∨ d = 2 ∨ d = 3) with rfl | rfl | rfl | rfl <;> simp
theorem flatElem5 {t : TypeId} {f0 f1 f2 f3 f4 : Field} (hs : P.underlying t = some (.struct #[f0, f1, f2, f3, f4])) (hone : oneCellFields P #[f0, f1, f2, f3, f4] = true) (hC : P.cellsOf t = 5) (ht0 : P.underlying f0.type = some (.int .i64)) (ht1 : P.underlying f1.type = some (.int .i64)) (ht2 : P.underlying f2.type = some (.int .i64)) (ht3 : P.underlying f3.type = some (.int .i64)) (ht4 : P.underlying f4.type = some (.int .i64)) :
    ∀ (fuel : Nat) (cs : List Value) (x : DataW H × List MemPlace), DataW.trod enc P w base (fun _ => true) held fuel t cs = some x → ∃ y : Nat → Int, (∀ d, d < 5 → I64 (y d)) ∧ ∀ d, d < 5 → cs[d]? = some (.int .i64 (y d)) := by
  intro fuel cs x h
  obtain ⟨y0, y1, y2, y3, y4, n, hx, hlen, h0, h1, h2, h3, h4⟩ := trod_struct5 hs h
  rw [hC] at hlen
  obtain ⟨c0, c1, c2, c3, c4, rfl⟩ := list5 hlen
  obtain ⟨o0, k0⟩ := hone_of hone 0 f0 rfl
  have h0' : DataW.trod enc P w base (fun _ => true) held n f0.type [c0] = some y0 := by simpa [o0, k0] using h0
  obtain ⟨z0, e0, -, w0⟩ := DataW.trod_int ht0 h0'
  obtain ⟨o1, k1⟩ := hone_of hone 1 f1 rfl
  have h1' : DataW.trod enc P w base (fun _ => true) held n f1.type [c1] = some y1 := by simpa [o1, k1] using h1
  obtain ⟨z1, e1, -, w1⟩ := DataW.trod_int ht1 h1'
  obtain ⟨o2, k2⟩ := hone_of hone 2 f2 rfl
  have h2' : DataW.trod enc P w base (fun _ => true) held n f2.type [c2] = some y2 := by simpa [o2, k2] using h2
  obtain ⟨z2, e2, -, w2⟩ := DataW.trod_int ht2 h2'
  obtain ⟨o3, k3⟩ := hone_of hone 3 f3 rfl
  have h3' : DataW.trod enc P w base (fun _ => true) held n f3.type [c3] = some y3 := by simpa [o3, k3] using h3
  obtain ⟨z3, e3, -, w3⟩ := DataW.trod_int ht3 h3'
  obtain ⟨o4, k4⟩ := hone_of hone 4 f4 rfl
  have h4' : DataW.trod enc P w base (fun _ => true) held n f4.type [c4] = some y4 := by simpa [o4, k4] using h4
  obtain ⟨z4, e4, -, w4⟩ := DataW.trod_int ht4 h4'
  simp at e0 e1 e2 e3 e4
  subst e0 e1 e2 e3 e4
  refine ⟨fun d => if d = 0 then z0 else if d = 1 then z1 else if d = 2 then z2 else if d = 3 then z3 else z4, fun d hd => ?_, fun d hd => ?_⟩
  · rcases (by omega : d = 0 ∨ d = 1 ∨ d = 2 ∨ d = 3 ∨ d = 4) with rfl | rfl | rfl | rfl | rfl <;> simp <;> exact i64_of_wf (by assumption)
  · rcases (by omega : d = 0 ∨ d = 1 ∨ d = 2 ∨ d = 3 ∨ d = 4) with rfl | rfl | rfl | rfl | rfl <;> simp
theorem flat_of_trod {C : Nat} {tS t : TypeId} {fuel : Nat} {v : Value} {x : DataW H × List MemPlace} (hC0 : 0 < C) (hS : P.underlying tS = some (.slice t)) (hC : P.cellsOf t = C)
    (elem : ∀ (fuel : Nat) (cs : List Value) (x : DataW H × List MemPlace), DataW.trod enc P w base (fun _ => true) held fuel t cs = some x → ∃ y : Nat → Int, (∀ d, d < C → I64 (y d)) ∧ ∀ d, d < C → cs[d]? = some (.int .i64 (y d)))
    (h : DataW.trod enc P w base (fun _ => true) held fuel tS [v] = some x) : ∃ (A : Option Addr) (n c : Nat) (xs : List Int), v = .slice A n c ∧ n ≤ c ∧ c ≤ maxLen ∧ Ints w A (n * C) xs := by
  rcases open_slice hS h with ⟨h0, _⟩ | ⟨a, len, cap, m, n, D, Pl, hcs, hb, hl, hm, hmm, hx, hi⟩
  · simp at h0
    exact ⟨none, 0, 0, [], h0, Nat.le_refl _, Nat.zero_le _, by rw [Nat.zero_mul]; exact Ints.nil _ _⟩
  · simp at hcs
    simp only [if_true] at hmm
    subst hmm
    rw [hC] at hi
    have each : ∀ i, i < m → ∃ y : Nat → Int, (∀ d, d < C → I64 (y d)) ∧ ∀ d, d < C → w.cell? ((a.add (i * C)).add d) = some (.int .i64 (y d)) := by
      intro i him
      obtain ⟨cs', hc', ht'⟩ := hi i him
      obtain ⟨y, hy1, hy2⟩ := elem _ _ _ ht'
      obtain ⟨_, hcl, hat⟩ := World.cells?_some hc'
      exact ⟨y, hy1, fun d hd => (hat d hd).trans (hy2 d hd)⟩
    have : Inhabited (Nat → Int) := ⟨fun _ => 0⟩
    obtain ⟨y, hy⟩ := choose_lt each
    refine ⟨some a, len, m, (List.range (len * C)).map fun j => y (j / C) (j % C), hcs, hl, hm, by simp, fun z hz => ?_, fun hn => ?_⟩
    · simp only [List.mem_map, List.mem_range] at hz
      obtain ⟨j, hj, rfl⟩ := hz
      have hq : j / C < len := Nat.div_lt_of_lt_mul (by rw [Nat.mul_comm]; exact hj)
      exact (hy (j / C) (by omega)).1 (j % C) (Nat.mod_lt _ hC0)
    · have hlen : 0 < len := Nat.pos_of_ne_zero (fun e => by rw [e, Nat.zero_mul] at hn; omega)
      have h0 := (hy 0 (by omega)).2 0 hC0
      obtain ⟨b, off, spot⟩ := a
      have hspot : spot = none := by simpa [Addr.add] using World.cell?_spot h0
      subst hspot
      refine ⟨b, off, rfl, fun j z hz => ?_⟩
      by_cases hj : j < len * C
      · simp [hj] at hz
        subst hz
        have hq : j / C < len := Nat.div_lt_of_lt_mul (by rw [Nat.mul_comm]; exact hj)
        have := (hy (j / C) (by omega)).2 (j % C) (Nat.mod_lt _ hC0)
        rw [add_flat, add_flat] at this
        have e : off + j / C * C + j % C = off + j := by
          have := Nat.div_add_mod j C
          rw [Nat.mul_comm] at this
          omega
        rwa [e] at this
      · simp [hj] at hz
end
end Go.Proofs.Ytjbgjljcgdligaa
