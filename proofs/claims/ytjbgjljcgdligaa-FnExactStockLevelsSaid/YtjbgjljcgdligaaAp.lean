
/-
  Copies of lists of numbers: the model's and the library's Clone.
-/
import Derived.Test.YtjbgjljcgdligaaVi
import Derived.WalkSpells
import Derived.Lib.LazyBuf
set_option linter.unusedSimpArgs false
set_option linter.unusedVariables false
namespace Go.Proofs.Ytjbgjljcgdligaa
open Go.RowKit

theorem news_at {w : World} {b off n : Nat} {xs : List Int} (h : Ints w (some ⟨b, off, none⟩) n xs) : ∀ j u, (xs.map (Value.int .i64))[j]? = some u → w.cell? ((⟨b, off, none⟩ : Addr).add j) = some u := by
  intro j u hu
  rw [List.getElem?_map] at hu
  obtain ⟨x, hx, rfl⟩ := Option.map_eq_some_iff.1 hu
  have hj : j < n := by have := (List.getElem?_eq_some_iff.1 hx).1; have := h.1; omega
  obtain ⟨b', off', x', e, _, hx', _, _, hc⟩ := h.at_ hj
  injection e with e
  injection e with e1 e2
  subst e1 e2
  rw [hx] at hx'
  injection hx' with hx'
  subst hx'
  have ha : (⟨b, off, none⟩ : Addr).add j = ⟨b, off + j, none⟩ := by
    rcases Nat.eq_zero_or_pos j with rfl | h
    · simp [Addr.add]
    · simp [Addr.add]; omega
  rw [ha]; exact hc
theorem one_ints (xs : List Int) : ∀ u ∈ xs.map (Value.int .i64), u.oneCell' = true := by
  intro u hu
  obtain ⟨x, _, rfl⟩ := List.mem_map.1 hu
  rfl
theorem SliceEnd.of_append {L : List Int} {w w0 w' : World} {e : TypeId} {v : Value} {B n : Nat} (h : w'.ownsRow B e 1 v (0 + n) ([] ++ L.map (Value.int .i64))) (hn : L.length = n) (hB : w.heap.size ≤ B) (hr : ∀ x ∈ L, I64 x) (hl : L.length ≤ 1048576) (hb : Below w.heap.size w w') : SliceEnd L w (.returned v) w' := by
  refine SliceEnd.grow (B := B) (e := e) ?_ hB hr hl hb
  unfold Grow
  subst hn
  simpa using h

end Go.Proofs.Ytjbgjljcgdligaa
