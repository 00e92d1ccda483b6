
/-
  The reader of the given laws beside the words for memory: what its calls leave of the call's own blocks.
-/
import Derived.Test.YtpcfnlffamgdaabRdr
import Derived.Test.YtpcfnlffamgdaabNi
set_option linter.unusedSimpArgs false
set_option linter.unusedVariables false
namespace Go.Proofs.Ytpcfnlffamgdaab
open Go.RowKit

/-- The same, under another name: what holds since the call began. -/
def OnlyA (rb : Nat) (w w' : World) : Prop := Only rb w w'
theorem OnlyA.out {rb : Nat} {w w' : World} (h : OnlyA rb w w') : Only rb w w' := h
section
variable {rb P B b g lo hi : Nat} {w w' a : World} {cs : Array Value} {xs : List Int} {A : Option Addr} {e : TypeId} {v : Value}
theorem Only.grown {row : Option Nat} (h : Only rb a w) (hg : w.grownBy w' row) (hne : ∀ k, row = some k → a.heap.size ≤ k) : Only rb a w' :=
  ⟨hg.os.trans h.os, hg.tape.trans h.tape, hg.output.trans h.output, Nat.le_trans h.size hg.size, fun k hk hn => by
    refine (hg.block k (Nat.lt_of_lt_of_le hk h.size) ?_).trans (h.block k hk hn)
    intro e
    have := hne k e.symm
    omega⟩
theorem Rd.grown {row : Option Nat} (h : Rd B w rb P) (hg : w.grownBy w' row) (hne : ∀ k, row = some k → B ≤ k ∧ k ≠ rb) : Rd B w' rb P :=
  h.keep hg.size (hg.block rb h.2.1 (fun e => (hne rb e.symm).2 rfl)) fun k hk => hg.block k (by have := h.1; have := h.2.1; omega) (fun e => by have := (hne k e.symm).1; omega)
theorem Only.drew (h : Only rb a w) : Only rb a w.drew := ⟨h.os, h.tape, h.output, h.size, h.block⟩
theorem Rd.drew (h : Rd B w rb P) : Rd B w.drew rb P := h.keep (Nat.le_refl _) rfl (fun _ _ => rfl)
theorem Box.only (k : Hid (Only rb w w')) (hn : b ≠ rb) (h : Box w b cs) : Box w' b cs := h.keep k.out.size (k.out.block _ h.1 hn)
theorem OwnI.only (k : Hid (Only rb w w')) (hn : g ≠ rb) (h : OwnI w g xs) : OwnI w' g xs := h.keep k.out.size (k.out.block _ h.1 hn)
theorem OwnS.only (k : Hid (Only rb w w')) (hn : rb < lo) (h : OwnS w lo hi A xs) : OwnS w' lo hi A xs := h.keepI fun g h1 h2 o => OwnI.only k (by omega) o
theorem Grow.only (k : Hid (Only rb w w')) (hn : rb < B) (h : Grow w B e v xs) : Grow w' B e v xs := h.keep k.out.size fun j h1 h2 => k.out.block j h2 (by omega)
theorem Only.thenD {w1 w2 : World} (hb : Hid (Only rb w1 w2)) (h : Only rb a w1) : Only rb a w2 := h.trans hb.out
theorem Only.belowD {w1 w2 : World} (hb : Hid (Below w1.heap.size w1 w2)) (h : Only rb a w1) : Only rb a w2 := h.trans (Only.of_below hb.out)
theorem lit_cells {w : World} {l : List Int} {t : TypeId} : ∀ i, i < l.length → (w.alloc (.cells (l.map (Value.int .i64)).toArray t)).cell? ⟨w.heap.size, i, none⟩ = some (.int .i64 (l.getD i 0)) := by
  intro i hi
  simp [World.cell?_alloc_new, hi]
theorem Grow.block {xs : List Int} (h : Grow w B e v xs) (hn : v ≠ .slice none 0 0) (hr : ∀ x ∈ xs, I64 x) : ∃ g c : Nat, v = .slice (some ⟨g, 0, none⟩) xs.length c ∧ B ≤ g ∧ OwnI w g xs ∧ xs.length ≤ c ∧ c ≤ maxLen ∧ Ints w (some ⟨g, 0, none⟩) xs.length xs := by
  rcases h.2 with ⟨rfl, h0⟩ | ⟨g, cap, cur, rfl, hb, hh, hn', hm, hcs, hxs⟩
  · exact absurd rfl hn
  · have hlt : g < w.heap.size := by
      rcases Nat.lt_or_ge g w.heap.size with h1 | h1
      · exact h1
      · rw [Array.getElem?_eq_none h1] at hh; cases hh
    have hc : ∀ i x, xs[i]? = some x → w.cell? ⟨g, i, none⟩ = some (.int .i64 x) := fun i x hx => by
      have hi : i < xs.length := (List.getElem?_eq_some_iff.1 hx).1
      rw [World.ownsRow.cellAt h i (by omega)]
      simp [hx]
    exact ⟨g, cap, rfl, hb, ⟨hlt, fun i x hx => ⟨hc i x hx, World.ownsRow.frozenAt h i⟩⟩, hn', hm, rfl, hr, fun _ => ⟨g, 0, rfl, fun i x hx => by rw [Nat.zero_add]; exact hc i x hx⟩⟩
theorem Grow.lit0_at (w : World) (hg : g = w.heap.size) (hB : B ≤ w.heap.size) (e : TypeId) : Grow (w.alloc (.cells #[] e)) B e (.slice (some ⟨g, 0, none⟩) 0 0) [] := by subst hg; exact Grow.lit0 w hB e
theorem Box.grownH {row : Option Nat} (h : Box w b cs) (hg : w.grownBy w' row) (hne : ∀ k, row = some k → b < k) : Box w' b cs := h.grown hg hne
end
end Go.Proofs.Ytpcfnlffamgdaab
