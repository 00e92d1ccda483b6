
/-
  append([]int{}, x...): a copy of numbers in a block of its own.
-/
import Derived.Test.YtangfmmjpomlgaaDu
set_option linter.unusedSimpArgs false
set_option linter.unusedVariables false
namespace Go.Proofs.Ytangfmmjpomlgaa
open Go.RowKit

theorem wpList_copy {ops : Array Oper} {rest : List Oper} {o : Oper} {a : Act} {Q : Exit → Act → World → Prop} (w0 : World) (hgd : o.guard = none) (s x : Operand) (ho : o.op = .call { callee := .builtin .append, args := #[s, x], argTypes := #[23, 23] })
    (hs : a.eval s = .slice (some ⟨w0.heap.size, 0, none⟩) 0 0) {b off n c : Nat} {xs : List Int} (hx : a.eval x = .slice (some ⟨b, off, none⟩) n c) (hI : Ints w0 (some ⟨b, off, none⟩) n xs) (hn : n ≤ 1000)
    (h : ∀ g cg w', w0.heap.size ≤ g → OwnI w' g xs → (n ≤ cg ∧ cg ≤ maxLen) → Below w0.heap.size w0 w' → wpList Try.prog ops Q rest (a.put o.dst (.slice (some ⟨g, 0, none⟩) n cg)) w') :
    wpList Try.prog ops Q (o :: rest) a (w0.alloc (.cells #[] 3)) := by
  obtain ⟨i0, hi0, hz0, hz1, hz2⟩ := info_parts info_int
  have hl := hI.len
  have hI2 : Ints (w0.alloc (.cells #[] 3)) (some ⟨b, off, none⟩) n xs := hI.below ((Below.refl _ w0).alloc (Nat.le_refl _) _)
  refine wpList_append_own _ hgd s x 23 ho w0.heap.size 3 i0 (.int .i64 0) 1 8 Try.underlying23 hi0 hz0 hz1 hz2 rfl (by decide) (.slice (some ⟨w0.heap.size, 0, none⟩) 0 0) 0 [] hs (World.ownsRow_made (base := w0.heap.size) (e := 3) (size := 1) w0 #[] 0 (Nat.le_refl _) (Nat.zero_le _) rfl) ⟨b, off, none⟩ n c (xs.map (Value.int .i64)) hx ?c0 (news_at hI2) (one_ints xs) ?c3 ?c4 ?c5 ?_
  case c0 => rw [List.length_map, hl]; omega
  case c3 => unfold maxLen; omega
  case c4 => omega
  case c5 => simp
  intro v' w1 hown' hgrow hnil2
  have O1 : Grow w1 w0.heap.size 3 v' xs := by
    unfold Grow
    rw [hl]
    simpa using hown'
  have N1 : v' ≠ .slice none 0 0 := fun h => by have := (hnil2.1 h).1; simp at this
  have B1 : Below w0.heap.size w0 w1 := ((Below.refl w0.heap.size w0).alloc (Nat.le_refl _) _).grown hgrow (by simp) (fun j hj => by simp [Value.ownBlock] at hj; omega)
  obtain ⟨g, cg, rfl, hg1, og, lc, mc, _⟩ := Grow.block O1 N1 hI.2.1
  rw [hl] at lc ⊢
  exact h g cg w1 hg1 og ⟨lc, mc⟩ B1
end Go.Proofs.Ytangfmmjpomlgaa
