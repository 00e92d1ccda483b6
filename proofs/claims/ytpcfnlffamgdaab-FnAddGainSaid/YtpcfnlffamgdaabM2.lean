
/-
  Words for memory, more: rows of the call's own that grow by append, as lists of numbers.
-/
import Derived.Test.YtpcfnlffamgdaabM
set_option linter.unusedSimpArgs false
set_option linter.unusedVariables false
namespace Go.Proofs.Ytpcfnlffamgdaab
open Go.RowKit

/-- v is a slice of the call's own (from block B on) whose numbers are xs. -/
def Grow (w : World) (B : Nat) (e : TypeId) (v : Value) (xs : List Int) : Prop := w.ownsRow B e 1 v xs.length (xs.map (Value.int .i64))
section
variable {w w' : World} {B : Nat} {e : TypeId} {v : Value} {xs : List Int}
theorem Grow.nil (w : World) (B : Nat) (e : TypeId) : Grow w B e (.slice none 0 0) [] := World.ownsRow_nil _ _ _ _
theorem Grow.lit0 (w : World) (hB : B ≤ w.heap.size) (e : TypeId) : Grow (w.alloc (.cells #[] e)) B e (.slice (some ⟨w.heap.size, 0, none⟩) 0 0) [] :=
  World.ownsRow_made w #[] 0 hB (Nat.zero_le _) rfl
theorem Grow.shape (h : Grow w B e v xs) : ∃ (A : Option Addr) (c : Nat), v = .slice A xs.length c ∧ xs.length ≤ c ∧ c ≤ maxLen := by
  rcases h.2 with ⟨rfl, h0⟩ | ⟨g, cap, cur, rfl, _, _, hn, hm, _⟩
  · exact ⟨none, 0, by rw [h0], by omega, Nat.zero_le _⟩
  · exact ⟨_, _, rfl, hn, hm⟩
theorem Grow.keep (h : Grow w B e v xs) (hs : w.heap.size ≤ w'.heap.size) (hk : ∀ j, B ≤ j → j < w.heap.size → w'.heap[j]? = w.heap[j]?) : Grow w' B e v xs := by
  refine ⟨h.1, ?_⟩
  rcases h.2 with h0 | ⟨g, cap, cur, rfl, hb, hh, hr⟩
  · exact .inl h0
  · have hlt : g < w.heap.size := by
      rcases Nat.lt_or_ge g w.heap.size with h1 | h1
      · exact h1
      · rw [Array.getElem?_eq_none h1] at hh; cases hh
    exact .inr ⟨g, cap, cur, rfl, hb, (hk g hb hlt).trans hh, hr⟩
theorem Grow.below (h : Grow w B e v xs) (hb : Below w.heap.size w w') : Grow w' B e v xs := h.keep hb.size fun j _ hj => hb.block j hj
theorem Grow.far (h : Grow w B e v xs) {p : Addr} (hp : p.block < B) (u : Value) : Grow (w.setCell p u) B e v xs := h.keep (by simp [World.setCell]) fun j hj _ => Below.heap_setCell _ _ _ _ (by omega)
theorem Grow.alloc (h : Grow w B e v xs) (o : Obj) : Grow (w.alloc o) B e v xs := h.below ((Below.refl _ _).alloc (Nat.le_refl _) _)
theorem Grow.drewN (h : Grow w B e v xs) (n : Nat) : Grow (w.drewN n) B e v xs := h.keep (Nat.le_refl _) fun _ _ _ => rfl
theorem Grow.drew (h : Grow w B e v xs) : Grow w.drew B e v xs := h.keep (Nat.le_refl _) fun _ _ _ => rfl
theorem Grow.belowD {W : World} (hb : Hid (Below W.heap.size W w')) (h : Grow W B e v xs) : Grow w' B e v xs := h.below hb
theorem Grow.own (h : Grow w B e v xs) : w.ownsRow B e 1 v xs.length (xs.map (Value.int .i64)) := h
theorem Grow.mono {B' : Nat} (h : Grow w B e v xs) (hB : B' ≤ B) : Grow w B' e v xs := by
  refine ⟨h.1, ?_⟩
  rcases h.2 with h0 | ⟨g, cap, cur, rfl, hb, hr⟩
  · exact .inl h0
  · exact .inr ⟨g, cap, cur, rfl, by omega, hr⟩
theorem Grow.row (h : Grow w B e v xs) : ∀ k, v.ownBlock = some k → B ≤ k := fun k hk => (World.ownsRow.lt h k hk).1
theorem Box.grown {b : Nat} {cs : Array Value} {row : Option Nat} (h : Box w b cs) (hg : w.grownBy w' row) (hne : ∀ k, row = some k → b < k) : Box w' b cs :=
  h.keep hg.size (hg.block b h.1 (fun e => by have := hne b e.symm; omega))
theorem Box.frz {b : Nat} {cs : Array Value} (h : Box w b cs) (i : Nat) (hi : i < cs.size) : w.frozen? ⟨b, i, none⟩ = false := (h.2 i cs[i] (Array.getElem?_eq_getElem hi)).2
theorem Box.mk4 {b : Nat} {x y z u : Value} (h : b < w.heap.size) (c0 : w.cell? ⟨b, 0, none⟩ = some x) (c1 : w.cell? ⟨b, 1, none⟩ = some y) (c2 : w.cell? ⟨b, 2, none⟩ = some z) (c3 : w.cell? ⟨b, 3, none⟩ = some u)
    (f0 : w.frozen? ⟨b, 0, none⟩ = false) (f1 : w.frozen? ⟨b, 1, none⟩ = false) (f2 : w.frozen? ⟨b, 2, none⟩ = false) (f3 : w.frozen? ⟨b, 3, none⟩ = false) : Box w b #[x, y, z, u] := by
  refine ⟨h, fun i v hv => ?_⟩
  have hi : i < 4 := by have := (Array.getElem?_eq_some_iff.1 hv).1; simpa using this
  rcases (by omega : i = 0 ∨ i = 1 ∨ i = 2 ∨ i = 3) with rfl | rfl | rfl | rfl <;> simp at hv <;> subst hv
  · exact ⟨c0, f0⟩
  · exact ⟨c1, f1⟩
  · exact ⟨c2, f2⟩
  · exact ⟨c3, f3⟩
theorem Box.put {b i : Nat} {cs : Array Value} (h : Box w b cs) (hi : i < cs.size) (u : Value) : Box (w.setCell ⟨b, i, none⟩ u) b (cs.set i u hi) := by
  refine ⟨by simpa [World.setCell] using h.1, fun j x hx => ?_⟩
  rw [World.frozen?_setCell]
  rw [Array.getElem?_set] at hx
  by_cases e : i = j
  · subst e
    rw [if_pos rfl] at hx
    injection hx with hx
    subst hx
    have h0 := h.2 i cs[i] (Array.getElem?_eq_getElem hi)
    exact ⟨World.cell?_setCell_same _ _ _ h0.1, h0.2⟩
  · rw [if_neg e] at hx
    exact ⟨(World.cell?_setCell_other _ _ _ _ (by intro h; injection h with _ h2; omega)).trans (h.2 j x hx).1, (h.2 j x hx).2⟩
theorem Box.put3_0 {b : Nat} {x y z u : Value} (h : Box w b #[x, y, z]) : Box (w.setCell ⟨b, 0, none⟩ u) b #[u, y, z] := h.put (i := 0) (by simp) u
theorem Box.put3_1 {b : Nat} {x y z u : Value} (h : Box w b #[x, y, z]) : Box (w.setCell ⟨b, 1, none⟩ u) b #[x, u, z] := h.put (i := 1) (by simp) u
theorem Box.put3_2 {b : Nat} {x y z u : Value} (h : Box w b #[x, y, z]) : Box (w.setCell ⟨b, 2, none⟩ u) b #[x, y, u] := h.put (i := 2) (by simp) u
theorem Box.put2_0 {b : Nat} {x y u : Value} (h : Box w b #[x, y]) : Box (w.setCell ⟨b, 0, none⟩ u) b #[u, y] := h.put (i := 0) (by simp) u
theorem Box.put2_1 {b : Nat} {x y u : Value} (h : Box w b #[x, y]) : Box (w.setCell ⟨b, 1, none⟩ u) b #[x, u] := h.put (i := 1) (by simp) u
/-- What an append of one number leaves. -/
theorem Grow.snoc {x : Int} (h : w.ownsRow B e 1 v (xs.length + 1) (xs.map (Value.int .i64) ++ [.int .i64 x])) : Grow w B e v (xs ++ [x]) := by
  unfold Grow
  simpa using h
theorem Grow.ints (h : Grow w B e v xs) (hr : ∀ x ∈ xs, I64 x) : ∃ (A : Option Addr) (c : Nat), v = .slice A xs.length c ∧ xs.length ≤ c ∧ c ≤ maxLen ∧ Ints w A xs.length xs ∧ (xs = [] ∨ ∃ g, A = some ⟨g, 0, none⟩ ∧ B ≤ g ∧ OwnI w g xs) := by
  rcases h.2 with ⟨rfl, h0⟩ | ⟨g, cap, cur, rfl, hb, hh, hn, hm, hcs, hxs⟩
  · have : xs = [] := List.eq_nil_of_length_eq_zero h0
    subst this
    exact ⟨none, 0, rfl, by simp, Nat.zero_le _, Ints.nil _ _, .inl rfl⟩
  · have hlt : g < w.heap.size := by
      rcases Nat.lt_or_ge g w.heap.size with h1 | h1
      · exact h1
      · rw [Array.getElem?_eq_none h1] at hh; cases hh
    have hc : ∀ i x, xs[i]? = some x → w.cell? ⟨g, i, none⟩ = some (.int .i64 x) := fun i x hx => by
      have hi : i < xs.length := (List.getElem?_eq_some_iff.1 hx).1
      rw [World.ownsRow.cellAt h i (by omega)]
      simp [hx]
    refine ⟨_, _, rfl, hn, hm, ⟨rfl, hr, fun _ => ⟨g, 0, rfl, fun i x hx => by rw [Nat.zero_add]; exact hc i x hx⟩⟩, .inr ⟨g, rfl, hb, hlt, fun i x hx => ⟨hc i x hx, World.ownsRow.frozenAt h i⟩⟩⟩
end

/-- The indices below k at which p holds. -/
def idxs (p : Nat → Bool) (k : Nat) : List Int := ((List.range k).filter p).map (fun i : Nat => (i : Int))
theorem idxs_succ {p : Nat → Bool} {k : Nat} : idxs p (k + 1) = if p k then idxs p k ++ [(k : Int)] else idxs p k := by
  unfold idxs
  rw [List.range_succ, List.filter_append]
  by_cases h : p k <;> simp [h]
theorem idxs_yes {p : Nat → Bool} {k : Nat} (h : p k = true) : idxs p (k + 1) = idxs p k ++ [(k : Int)] := by rw [idxs_succ, if_pos h]
theorem idxs_no {p : Nat → Bool} {k : Nat} (h : p k = false) : idxs p (k + 1) = idxs p k := by rw [idxs_succ, if_neg (by simp [h])]
theorem idxs_len (p : Nat → Bool) (k : Nat) : (idxs p k).length ≤ k := by
  unfold idxs
  rw [List.length_map]
  have := List.length_filter_le p (List.range k)
  simpa using this
theorem idxs_mem {p : Nat → Bool} {k : Nat} : ∀ x ∈ idxs p k, 0 ≤ x ∧ x < k := by
  intro x hx
  simp only [idxs, List.mem_map, List.mem_filter, List.mem_range] at hx
  obtain ⟨a, ⟨h1, _⟩, rfl⟩ := hx
  omega
theorem idxs_empty {p : Nat → Bool} {k : Nat} : idxs p k = [] ↔ ∀ i, i < k → p i = false := by
  unfold idxs
  simp
end Go.Proofs.Ytpcfnlffamgdaab
