
/-
  Slices of rows of the call's own that grow by append.
-/
import Derived.Test.YtangfmmjpomlgaaM3
set_option linter.unusedSimpArgs false
set_option linter.unusedVariables false
namespace Go.Proofs.Ytangfmmjpomlgaa
open Go.RowKit

/-- A row's value that stays while only blocks below lo, and block x, turn. -/
def RowVx (w : World) (lo : Nat) (x : Option Nat) (A : Option Addr) (c : Nat) (r : PRow) : Prop :=
  ∀ w'' : World, w.heap.size ≤ w''.heap.size → (∀ j, lo ≤ j → j < w.heap.size → some j ≠ x → w''.heap[j]? = w.heap[j]?) → RowV w'' A c r
section
variable {w w' : World} {lo B k : Nat} {x x' : Option Nat} {A : Option Addr} {c : Nat} {r : PRow} {e : TypeId} {v v' : Value} {rs : List PRow}
theorem RowVx.now (h : RowVx w lo x A c r) : RowV w A c r := h w (Nat.le_refl _) fun _ _ _ _ => rfl
theorem RowVx.keep (h : RowVx w lo x A c r) (hs : w.heap.size ≤ w'.heap.size) (hk : ∀ j, lo ≤ j → j < w.heap.size → some j ≠ x → w'.heap[j]? = w.heap[j]?) (hx : x' = x ∨ ∀ j, x' = some j → w.heap.size ≤ j) : RowVx w' lo x' A c r := by
  intro w'' h1 h2
  refine h w'' (Nat.le_trans hs h1) fun j a b d => (h2 j a (Nat.lt_of_lt_of_le b hs) ?_).trans (hk j a b d)
  rcases hx with rfl | hx
  · exact d
  · intro e; have := hx j e.symm; omega
theorem RowVx.of_own {g c : Nat} (h : OwnI w g r.cs) (h0 : RowV w (some ⟨g, 0, none⟩) c r) (hg : lo ≤ g) (hx : some g ≠ x) : RowVx w lo x (some ⟨g, 0, none⟩) c r :=
  fun w'' h1 h2 => ⟨(h.keep h1 (h2 g hg h.1 hx)).ints_of h0.1, h0.2⟩
theorem Ints.keep {n : Nat} {xs : List Int} (h : Ints w A n xs) (hk : ∀ j, j < w.heap.size → w'.heap[j]? = w.heap[j]?) : Ints w' A n xs := by
  obtain ⟨hl, hr, hc⟩ := h
  refine ⟨hl, hr, fun hn => ?_⟩
  obtain ⟨b, off, e, hcell⟩ := hc hn
  exact ⟨b, off, e, fun i x hx => (World.cell?_of_block (w := w) (a := ⟨b, off + i, none⟩) (hk _ (blk_lt (hcell i x hx)))).trans (hcell i x hx)⟩
theorem RowVx.of_old (h : RowV w A c r) (hx : ∀ j, x = some j → w.heap.size ≤ j) : RowVx w 0 x A c r :=
  fun w'' h1 h2 => ⟨h.1.keep fun j hj => h2 j (Nat.zero_le _) hj (fun e => by have := hx j e.symm; omega), h.2⟩

/-- v is a slice of the call's own (from block B on) whose rows are rs; it stays while only blocks below lo turn. -/
def GrowR (w : World) (lo B : Nat) (e : TypeId) (v : Value) (rs : List PRow) : Prop :=
  lo ≤ B ∧ ∃ cs : List Value, w.ownsRow B e 3 v rs.length cs ∧ ∀ i r, rs[i]? = some r → ∃ (A : Option Addr) (c : Nat), RowVx w lo v.ownBlock A c r ∧
    cs[i * 3]? = some (.slice A r.cs.length c) ∧ cs[i * 3 + 1]? = some (.int .i64 r.s) ∧ cs[i * 3 + 2]? = some (.int .i64 r.b)
theorem GrowR.nil (w : World) (h : lo ≤ B) (e : TypeId) : GrowR w lo B e (.slice none 0 0) [] := ⟨h, [], World.ownsRow_nil _ _ _ _, fun i r h => by simp at h⟩
theorem GrowR.lit0 (w : World) (h : lo ≤ B) (hB : B ≤ w.heap.size) (e : TypeId) : GrowR (w.alloc (.cells #[] e)) lo B e (.slice (some ⟨w.heap.size, 0, none⟩) 0 0) [] :=
  ⟨h, [], World.ownsRow_made w #[] 0 hB (Nat.zero_le _) rfl, fun i r h => by simp at h⟩
theorem GrowR.shape (h : GrowR w lo B e v rs) : ∃ (A : Option Addr) (c : Nat), v = .slice A rs.length c ∧ rs.length ≤ c ∧ c ≤ maxLen := by
  obtain ⟨_, cs, h, _⟩ := h
  rcases h.2 with ⟨rfl, h0⟩ | ⟨g, cap, cur, rfl, _, _, hn, hm, _⟩
  · exact ⟨none, 0, by rw [h0], by omega, Nat.zero_le _⟩
  · exact ⟨_, _, rfl, hn, hm⟩
theorem GrowR.keep (h : GrowR w lo B e v rs) (hs : w.heap.size ≤ w'.heap.size) (hk : ∀ j, lo ≤ j → j < w.heap.size → w'.heap[j]? = w.heap[j]?) : GrowR w' lo B e v rs := by
  obtain ⟨h0, cs, h1, h2⟩ := h
  refine ⟨h0, cs, ⟨h1.1, ?_⟩, fun i r hr => ?_⟩
  · rcases h1.2 with h3 | ⟨g, cap, cur, rfl, hb, hh, hr⟩
    · exact .inl h3
    · have hlt : g < w.heap.size := by
        rcases Nat.lt_or_ge g w.heap.size with h1 | h1
        · exact h1
        · rw [Array.getElem?_eq_none h1] at hh; cases hh
      exact .inr ⟨g, cap, cur, rfl, hb, (hk g (by omega) hlt).trans hh, hr⟩
  · obtain ⟨A, c, h3, h4⟩ := h2 i r hr
    exact ⟨A, c, h3.keep hs (fun j a b _ => hk j a b) (.inl rfl), h4⟩
theorem GrowR.below (h : GrowR w lo B e v rs) (hb : Below w.heap.size w w') : GrowR w' lo B e v rs := h.keep hb.size fun j _ hj => hb.block j hj
theorem GrowR.belowD {W : World} (hb : Hid (Below W.heap.size W w')) (h : GrowR W lo B e v rs) : GrowR w' lo B e v rs := h.below hb
theorem GrowR.far (h : GrowR w lo B e v rs) {p : Addr} (hp : p.block < lo) (u : Value) : GrowR (w.setCell p u) lo B e v rs := h.keep (by simp [World.setCell]) fun j hj _ => Below.heap_setCell _ _ _ _ (by omega)
theorem GrowR.alloc (h : GrowR w lo B e v rs) (o : Obj) : GrowR (w.alloc o) lo B e v rs := h.below ((Below.refl _ _).alloc (Nat.le_refl _) _)
theorem GrowR.drewN (h : GrowR w lo B e v rs) (n : Nat) : GrowR (w.drewN n) lo B e v rs := h.keep (Nat.le_refl _) fun _ _ _ => rfl
theorem GrowR.drew (h : GrowR w lo B e v rs) : GrowR w.drew lo B e v rs := h.keep (Nat.le_refl _) fun _ _ _ => rfl
theorem GrowR.row (h : GrowR w lo B e v rs) : ∀ k, v.ownBlock = some k → B ≤ k ∧ k < w.heap.size := fun k hk => by
  obtain ⟨_, cs, h1, _⟩ := h
  exact World.ownsRow.lt h1 k hk
/-- The cells, for an append. -/
theorem GrowR.cells (h : GrowR w lo B e v rs) : ∃ cs : List Value, cs.length = rs.length * 3 ∧ w.ownsRow B e 3 v rs.length cs ∧ ∀ i r, rs[i]? = some r → ∃ (A : Option Addr) (c : Nat), RowVx w lo v.ownBlock A c r ∧
    cs[i * 3]? = some (.slice A r.cs.length c) ∧ cs[i * 3 + 1]? = some (.int .i64 r.s) ∧ cs[i * 3 + 2]? = some (.int .i64 r.b) := by
  obtain ⟨_, cs, h1, h2⟩ := h
  exact ⟨cs, h1.1, h1, h2⟩
/-- What an append of one row leaves. -/
theorem GrowR.snoc {cs : List Value} {A' : Option Addr} {c' : Nat} {r' : PRow} (hl : lo ≤ B) (hc : cs.length = rs.length * 3)
    (hv : ∀ i r, rs[i]? = some r → ∃ (A : Option Addr) (c : Nat), RowVx w lo v.ownBlock A c r ∧ cs[i * 3]? = some (.slice A r.cs.length c) ∧ cs[i * 3 + 1]? = some (.int .i64 r.s) ∧ cs[i * 3 + 2]? = some (.int .i64 r.b))
    (hg : w.grownBy w' v.ownBlock) (ho : v'.ownBlock = v.ownBlock ∨ v'.ownBlock = some w.heap.size) (hnew : RowVx w lo v.ownBlock A' c' r')
    (h : w'.ownsRow B e 3 v' (rs.length + 1) (cs ++ [.slice A' r'.cs.length c', .int .i64 r'.s, .int .i64 r'.b])) : GrowR w' lo B e v' (rs ++ [r']) := by
  have hx : v'.ownBlock = v.ownBlock ∨ ∀ j, v'.ownBlock = some j → w.heap.size ≤ j := ho.imp id fun h j hj => by rw [h] at hj; injection hj with hj; omega
  have K : ∀ {A c r}, RowVx w lo v.ownBlock A c r → RowVx w' lo v'.ownBlock A c r := fun k => k.keep hg.size (fun j _ b d => hg.block j b d) hx
  refine ⟨hl, _, by simpa using h, fun i r hr => ?_⟩
  by_cases hi : i < rs.length
  · rw [List.getElem?_append_left hi] at hr
    obtain ⟨A, c, h1, h2, h3, h4⟩ := hv i r hr
    exact ⟨A, c, K h1, by rw [List.getElem?_append_left (by omega)]; exact h2, by rw [List.getElem?_append_left (by omega)]; exact h3, by rw [List.getElem?_append_left (by omega)]; exact h4⟩
  · rw [List.getElem?_append_right (by omega)] at hr
    have hi0 : i - rs.length = 0 := by have := (List.getElem?_eq_some_iff.1 hr).1; simp at this; omega
    rw [hi0] at hr
    simp at hr
    subst hr
    refine ⟨A', c', K hnew, ?_, ?_, ?_⟩
    · rw [List.getElem?_append_right (by omega), show i * 3 - cs.length = 0 by omega]; rfl
    · rw [List.getElem?_append_right (by omega), show i * 3 + 1 - cs.length = 1 by omega]; rfl
    · rw [List.getElem?_append_right (by omega), show i * 3 + 2 - cs.length = 2 by omega]; rfl
theorem GrowR.rows (h : GrowR w lo B e v rs) : ∃ (A : Option Addr) (c : Nat), v = .slice A rs.length c ∧ rs.length ≤ c ∧ c ≤ maxLen ∧ RowS w A rs.length rs := by
  obtain ⟨_, cs, h1, h2⟩ := h
  rcases h1.2 with ⟨rfl, h0⟩ | ⟨g, cap, cur, rfl, hb, hh, hn, hm, hcs, hxs⟩
  · have : rs = [] := List.eq_nil_of_length_eq_zero h0
    subst this
    exact ⟨none, 0, rfl, by simp, Nat.zero_le _, RowS.nil _ _⟩
  · refine ⟨_, _, rfl, hn, hm, rfl, fun _ => ⟨g, 0, rfl, fun i r hr => ?_⟩⟩
    obtain ⟨A, c, h3, h4, h5, h6⟩ := h2 i r hr
    have hi : i < rs.length := (List.getElem?_eq_some_iff.1 hr).1
    refine ⟨A, c, h3.now, ?_, ?_, ?_⟩
    · rw [Nat.zero_add, World.ownsRow.cellAt h1 _ (by omega)]; exact h4
    · rw [Nat.zero_add, World.ownsRow.cellAt h1 _ (by omega)]; exact h5
    · rw [Nat.zero_add, World.ownsRow.cellAt h1 _ (by omega)]; exact h6
end
end Go.Proofs.Ytangfmmjpomlgaa
