
/-
  Slices of rows of the call's own that grow by append, while one block more turns.
-/
import Derived.Test.YtangfmmjpomlgaaDy
set_option linter.unusedSimpArgs false
set_option linter.unusedVariables false
namespace Go.Proofs.Ytangfmmjpomlgaa
open Go.RowKit

/-- A row's value that stays while only blocks below lo, block Y and block x turn. -/
def RowVy (w : World) (lo Y : Nat) (x : Option Nat) (A : Option Addr) (c : Nat) (r : PRow) : Prop :=
  ∀ w'' : World, w.heap.size ≤ w''.heap.size → (∀ j, lo ≤ j → j < w.heap.size → j ≠ Y → some j ≠ x → w''.heap[j]? = w.heap[j]?) → RowV w'' A c r
/-- v is a slice of the call's own (from block B on) whose rows are rs; it stays while only blocks below lo, and block Y, turn. -/
def GrowRY (w : World) (lo Y B : Nat) (e : TypeId) (v : Value) (rs : List PRow) : Prop :=
  lo ≤ B ∧ ∃ cs : List Value, w.ownsRow B e 3 v rs.length cs ∧ (∀ k, v.ownBlock = some k → k ≠ Y) ∧ ∀ i r, rs[i]? = some r → ∃ (A : Option Addr) (c : Nat), RowVy w lo Y v.ownBlock A c r ∧
    cs[i * 3]? = some (.slice A r.cs.length c) ∧ cs[i * 3 + 1]? = some (.int .i64 r.s) ∧ cs[i * 3 + 2]? = some (.int .i64 r.b)
section
variable {w w' w0 : World} {lo Y B k g rb : Nat} {x x' : Option Nat} {A : Option Addr} {c : Nat} {r : PRow} {e : TypeId} {v v' : Value} {rs : List PRow}
theorem RowVy.now (h : RowVy w lo Y x A c r) : RowV w A c r := h w (Nat.le_refl _) fun _ _ _ _ _ => rfl
theorem RowVy.keep (h : RowVy w lo Y x A c r) (hs : w.heap.size ≤ w'.heap.size) (hk : ∀ j, lo ≤ j → j < w.heap.size → j ≠ Y → some j ≠ x → w'.heap[j]? = w.heap[j]?) (hx : x' = x ∨ ∀ j, x' = some j → w.heap.size ≤ j) : RowVy w' lo Y x' A c r := by
  intro w'' h1 h2
  refine h w'' (Nat.le_trans hs h1) fun j a b y d => (h2 j a (Nat.lt_of_lt_of_le b hs) y ?_).trans (hk j a b y d)
  rcases hx with rfl | hx
  · exact d
  · intro e; have := hx j e.symm; omega
theorem RowVy.of_own {g c : Nat} (h : OwnI w g r.cs) (h0 : RowV w (some ⟨g, 0, none⟩) c r) (hg : lo ≤ g) (hy : g ≠ Y) (hx : some g ≠ x) : RowVy w lo Y x (some ⟨g, 0, none⟩) c r :=
  fun w'' h1 h2 => ⟨(h.keep h1 (h2 g hg h.1 hy hx)).ints_of h0.1, h0.2⟩
theorem RowVy.of_older (h : RowV w0 A c r) (hb : Below w0.heap.size w0 w) (hy : w0.heap.size ≤ Y) (hx : ∀ j, x = some j → w0.heap.size ≤ j) : RowVy w 0 Y x A c r :=
  fun w'' h1 h2 => ⟨h.1.keep fun j hj => (h2 j (Nat.zero_le _) (Nat.lt_of_lt_of_le hj hb.size) (by omega) (fun e => by have := hx j e.symm; omega)).trans (hb.block j hj), h.2⟩
theorem GrowRY.lit0_at (w : World) (hg : g = w.heap.size) (h : lo ≤ B) (hB : B ≤ w.heap.size) (hY : Y < w.heap.size) (e : TypeId) : GrowRY (w.alloc (.cells #[] e)) lo Y B e (.slice (some ⟨g, 0, none⟩) 0 0) [] := by
  subst hg
  exact ⟨h, [], World.ownsRow_made w #[] 0 hB (Nat.zero_le _) rfl, fun k hk => by simp [Value.ownBlock] at hk; omega, fun i r h => by simp at h⟩
theorem GrowRY.keep (h : GrowRY w lo Y B e v rs) (hs : w.heap.size ≤ w'.heap.size) (hk : ∀ j, lo ≤ j → j < w.heap.size → j ≠ Y → w'.heap[j]? = w.heap[j]?) : GrowRY w' lo Y B e v rs := by
  obtain ⟨h0, cs, h1, hy, h2⟩ := h
  refine ⟨h0, cs, ⟨h1.1, ?_⟩, hy, fun i r hr => ?_⟩
  · rcases h1.2 with h3 | ⟨g, cap, cur, rfl, hb, hh, hr⟩
    · exact .inl h3
    · have hlt : g < w.heap.size := by
        rcases Nat.lt_or_ge g w.heap.size with h1 | h1
        · exact h1
        · rw [Array.getElem?_eq_none h1] at hh; cases hh
      exact .inr ⟨g, cap, cur, rfl, hb, (hk g (by omega) hlt (hy g rfl)).trans hh, hr⟩
  · obtain ⟨A, c, h3, h4⟩ := h2 i r hr
    exact ⟨A, c, h3.keep hs (fun j a b y _ => hk j a b y) (.inl rfl), h4⟩
theorem GrowRY.setY (h : GrowRY w lo Y B e v rs) (o : Nat) (u : Value) : GrowRY (w.setCell ⟨Y, o, none⟩ u) lo Y B e v rs := h.keep (by simp [World.setCell]) fun j _ _ hy => Below.heap_setCell _ _ _ _ (by simp; omega)
theorem GrowRY.below (h : GrowRY w lo Y B e v rs) (hb : Below w.heap.size w w') : GrowRY w' lo Y B e v rs := h.keep hb.size fun j _ hj _ => hb.block j hj
theorem GrowRY.alloc (h : GrowRY w lo Y B e v rs) (o : Obj) : GrowRY (w.alloc o) lo Y B e v rs := h.below ((Below.refl _ _).alloc (Nat.le_refl _) _)
theorem GrowRY.only (k : Hid (Only rb w w')) (hn : rb < lo) (h : GrowRY w lo Y B e v rs) : GrowRY w' lo Y B e v rs := h.keep k.out.size fun j h1 h2 _ => k.out.block j h2 (by omega)
theorem GrowRY.row (h : GrowRY w lo Y B e v rs) : ∀ k, v.ownBlock = some k → B ≤ k ∧ k < w.heap.size := fun k hk => by
  obtain ⟨_, cs, h1, _⟩ := h
  exact World.ownsRow.lt h1 k hk
theorem GrowRY.cells (h : GrowRY w lo Y B e v rs) : ∃ cs : List Value, cs.length = rs.length * 3 ∧ w.ownsRow B e 3 v rs.length cs ∧ (∀ k, v.ownBlock = some k → k ≠ Y) ∧ ∀ i r, rs[i]? = some r → ∃ (A : Option Addr) (c : Nat), RowVy w lo Y v.ownBlock A c r ∧
    cs[i * 3]? = some (.slice A r.cs.length c) ∧ cs[i * 3 + 1]? = some (.int .i64 r.s) ∧ cs[i * 3 + 2]? = some (.int .i64 r.b) := by
  obtain ⟨_, cs, h1, hy, h2⟩ := h
  exact ⟨cs, h1.1, h1, hy, h2⟩
theorem GrowRY.snoc {cs : List Value} {A' : Option Addr} {c' : Nat} {r' : PRow} (hl : lo ≤ B) (hc : cs.length = rs.length * 3) (hy : ∀ k, v.ownBlock = some k → k ≠ Y) (hYs : Y < w.heap.size)
    (hv : ∀ i r, rs[i]? = some r → ∃ (A : Option Addr) (c : Nat), RowVy w lo Y v.ownBlock A c r ∧ cs[i * 3]? = some (.slice A r.cs.length c) ∧ cs[i * 3 + 1]? = some (.int .i64 r.s) ∧ cs[i * 3 + 2]? = some (.int .i64 r.b))
    (hg : w.grownBy w' v.ownBlock) (ho : v'.ownBlock = v.ownBlock ∨ v'.ownBlock = some w.heap.size) (hnew : RowVy w lo Y v.ownBlock A' c' r')
    (h : w'.ownsRow B e 3 v' (rs.length + 1) (cs ++ [.slice A' r'.cs.length c', .int .i64 r'.s, .int .i64 r'.b])) : GrowRY w' lo Y B e v' (rs ++ [r']) := by
  have hx : v'.ownBlock = v.ownBlock ∨ ∀ j, v'.ownBlock = some j → w.heap.size ≤ j := ho.imp id fun h j hj => by rw [h] at hj; injection hj with hj; omega
  have K : ∀ {A c r}, RowVy w lo Y v.ownBlock A c r → RowVy w' lo Y v'.ownBlock A c r := fun k => k.keep hg.size (fun j _ b _ d => hg.block j b d) hx
  refine ⟨hl, _, by simpa using h, ?_, fun i r hr => ?_⟩
  · intro k hk
    rcases ho with h | h
    · exact hy k (by rw [← h]; exact hk)
    · rw [h] at hk; injection hk with hk; omega
  by_cases hi : i < rs.length
  · rw [List.getElem?_append_left hi] at hr
    obtain ⟨A, c, h1, h2, h3, h4⟩ := hv i r hr
    exact ⟨A, c, K h1, by rw [List.getElem?_append_left (by omega)]; exact h2, by rw [List.getElem?_append_left (by omega)]; exact h3, by rw [List.getElem?_append_left (by omega)]; exact h4⟩
  · rw [List.getElem?_append_right (by omega)] at hr
    have hi0 : i - rs.length = 0 := by have := (List.getElem?_eq_some_iff.1 hr).1; simp at this; omega
    rw [hi0] at hr
    simp at hr
    subst hr
    refine ⟨A', c', K hnew, ?_, ?_, ?_⟩
    · rw [List.getElem?_append_right (by omega), show i * 3 - cs.length = 0 by omega]; rfl
    · rw [List.getElem?_append_right (by omega), show i * 3 + 1 - cs.length = 1 by omega]; rfl
    · rw [List.getElem?_append_right (by omega), show i * 3 + 2 - cs.length = 2 by omega]; rfl
theorem GrowRY.rows (h : GrowRY w lo Y B e v rs) : ∃ (A : Option Addr) (c : Nat), v = .slice A rs.length c ∧ rs.length ≤ c ∧ c ≤ maxLen ∧ RowS w A rs.length rs := by
  obtain ⟨_, cs, h1, _, h2⟩ := h
  rcases h1.2 with ⟨rfl, h0⟩ | ⟨g, cap, cur, rfl, hb, hh, hn, hm, hcs, hxs⟩
  · have : rs = [] := List.eq_nil_of_length_eq_zero h0
    subst this
    exact ⟨none, 0, rfl, by simp, Nat.zero_le _, RowS.nil _ _⟩
  · refine ⟨_, _, rfl, hn, hm, rfl, fun _ => ⟨g, 0, rfl, fun i r hr => ?_⟩⟩
    obtain ⟨A, c, h3, h4, h5, h6⟩ := h2 i r hr
    have hi : i < rs.length := (List.getElem?_eq_some_iff.1 hr).1
    refine ⟨A, c, h3.now, ?_, ?_, ?_⟩
    · rw [Nat.zero_add, World.ownsRow.cellAt h1 _ (by omega)]; exact h4
    · rw [Nat.zero_add, World.ownsRow.cellAt h1 _ (by omega)]; exact h5
    · rw [Nat.zero_add, World.ownsRow.cellAt h1 _ (by omega)]; exact h6
/-- A slice of rows made before block Y was. -/
theorem GrowR.toY (h : GrowR w0 lo B e v rs) (hs : w0.heap.size ≤ w.heap.size) (hY : w0.heap.size ≤ Y) (hk : ∀ j, lo ≤ j → j < w0.heap.size → w.heap[j]? = w0.heap[j]?) : GrowRY w lo Y B e v rs := by
  obtain ⟨h0, cs, h1, h2⟩ := h.keep hs hk
  have hr := (h.keep hs hk).row
  have hr0 := h.row
  obtain ⟨_, cs0, g1, g2⟩ := h
  refine ⟨h0, cs0, ?_, fun k hk => by have := hr0 k hk; omega, fun i r hi => ?_⟩
  · refine ⟨g1.1, ?_⟩
    rcases g1.2 with h3 | ⟨g, cap, cur, rfl, hb, hh, hrr⟩
    · exact .inl h3
    · exact .inr ⟨g, cap, cur, rfl, hb, (hk g (by omega) (hr0 g rfl).2).trans hh, hrr⟩
  · obtain ⟨A, c, h3, h4⟩ := g2 i r hi
    refine ⟨A, c, fun w'' a1 a2 => h3 w'' (Nat.le_trans hs a1) fun j b1 b2 b3 => (a2 j b1 (Nat.lt_of_lt_of_le b2 hs) (by omega) b3).trans (hk j b1 b2), h4⟩
end
end Go.Proofs.Ytangfmmjpomlgaa
