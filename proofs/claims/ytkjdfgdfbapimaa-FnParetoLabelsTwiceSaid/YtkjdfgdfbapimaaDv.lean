
/-
  Spoilt lists of numbers out of the reader; the draws of the laws on rows, more.
-/
import Derived.Test.YtkjdfgdfbapimaaDu
set_option linter.unusedSimpArgs false
set_option linter.unusedVariables false
namespace Go.Proofs.Ytkjdfgdfbapimaa
open Go.RowKit

/-- A slice of numbers in a block from lo on, if there are any. -/
def IntsF (w : World) (lo : Nat) (A : Option Addr) (n : Nat) (xs : List Int) : Prop := Ints w A n xs ∧ (0 < n → ∃ g off : Nat, A = some ⟨g, off, none⟩ ∧ lo ≤ g)
section
variable {w w' : World} {lo n rb : Nat} {A : Option Addr} {xs : List Int}
theorem IntsF.out (h : IntsF w lo A n xs) : Ints w A n xs := h.1
theorem IntsF.keepF (h : IntsF w lo A n xs) (hk : ∀ j, lo ≤ j → j < w.heap.size → w'.heap[j]? = w.heap[j]?) : IntsF w' lo A n xs := by
  obtain ⟨⟨hl, hr, hc⟩, h2⟩ := h
  refine ⟨⟨hl, hr, fun hn => ?_⟩, h2⟩
  obtain ⟨b, off, e, hcell⟩ := hc hn
  obtain ⟨g, off', e', hg⟩ := h2 hn
  rw [e] at e'
  injection e' with e'
  injection e' with e1 e2
  subst e1
  exact ⟨b, off, e, fun i x hx => (World.cell?_of_block (w := w) (a := ⟨b, off + i, none⟩) (hk _ hg (blk_lt (hcell i x hx)))).trans (hcell i x hx)⟩
theorem IntsF.far (h : IntsF w lo A n xs) {p : Addr} (hp : p.block < lo) (u : Value) : IntsF (w.setCell p u) lo A n xs := h.keepF fun j hj _ => Below.heap_setCell _ _ _ _ (by omega)
theorem IntsF.below (h : IntsF w lo A n xs) (hb : Below w.heap.size w w') : IntsF w' lo A n xs := h.keepF fun j _ hj => hb.block j hj
theorem IntsF.belowD {W : World} (hb : Hid (Below W.heap.size W w')) (h : IntsF W lo A n xs) : IntsF w' lo A n xs := h.below hb
theorem IntsF.only (k : Hid (Only rb w w')) (hn : rb < lo) (h : IntsF w lo A n xs) : IntsF w' lo A n xs := h.keepF fun j h1 h2 => k.out.block j h2 (by omega)
theorem IntsF.alloc (h : IntsF w lo A n xs) (o : Obj) : IntsF (w.alloc o) lo A n xs := h.below ((Below.refl _ _).alloc (Nat.le_refl _) _)
theorem IntsF.drewN (h : IntsF w lo A n xs) (m : Nat) : IntsF (w.drewN m) lo A n xs := h.keepF fun _ _ _ => rfl
theorem IntsF.drew (h : IntsF w lo A n xs) : IntsF w.drew lo A n xs := h.keepF fun _ _ _ => rfl
theorem IntsF.at_ {g off : Nat} (h : Ints w (some ⟨g, off, none⟩) n xs) (hg : lo ≤ g) : IntsF w lo (some ⟨g, off, none⟩) n xs := ⟨h, fun _ => ⟨g, off, rfl, hg⟩⟩
end
/-- A list of numbers was drawn, of at most m. -/
def DrewList (B rb P m : Nat) (w : World) (e : Ending) (w' : World) : Prop :=
  ∃ (A : Option Addr) (n c : Nat) (xs : List Int), e = .returned (.slice A n c) ∧ IntsF w' w.heap.size A n xs ∧ n ≤ c ∧ c ≤ maxLen ∧ n ≤ m ∧ Rd B w' rb P ∧ Only rb w w'
theorem DrewList.mk {B rb P m g c : Nat} {xs : List Int} {w w' : World} (hg : w.heap.size ≤ g) (ho : OwnI w' g xs) (hi : ∀ x ∈ xs, I64 x) (lc : xs.length ≤ c) (mc : c ≤ maxLen) (hm : xs.length ≤ m) (hr : Rd B w' rb P) (hO : Only rb w w') :
    DrewList B rb P m w (.returned (.slice (some ⟨g, 0, none⟩) xs.length c)) w' := ⟨_, _, c, xs, rfl, IntsF.at_ (ho.ints hi) hg, lc, mc, hm, hr, hO⟩

theorem Ints.tail {w : World} {g : Nat} {xs : List Int} (h : Ints w (some ⟨g, 0, none⟩) xs.length xs) : Ints w (some ⟨g, 1, none⟩) (xs.length - 1) (xs.drop 1) := by
  refine ⟨by simp, fun x hx => h.2.1 x (List.mem_of_mem_drop hx), fun hn => ?_⟩
  obtain ⟨b, off, e, hc⟩ := h.2.2 (by omega)
  injection e with e
  injection e with e1 e2
  subst e1 e2
  refine ⟨g, 1, rfl, fun i x hx => ?_⟩
  rw [List.getElem?_drop] at hx
  have := hc (1 + i) x hx
  rwa [Nat.zero_add] at this

theorem Ints.tail0 {xs : List Int} (w : World) (A : Option Addr) (h : xs.length ≤ 1) : Ints w A (xs.length - 1) (xs.drop 1) := by
  have e : xs.drop 1 = [] := List.drop_eq_nil_of_le h
  have e2 : xs.length - 1 = 0 := by omega
  rw [e, e2]
  exact Ints.nil _ _

end Go.Proofs.Ytkjdfgdfbapimaa
