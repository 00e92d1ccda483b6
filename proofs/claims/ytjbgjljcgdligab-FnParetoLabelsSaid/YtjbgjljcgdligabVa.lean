
/-
  Fleets: slices of slices of numbers; stops, times and a capacity as plain data.
-/
import Derived.Test.YtjbgjljcgdligabFa
import Derived.Test.YtjbgjljcgdligabRw
set_option linter.unusedSimpArgs false
set_option linter.unusedVariables false
namespace Go.Proofs.Ytjbgjljcgdligab
open Go.RowKit

/-- A slice of slices of numbers. -/
def Lists (w : World) (A : Option Addr) (n : Nat) (xss : List (List Int)) : Prop :=
  xss.length = n ∧ (0 < n → ∃ b off : Nat, A = some ⟨b, off, none⟩ ∧ ∀ i xs, xss[i]? = some xs → ∃ (A' : Option Addr) (c' : Nat), Ints w A' xs.length xs ∧ xs.length ≤ c' ∧ c' ≤ maxLen ∧ w.cell? ⟨b, off + i, none⟩ = some (.slice A' xs.length c'))
section
variable {w w' : World} {A : Option Addr} {n k : Nat} {xss : List (List Int)}
theorem Lists.at_ (h : Lists w A n xss) (hk : k < n) : ∃ (b off : Nat) (xs : List Int) (A' : Option Addr) (c' : Nat), A = some ⟨b, off, none⟩ ∧ b < w.heap.size ∧ xss[k]? = some xs ∧ Ints w A' xs.length xs ∧ xs.length ≤ c' ∧ c' ≤ maxLen ∧ w.cell? ⟨b, off + k, none⟩ = some (.slice A' xs.length c') := by
  obtain ⟨hl, hc⟩ := h
  obtain ⟨b, off, e, hcell⟩ := hc (by omega)
  have hx : xss[k]? = some xss[k] := List.getElem?_eq_getElem (by omega)
  obtain ⟨A', c', h1, h2, h3, h4⟩ := hcell k _ hx
  exact ⟨b, off, xss[k], A', c', e, blk_lt h4, hx, h1, h2, h3, h4⟩
theorem Lists.below (h : Lists w A n xss) (hb : Below w.heap.size w w') : Lists w' A n xss := by
  obtain ⟨hl, hc⟩ := h
  refine ⟨hl, fun hn => ?_⟩
  obtain ⟨b, off, e, hcell⟩ := hc hn
  refine ⟨b, off, e, fun i xs hx => ?_⟩
  obtain ⟨A', c', h1, h2, h3, h4⟩ := hcell i xs hx
  exact ⟨A', c', h1.below hb, h2, h3, (hb.cell (p := ⟨b, _, none⟩) (blk_lt h4)).trans h4⟩
theorem Lists.len (h : Lists w A n xss) : xss.length = n := h.1
theorem Lists.nil (w : World) (A : Option Addr) : Lists w A 0 [] := ⟨rfl, fun h => absurd h (by omega)⟩
end
def SmallL (xss : List (List Int)) : Prop := xss.length ≤ 1048576 ∧ ∀ xs ∈ xss, xs.length ≤ 1048576
theorem SmallL.at_ {xss : List (List Int)} {k : Nat} {xs : List Int} (h : SmallL xss) (hx : xss[k]? = some xs) : xs.length ≤ 1048576 := h.2 xs (List.mem_of_getElem? hx)

/-- Block g holds n slices; those before k are the lists xss, each with its numbers in a block from lo on other than g. -/
def OwnL (w : World) (lo g n : Nat) (xss : List (List Int)) (k : Nat) : Prop :=
  lo ≤ g ∧ g < w.heap.size ∧ (∀ j, j < n → ∃ v, w.cell? ⟨g, j, none⟩ = some v ∧ w.frozen? ⟨g, j, none⟩ = false) ∧
    ∀ i xs, i < k → xss[i]? = some xs → ∃ g', lo ≤ g' ∧ g' ≠ g ∧ OwnI w g' xs ∧ (∀ x ∈ xs, I64 x) ∧ xs.length ≤ maxLen ∧ w.cell? ⟨g, i, none⟩ = some (.slice (some ⟨g', 0, none⟩) xs.length xs.length)
section
variable {w w' : World} {lo g n k : Nat} {xss : List (List Int)}
theorem OwnL.below (h : OwnL w lo g n xss k) (hb : Below w.heap.size w w') : OwnL w' lo g n xss k := by
  obtain ⟨h0, h1, h2, h3⟩ := h
  refine ⟨h0, by have := hb.size; omega, fun j hj => ?_, fun i xs hi hx => ?_⟩
  · obtain ⟨v, hv, hf⟩ := h2 j hj
    exact ⟨v, (hb.cell (p := ⟨g, j, none⟩) h1).trans hv, (hb.frozen (p := ⟨g, j, none⟩) h1).trans hf⟩
  · obtain ⟨g', x, y, o, a, b, c⟩ := h3 i xs hi hx
    exact ⟨g', x, y, o.below hb, a, b, (hb.cell (p := ⟨g, _, none⟩) h1).trans c⟩
theorem OwnL.keep (h : OwnL w lo g n xss k) (hs : w.heap.size ≤ w'.heap.size) (hk : ∀ j, lo ≤ j → j < w.heap.size → w'.heap[j]? = w.heap[j]?) : OwnL w' lo g n xss k := by
  obtain ⟨h0, h1, h2, h3⟩ := h
  have hg := hk g h0 h1
  refine ⟨h0, by omega, fun j hj => ?_, fun i xs hi hx => ?_⟩
  · obtain ⟨v, hv, hf⟩ := h2 j hj
    exact ⟨v, (World.cell?_of_block (w := w) (a := ⟨g, j, none⟩) hg).trans hv, (World.frozen?_of_block (w := w) (a := ⟨g, j, none⟩) hg).trans hf⟩
  · obtain ⟨g', x, y, o, a, b, c⟩ := h3 i xs hi hx
    exact ⟨g', x, y, o.keep hs (hk _ x o.1), a, b, (World.cell?_of_block (w := w) (a := ⟨g, _, none⟩) hg).trans c⟩
theorem OwnL.far (h : OwnL w lo g n xss k) {p : Addr} (hp : p.block < lo) (u : Value) : OwnL (w.setCell p u) lo g n xss k :=
  h.keep (by simp [World.setCell]) fun j hj _ => Below.heap_setCell _ _ _ _ (by omega)
theorem OwnL.alloc (h : OwnL w lo g n xss k) (o : Obj) : OwnL (w.alloc o) lo g n xss k := h.below ((Below.refl _ _).alloc (Nat.le_refl _) _)
theorem OwnL.drewN (h : OwnL w lo g n xss k) (m : Nat) : OwnL (w.drewN m) lo g n xss k := h.keep (Nat.le_refl _) fun _ _ _ => rfl
theorem OwnL.drew (h : OwnL w lo g n xss k) : OwnL w.drew lo g n xss k := h.keep (Nat.le_refl _) fun _ _ _ => rfl
theorem OwnL.belowD {W : World} (hb : Hid (Below W.heap.size W w')) (h : OwnL W lo g n xss k) : OwnL w' lo g n xss k := h.below hb
theorem OwnL.room (h : OwnL w lo g n xss k) {j : Nat} (hj : j < n) : ∃ v, w.cell? ⟨g, j, none⟩ = some v ∧ w.frozen? ⟨g, j, none⟩ = false := h.2.2.1 j hj
theorem OwnL.made (w : World) (e : TypeId) (z : Array Value) (n : Nat) (xss : List (List Int)) (hz : z.size = 1) : OwnL (w.alloc (.cells (madeCells z n) e)) w.heap.size w.heap.size n xss 0 := by
  refine ⟨Nat.le_refl _, by simp, fun j hj => ?_, fun i xs h => by omega⟩
  have hs : j < (madeCells z n).size := by rw [size_madeCells]; exact hj
  exact ⟨(madeCells z n)[j], by rw [World.cell?_alloc_new]; exact Array.getElem?_eq_getElem hs, by simp⟩
theorem OwnL.store (h : OwnL w lo g n xss k) {xs : List Int} (hx : xss[k]? = some xs) (hk : k < n) {g' : Nat} (ho : OwnI w g' xs) (hi : ∀ x ∈ xs, I64 x) (hm : xs.length ≤ maxLen) (h1 : lo ≤ g') (h2 : g' ≠ g) :
    OwnL (w.setCell ⟨g, k, none⟩ (.slice (some ⟨g', 0, none⟩) xs.length xs.length)) lo g n xss (k + 1) := by
  obtain ⟨a0, a1, a2, a3⟩ := h
  refine ⟨a0, by simpa [World.setCell] using a1, fun j hj => ?_, fun i ys hi' hy => ?_⟩
  · obtain ⟨v, a, b⟩ := a2 j hj
    exact ⟨_, cell_set a, by rw [World.frozen?_setCell]; exact b⟩
  · by_cases e : k = i
    · subst e
      rw [hx] at hy
      injection hy with hy
      subst hy
      obtain ⟨v, a, b⟩ := a2 k hk
      exact ⟨g', h1, h2, ho.far (by simp; omega) _, hi, hm, by rw [cell_set a, if_pos rfl]⟩
    · obtain ⟨g'', x, y, o, a, b, c⟩ := a3 i ys (by omega) hy
      exact ⟨g'', x, y, o.far (by simp; omega) _, a, b, by rw [cell_set c, if_neg e]⟩
theorem OwnL.lists (h : OwnL w lo g n xss n) (hn : xss.length = n) : Lists w (some ⟨g, 0, none⟩) n xss := by
  obtain ⟨h0, h1, h2, h3⟩ := h
  refine ⟨hn, fun _ => ⟨g, 0, rfl, fun i xs hx => ?_⟩⟩
  have hi : i < xss.length := (List.getElem?_eq_some_iff.1 hx).1
  obtain ⟨g', x, y, o, a, b, c⟩ := h3 i xs (by omega) hx
  exact ⟨_, _, o.ints a, Nat.le_refl _, b, by rw [Nat.zero_add]; exact c⟩
end

/-! ### Fleets -/
structure PFleet where
  ns : Nat
  stops : List Int
  times : List (List Int)
  cap : Int
def FleetV (w : World) (A0 A1 : Option Addr) (c0 c1 : Nat) (f : PFleet) : Prop :=
  Ints w A0 (f.ns * 4) f.stops ∧ Lists w A1 f.times.length f.times ∧ f.ns ≤ c0 ∧ f.times.length ≤ c1 ∧ c0 ≤ maxLen ∧ c1 ≤ maxLen ∧ I64 f.cap
section
variable {w w' : World} {A0 A1 : Option Addr} {c0 c1 : Nat} {f : PFleet}
theorem FleetV.below (h : FleetV w A0 A1 c0 c1 f) (hb : Below w.heap.size w w') : FleetV w' A0 A1 c0 c1 f := ⟨h.1.below hb, h.2.1.below hb, h.2.2⟩
theorem FleetV.i0 (h : FleetV w A0 A1 c0 c1 f) : Ints w A0 (f.ns * 4) f.stops := h.1
theorem FleetV.i1 (h : FleetV w A0 A1 c0 c1 f) : Lists w A1 f.times.length f.times := h.2.1
theorem FleetV.small (h : FleetV w A0 A1 c0 c1 f) : f.ns ≤ maxLen ∧ f.times.length ≤ maxLen := ⟨Nat.le_trans h.2.2.1 h.2.2.2.2.1, Nat.le_trans h.2.2.2.1 h.2.2.2.2.2.1⟩
end
def SmallF (f : PFleet) : Prop := f.ns ≤ 1048576 ∧ SmallL f.times

def rall (p : Nat → Bool) (k : Nat) : Bool := (List.range k).all p
theorem rall_0 {p : Nat → Bool} : rall p 0 = true := by simp [rall]
theorem rall_succ {p : Nat → Bool} {k : Nat} : rall p (k + 1) = (rall p k && p k) := by unfold rall; rw [List.range_succ, List.all_append]; simp
theorem rall_yes {p : Nat → Bool} {k : Nat} (h : rall p k = true) (h2 : p k = true) : rall p (k + 1) = true := by rw [rall_succ, h, h2]; rfl
theorem rall_no {p : Nat → Bool} {n k : Nat} (hk : k < n) (h : p k = false) : rall p n = false := by
  unfold rall
  rw [List.all_eq_false]
  exact ⟨k, List.mem_range.2 hk, by simp [h]⟩
theorem rall_at {p : Nat → Bool} {n k : Nat} (h : rall p n = true) (hk : k < n) : p k = true := List.all_eq_true.1 h k (List.mem_range.2 hk)

def stopB (x0 x1 x2 x3 : Int) : Bool := inB x0 0 30 && (inB x1 0 200 && (inB x2 x1 200 && inB x3 0 50))
def stopOK (xs : List Int) (i : Nat) : Bool := stopB (xs.getD (i * 4) 0) (xs.getD (i * 4 + 1) 0) (xs.getD (i * 4 + 2) 0) (xs.getD (i * 4 + 3) 0)
theorem stopOK_at {xs : List Int} {i : Nat} {x0 x1 x2 x3 : Int} (h0 : xs[i * 4]? = some x0) (h1 : xs[i * 4 + 1]? = some x1) (h2 : xs[i * 4 + 2]? = some x2) (h3 : xs[i * 4 + 3]? = some x3) : stopOK xs i = stopB x0 x1 x2 x3 := by
  unfold stopOK; rw [getD_of h0, getD_of h1, getD_of h2, getD_of h3]
theorem stopB_1 {x0 x1 x2 x3 : Int} (h : inB x0 0 30 = false) : stopB x0 x1 x2 x3 = false := by simp [stopB, h]
theorem stopB_2 {x0 x1 x2 x3 : Int} (h : inB x1 0 200 = false) : stopB x0 x1 x2 x3 = false := by simp [stopB, h]
theorem stopB_3 {x0 x1 x2 x3 : Int} (h : inB x2 x1 200 = false) : stopB x0 x1 x2 x3 = false := by simp [stopB, h]
theorem stopB_4 {x0 x1 x2 x3 : Int} (h : inB x3 0 50 = false) : stopB x0 x1 x2 x3 = false := by simp [stopB, h]
theorem stopB_5 {x0 x1 x2 x3 : Int} (h1 : inB x0 0 30 = true) (h2 : inB x1 0 200 = true) (h3 : inB x2 x1 200 = true) (h4 : inB x3 0 50 = true) : stopB x0 x1 x2 x3 = true := by simp [stopB, h1, h2, h3, h4]
theorem stopB_6 {x0 x1 x2 x3 : Int} (h : ¬ 0 ≤ x1) : stopB x0 x1 x2 x3 = false := stopB_2 (inB_not.2 (by omega))
theorem stopB_7 {x0 x1 x2 x3 : Int} (h1 : inB x0 0 30 = true) (h2 : 0 ≤ x1) (h3 : inB x2 x1 200 = true) : stopB x0 x1 x2 x3 = inB x3 0 50 := by
  have := inB_iff.1 h3
  have e : inB x1 0 200 = true := inB_iff.2 ⟨h2, by omega⟩
  simp [stopB, h1, e, h3]
theorem stopB_iff {x0 x1 x2 x3 : Int} : stopB x0 x1 x2 x3 = true ↔ (0 ≤ x0 ∧ x0 ≤ 30) ∧ (0 ≤ x1 ∧ x1 ≤ 200) ∧ (x1 ≤ x2 ∧ x2 ≤ 200) ∧ 0 ≤ x3 ∧ x3 ≤ 50 := by simp [stopB, inB]

def allLen (xss : List (List Int)) (m : Nat) : Bool := xss.all fun t => decide (t.length = m)
def allTim (xss : List (List Int)) : Bool := xss.all fun t => vInts t 0 50
def vFleet (f : PFleet) : Bool := decide (f.ns ≤ 5) && (decide (f.times.length = f.ns + 1) && (allLen f.times (f.ns + 1) && (inB f.cap 0 30 && (allTim f.times && rall (stopOK f.stops) f.ns))))
theorem vFleet_A {f : PFleet} (h : ¬ f.ns ≤ 5) : vFleet f = false := by simp [vFleet, h]
theorem vFleet_B {f : PFleet} (h : ¬ f.times.length = f.ns + 1) : vFleet f = false := by simp [vFleet, h]
theorem vFleet_C {f : PFleet} (h : allLen f.times (f.ns + 1) = false) : vFleet f = false := by simp [vFleet, h]
theorem vFleet_D {f : PFleet} (h : inB f.cap 0 30 = false) : vFleet f = false := by simp [vFleet, h]
theorem vFleet_E {f : PFleet} (h : allTim f.times = false) : vFleet f = false := by simp [vFleet, h]
theorem vFleet_S {f : PFleet} (h : rall (stopOK f.stops) f.ns = false) : vFleet f = false := by simp [vFleet, h]
theorem vFleet_ok {f : PFleet} (hA : f.ns ≤ 5) (hB : f.times.length = f.ns + 1) (hC : allLen f.times (f.ns + 1) = true) (hD : inB f.cap 0 30 = true) (hE : allTim f.times = true) (hS : rall (stopOK f.stops) f.ns = true) : vFleet f = true := by simp [vFleet, hA, hB, hC, hD, hE, hS]
theorem vFleet_facts {f : PFleet} (h : vFleet f = true) : f.ns ≤ 5 ∧ f.times.length = f.ns + 1 ∧ (∀ t ∈ f.times, t.length = f.ns + 1 ∧ ∀ x ∈ t, 0 ≤ x ∧ x ≤ 50) ∧ (0 ≤ f.cap ∧ f.cap ≤ 30) ∧ ∀ i, i < f.ns → stopOK f.stops i = true := by
  simp only [vFleet, Bool.and_eq_true, decide_eq_true_eq] at h
  obtain ⟨h1, h2, h3, h4, h5, h6⟩ := h
  refine ⟨h1, h2, fun t ht => ⟨?_, fun x hx => ?_⟩, inB_iff.1 h4, fun i hi => rall_at h6 hi⟩
  · have := List.all_eq_true.1 h3 t ht
    simpa using this
  · have := List.all_eq_true.1 h5 t ht
    exact inB_iff.1 (List.all_eq_true.1 this x hx)
end Go.Proofs.Ytjbgjljcgdligab
