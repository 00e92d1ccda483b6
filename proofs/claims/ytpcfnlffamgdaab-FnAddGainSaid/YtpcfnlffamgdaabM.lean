
/-
  Words for memory: slices of numbers, of rows, problems and boxes that read as plain data; slices of the call's own.
-/
import Derived.Test.YtpcfnlffamgdaabRows
import Derived.Below
import Derived.WalkKit
import Derived.Lib.Hide
import Derived.DataReads
import Derived.Laws.NewBlocks
import Derived.BigQuiet
import Derived.Deep.QuietTactic
import Derived.RegionTactic
import Derived.ChangeAlike
import Derived.Deep.RegionHeld3
import Derived.Deep.DeepCutAuto
import Derived.OwnWalk
import Derived.Laws.MakeOwn
import Derived.Laws.OwnMore
set_option linter.unusedSimpArgs false
set_option linter.unusedVariables false
namespace Go.Proofs.Ytpcfnlffamgdaab
open Go.RowKit

theorem ret_b {a b : Bool} (h : a = b) : Ending.returned (.bool a) = .returned (.bool b) := by rw [h]
theorem ret_i {a b : Int} (h : a = b) : Ending.returned (.int .i64 a) = .returned (.int .i64 b) := by rw [h]
theorem bel_drewN {B : Nat} {a w : World} (h : Below B a w) (n : Nat) : Below B a (w.drewN n) := ⟨h.os, h.tape, h.output, h.size, h.block⟩
theorem bcell {W w1 : World} (hb : Below W.heap.size W w1) : (∀ b o, b < W.heap.size → w1.cell? ⟨b, o, none⟩ = W.cell? ⟨b, o, none⟩) ∧ (∀ b o, b < W.heap.size → w1.frozen? ⟨b, o, none⟩ = W.frozen? ⟨b, o, none⟩) :=
  ⟨fun b o h => hb.cell (p := ⟨b, o, none⟩) h, fun b o h => hb.frozen (p := ⟨b, o, none⟩) h⟩
theorem belS {B : Nat} {w w1 : World} {b o : Nat} {v : Value} (h : Below B w w1) (hb : B ≤ b) : Below B w (w1.setCell ⟨b, o, none⟩ v) := h.setCell hb _
theorem belA {B : Nat} {w w1 : World} {o : Obj} (h : Below B w w1) (hb : B ≤ w1.heap.size) : Below B w (w1.alloc o) := h.alloc hb _
theorem belT {w w1 w2 : World} (ha : Below w.heap.size w w1) (hb : Below w1.heap.size w1 w2) : Below w.heap.size w w2 := ha.trans (hb.mono ha.size)
theorem belU {w w1 w2 : World} {B : Nat} (hb : Below B w1 w2) (ha : Below w.heap.size w w1) (hB : w.heap.size ≤ B) : Below w.heap.size w w2 := ha.trans (hb.mono hB)
theorem belV {w w1 w2 : World} {B : Nat} (hb : Hid (Below B w1 w2)) (hB : w.heap.size ≤ B) (ha : Below w.heap.size w w1) : Below w.heap.size w w2 := ha.trans (hb.mono hB)
theorem blk_lt {w : World} {b o : Nat} {v : Value} (h : w.cell? ⟨b, o, none⟩ = some v) : b < w.heap.size := World.block_lt_of_cell? _ _ h

/-- A number of 64 bits. -/
def I64 (x : Int) : Prop := -9223372036854775808 ≤ x ∧ x ≤ 9223372036854775807

/-! ### Slices of numbers -/
def Ints (w : World) (A : Option Addr) (n : Nat) (xs : List Int) : Prop :=
  xs.length = n ∧ (∀ x ∈ xs, I64 x) ∧ (0 < n → ∃ b off : Nat, A = some ⟨b, off, none⟩ ∧ ∀ i x, xs[i]? = some x → w.cell? ⟨b, off + i, none⟩ = some (.int .i64 x))
section
variable {w w' : World} {A : Option Addr} {n k : Nat} {xs : List Int}
theorem Ints.at_ (h : Ints w A n xs) (hk : k < n) : ∃ (b off : Nat) (x : Int), A = some ⟨b, off, none⟩ ∧ b < w.heap.size ∧ xs[k]? = some x ∧ -9223372036854775808 ≤ x ∧ x ≤ 9223372036854775807 ∧ w.cell? ⟨b, off + k, none⟩ = some (.int .i64 x) := by
  obtain ⟨hl, hr, hc⟩ := h
  obtain ⟨b, off, e, hcell⟩ := hc (by omega)
  have hx : xs[k]? = some xs[k] := List.getElem?_eq_getElem (by omega)
  have := hr _ (List.getElem_mem (show k < xs.length by omega))
  exact ⟨b, off, xs[k], e, blk_lt (hcell k _ hx), hx, this.1, this.2, hcell k _ hx⟩
theorem Ints.below (h : Ints w A n xs) (hb : Below w.heap.size w w') : Ints w' A n xs := by
  obtain ⟨hl, hr, hc⟩ := h
  refine ⟨hl, hr, fun hn => ?_⟩
  obtain ⟨b, off, e, hcell⟩ := hc hn
  exact ⟨b, off, e, fun i x hx => (hb.cell (p := ⟨b, off + i, none⟩) (blk_lt (hcell i x hx))).trans (hcell i x hx)⟩
theorem Ints.nil (w : World) (A : Option Addr) : Ints w A 0 [] := ⟨rfl, by simp, fun h => absurd h (by omega)⟩
theorem Ints.len (h : Ints w A n xs) : xs.length = n := h.1
end

/-! ### Rows -/
structure PRow where
  cs : List Int
  s : Int
  b : Int
/-- A row's value: its slice is the numbers cs. -/
def RowV (w : World) (A : Option Addr) (c : Nat) (r : PRow) : Prop := Ints w A r.cs.length r.cs ∧ r.cs.length ≤ c ∧ c ≤ maxLen ∧ I64 r.s ∧ I64 r.b
theorem RowV.below {w w' : World} {A : Option Addr} {c : Nat} {r : PRow} (h : RowV w A c r) (hb : Below w.heap.size w w') : RowV w' A c r := ⟨h.1.below hb, h.2⟩
theorem RowV.i {w : World} {A : Option Addr} {c : Nat} {r : PRow} (h : RowV w A c r) : Ints w A r.cs.length r.cs := h.1
/-- A slice of rows. -/
def RowS (w : World) (A : Option Addr) (n : Nat) (rs : List PRow) : Prop :=
  rs.length = n ∧ (0 < n → ∃ b off : Nat, A = some ⟨b, off, none⟩ ∧ ∀ i r, rs[i]? = some r → ∃ (A' : Option Addr) (c' : Nat), RowV w A' c' r ∧
    w.cell? ⟨b, off + i * 3, none⟩ = some (.slice A' r.cs.length c') ∧ w.cell? ⟨b, off + i * 3 + 1, none⟩ = some (.int .i64 r.s) ∧ w.cell? ⟨b, off + i * 3 + 2, none⟩ = some (.int .i64 r.b))
section
variable {w w' : World} {A : Option Addr} {n k : Nat} {rs : List PRow}
theorem RowS.at_ (h : RowS w A n rs) (hk : k < n) : ∃ (b off : Nat) (r : PRow) (A' : Option Addr) (c' : Nat), A = some ⟨b, off, none⟩ ∧ b < w.heap.size ∧ rs[k]? = some r ∧ RowV w A' c' r ∧
    w.cell? ⟨b, off + k * 3, none⟩ = some (.slice A' r.cs.length c') ∧ w.cell? ⟨b, off + k * 3 + 1, none⟩ = some (.int .i64 r.s) ∧ w.cell? ⟨b, off + k * 3 + 2, none⟩ = some (.int .i64 r.b) := by
  obtain ⟨hl, hc⟩ := h
  obtain ⟨b, off, e, hcell⟩ := hc (by omega)
  have hx : rs[k]? = some rs[k] := List.getElem?_eq_getElem (by omega)
  obtain ⟨A', c', h1, h2, h3, h4⟩ := hcell k _ hx
  exact ⟨b, off, rs[k], A', c', e, blk_lt h2, hx, h1, h2, h3, h4⟩
theorem RowS.below (h : RowS w A n rs) (hb : Below w.heap.size w w') : RowS w' A n rs := by
  obtain ⟨hl, hc⟩ := h
  refine ⟨hl, fun hn => ?_⟩
  obtain ⟨b, off, e, hcell⟩ := hc hn
  refine ⟨b, off, e, fun i r hr => ?_⟩
  obtain ⟨A', c', h1, h2, h3, h4⟩ := hcell i r hr
  exact ⟨A', c', h1.below hb, (hb.cell (p := ⟨b, _, none⟩) (blk_lt h2)).trans h2, (hb.cell (p := ⟨b, _, none⟩) (blk_lt h3)).trans h3, (hb.cell (p := ⟨b, _, none⟩) (blk_lt h4)).trans h4⟩
theorem RowS.len (h : RowS w A n rs) : rs.length = n := h.1
theorem RowS.nil (w : World) (A : Option Addr) : RowS w A 0 [] := ⟨rfl, fun h => absurd h (by omega)⟩
end

/-! ### Problems and boxes -/
structure PProb where
  costs : List Int
  uppers : List Int
  rows : List PRow
structure PBox where
  low : List Int
  high : List Int
def ProbV (w : World) (A0 A1 A2 : Option Addr) (c0 c1 c2 : Nat) (p : PProb) : Prop :=
  Ints w A0 p.costs.length p.costs ∧ Ints w A1 p.uppers.length p.uppers ∧ RowS w A2 p.rows.length p.rows ∧ p.costs.length ≤ c0 ∧ p.uppers.length ≤ c1 ∧ p.rows.length ≤ c2 ∧ c0 ≤ maxLen ∧ c1 ≤ maxLen ∧ c2 ≤ maxLen
theorem ProbV.below {w w' : World} {A0 A1 A2 : Option Addr} {c0 c1 c2 : Nat} {p : PProb} (h : ProbV w A0 A1 A2 c0 c1 c2 p) (hb : Below w.heap.size w w') : ProbV w' A0 A1 A2 c0 c1 c2 p :=
  ⟨h.1.below hb, h.2.1.below hb, h.2.2.1.below hb, h.2.2.2⟩
theorem ProbV.i0 {w : World} {A0 A1 A2 : Option Addr} {c0 c1 c2 : Nat} {p : PProb} (h : ProbV w A0 A1 A2 c0 c1 c2 p) : Ints w A0 p.costs.length p.costs := h.1
theorem ProbV.i1 {w : World} {A0 A1 A2 : Option Addr} {c0 c1 c2 : Nat} {p : PProb} (h : ProbV w A0 A1 A2 c0 c1 c2 p) : Ints w A1 p.uppers.length p.uppers := h.2.1
theorem ProbV.rs {w : World} {A0 A1 A2 : Option Addr} {c0 c1 c2 : Nat} {p : PProb} (h : ProbV w A0 A1 A2 c0 c1 c2 p) : RowS w A2 p.rows.length p.rows := h.2.2.1
def BoxV (w : World) (A0 A1 : Option Addr) (c0 c1 : Nat) (b : PBox) : Prop :=
  Ints w A0 b.low.length b.low ∧ Ints w A1 b.high.length b.high ∧ b.low.length ≤ c0 ∧ b.high.length ≤ c1 ∧ c0 ≤ maxLen ∧ c1 ≤ maxLen
theorem BoxV.below {w w' : World} {A0 A1 : Option Addr} {c0 c1 : Nat} {b : PBox} (h : BoxV w A0 A1 c0 c1 b) (hb : Below w.heap.size w w') : BoxV w' A0 A1 c0 c1 b :=
  ⟨h.1.below hb, h.2.1.below hb, h.2.2⟩
theorem BoxV.i0 {w : World} {A0 A1 : Option Addr} {c0 c1 : Nat} {b : PBox} (h : BoxV w A0 A1 c0 c1 b) : Ints w A0 b.low.length b.low := h.1
theorem BoxV.i1 {w : World} {A0 A1 : Option Addr} {c0 c1 : Nat} {b : PBox} (h : BoxV w A0 A1 c0 c1 b) : Ints w A1 b.high.length b.high := h.2.1
def SmallR (rs : List PRow) : Prop := rs.length ≤ 1048576 ∧ ∀ r ∈ rs, r.cs.length ≤ 1048576
def SmallP (p : PProb) : Prop := p.costs.length ≤ 1048576 ∧ p.uppers.length ≤ 1048576 ∧ SmallR p.rows
def SmallB (b : PBox) : Prop := b.low.length ≤ 1048576 ∧ b.high.length ≤ 1048576
theorem SmallR.at_ {rs : List PRow} {k : Nat} {r : PRow} (h : SmallR rs) (hr : rs[k]? = some r) : r.cs.length ≤ 1048576 := h.2 r (List.mem_of_getElem? hr)

/-! ### Slices of the call's own -/
/-- Block g begins with the numbers xs and can be written. -/
def OwnI (w : World) (g : Nat) (xs : List Int) : Prop := g < w.heap.size ∧ ∀ i x, xs[i]? = some x → w.cell? ⟨g, i, none⟩ = some (.int .i64 x) ∧ w.frozen? ⟨g, i, none⟩ = false
section
variable {w w' : World} {g k : Nat} {xs : List Int}
theorem OwnI.keep (h : OwnI w g xs) (hs : w.heap.size ≤ w'.heap.size) (hg : w'.heap[g]? = w.heap[g]?) : OwnI w' g xs :=
  ⟨by have := h.1; omega, fun i x hx => ⟨(World.cell?_of_block (w := w) (a := ⟨g, i, none⟩) hg).trans (h.2 i x hx).1, (World.frozen?_of_block (w := w) (a := ⟨g, i, none⟩) hg).trans (h.2 i x hx).2⟩⟩
theorem OwnI.below (h : OwnI w g xs) (hb : Below w.heap.size w w') : OwnI w' g xs := h.keep hb.size (hb.block _ h.1)
theorem OwnI.belowD {W : World} (hb : Hid (Below W.heap.size W w')) (h : OwnI W g xs) : OwnI w' g xs := h.below hb
theorem OwnI.alloc (h : OwnI w g xs) (o : Obj) : OwnI (w.alloc o) g xs := h.below ((Below.refl _ _).alloc (Nat.le_refl _) _)
theorem OwnI.drewN (h : OwnI w g xs) (n : Nat) : OwnI (w.drewN n) g xs := h.keep (Nat.le_refl _) rfl
theorem OwnI.drew (h : OwnI w g xs) : OwnI w.drew g xs := h.keep (Nat.le_refl _) rfl
theorem OwnI.far (h : OwnI w g xs) {p : Addr} (hp : p.block ≠ g) (u : Value) : OwnI (w.setCell p u) g xs := h.keep (by simp [World.setCell]) (Below.heap_setCell _ _ _ _ (by omega))
theorem OwnI.set_ (h : OwnI w g xs) {x0 : Int} (hk : xs[k]? = some x0) (y : Int) : OwnI (w.setCell ⟨g, k, none⟩ (.int .i64 y)) g (xs.set k y) := by
  refine ⟨by simpa [World.setCell] using h.1, fun i x hx => ?_⟩
  rw [World.frozen?_setCell]
  rw [List.getElem?_set] at hx
  by_cases e : k = i
  · subst e
    have hlt : k < xs.length := (List.getElem?_eq_some_iff.1 hk).1
    simp [hlt] at hx
    subst hx
    exact ⟨World.cell?_setCell_same _ _ _ (h.2 k _ hk).1, (h.2 k _ hk).2⟩
  · rw [if_neg e] at hx
    exact ⟨(World.cell?_setCell_other _ _ _ _ (by intro h; injection h with _ h2; omega)).trans (h.2 i x hx).1, (h.2 i x hx).2⟩
theorem OwnI.ints (h : OwnI w g xs) (hr : ∀ x ∈ xs, I64 x) : Ints w (some ⟨g, 0, none⟩) xs.length xs := ⟨rfl, hr, fun _ => ⟨g, 0, rfl, fun i x hx => by rw [Nat.zero_add]; exact (h.2 i x hx).1⟩⟩
theorem OwnI.ints_of {w0 : World} {A : Option Addr} {n : Nat} (h : OwnI w g xs) (hi : Ints w0 A n xs) : Ints w (some ⟨g, 0, none⟩) n xs := ⟨hi.1, hi.2.1, fun _ => ⟨g, 0, rfl, fun i x hx => by rw [Nat.zero_add]; exact (h.2 i x hx).1⟩⟩
theorem OwnI.at_ (h : OwnI w g xs) (hk : k < xs.length) : w.cell? ⟨g, k, none⟩ = some (.int .i64 (xs.getD k 0)) ∧ w.frozen? ⟨g, k, none⟩ = false := by
  have := h.2 k xs[k] (List.getElem?_eq_getElem hk)
  simpa [List.getD_eq_getElem?_getD, List.getElem?_eq_getElem hk] using this
end

/-! ### Blocks of the call's own variables -/
def Box (w : World) (b : Nat) (cs : Array Value) : Prop := b < w.heap.size ∧ ∀ i v, cs[i]? = some v → w.cell? ⟨b, i, none⟩ = some v ∧ w.frozen? ⟨b, i, none⟩ = false
section
variable {w w' : World} {b : Nat} {cs : Array Value}
theorem Box.at (h : Box w b cs) (i : Nat) {v : Value} (hv : cs[i]? = some v) : w.cell? ⟨b, i, none⟩ = some v := (h.2 i v hv).1
theorem Box.keep (h : Box w b cs) (hs : w.heap.size ≤ w'.heap.size) (hg : w'.heap[b]? = w.heap[b]?) : Box w' b cs :=
  ⟨by have := h.1; omega, fun i v hv => ⟨(World.cell?_of_block (w := w) (a := ⟨b, i, none⟩) hg).trans (h.2 i v hv).1, (World.frozen?_of_block (w := w) (a := ⟨b, i, none⟩) hg).trans (h.2 i v hv).2⟩⟩
theorem Box.below (h : Box w b cs) (hb : Below w.heap.size w w') : Box w' b cs := h.keep hb.size (hb.block _ h.1)
theorem Box.belowD {W : World} (hb : Hid (Below W.heap.size W w')) (h : Box W b cs) : Box w' b cs := h.below hb
theorem Box.alloc (h : Box w b cs) (o : Obj) : Box (w.alloc o) b cs := h.below ((Below.refl _ _).alloc (Nat.le_refl _) _)
theorem Box.drewN (h : Box w b cs) (n : Nat) : Box (w.drewN n) b cs := h.keep (Nat.le_refl _) rfl
theorem Box.drew (h : Box w b cs) : Box w.drew b cs := h.keep (Nat.le_refl _) rfl
theorem Box.far (h : Box w b cs) {p : Addr} (hp : p.block ≠ b) (u : Value) : Box (w.setCell p u) b cs := h.keep (by simp [World.setCell]) (Below.heap_setCell _ _ _ _ (by omega))
theorem Box.new (w : World) (t : TypeId) (cs : Array Value) (hb : b = w.heap.size) : Box (w.alloc (.cells cs t)) b cs := by
  subst hb
  refine ⟨by simp, fun i v hv => ⟨?_, by simp⟩⟩
  rw [World.cell?_alloc_new]; exact hv
theorem Box.facts1 {x : Value} (h : Box w b #[x]) : w.cell? ⟨b, 0, none⟩ = some x := h.at 0 rfl
theorem Box.facts2 {x y : Value} (h : Box w b #[x, y]) : w.cell? ⟨b, 0, none⟩ = some x ∧ w.cell? ⟨b, 1, none⟩ = some y := ⟨h.at 0 rfl, h.at 1 rfl⟩
theorem Box.facts3 {x y z : Value} (h : Box w b #[x, y, z]) : w.cell? ⟨b, 0, none⟩ = some x ∧ w.cell? ⟨b, 1, none⟩ = some y ∧ w.cell? ⟨b, 2, none⟩ = some z := ⟨h.at 0 rfl, h.at 1 rfl, h.at 2 rfl⟩
theorem Box.facts4 {x y z u : Value} (h : Box w b #[x, y, z, u]) : w.cell? ⟨b, 0, none⟩ = some x ∧ w.cell? ⟨b, 1, none⟩ = some y ∧ w.cell? ⟨b, 2, none⟩ = some z ∧ w.cell? ⟨b, 3, none⟩ = some u := ⟨h.at 0 rfl, h.at 1 rfl, h.at 2 rfl, h.at 3 rfl⟩
end

/-! ### A slice of rows of the call's own, filled up to k -/
/-- Block g holds n rows; those before k are the rows rs, each with its numbers in a block of its own (G i), from block lo on. -/
def OwnR (w : World) (lo g n : Nat) (rs : List PRow) (k : Nat) : Prop :=
  lo ≤ g ∧ g < w.heap.size ∧ (∀ j, j < n * 3 → ∃ v, w.cell? ⟨g, j, none⟩ = some v ∧ w.frozen? ⟨g, j, none⟩ = false) ∧
    ∃ G : Nat → Nat, (∀ i j, i < j → j < k → G i ≠ G j) ∧ ∀ i r, i < k → rs[i]? = some r → lo ≤ G i ∧ G i ≠ g ∧ OwnI w (G i) r.cs ∧ RowV w (some ⟨G i, 0, none⟩) r.cs.length r ∧
      w.cell? ⟨g, i * 3, none⟩ = some (.slice (some ⟨G i, 0, none⟩) r.cs.length r.cs.length) ∧ w.cell? ⟨g, i * 3 + 1, none⟩ = some (.int .i64 r.s) ∧ w.cell? ⟨g, i * 3 + 2, none⟩ = some (.int .i64 r.b)
section
variable {w w' : World} {lo g n k : Nat} {rs : List PRow}
theorem OwnR.below (h : OwnR w lo g n rs k) (hb : Below w.heap.size w w') : OwnR w' lo g n rs k := by
  obtain ⟨h0, h1, h2, G, hG, h3⟩ := h
  refine ⟨h0, by have := hb.size; omega, fun j hj => ?_, G, hG, fun i r hi hr => ?_⟩
  · obtain ⟨v, hv, hf⟩ := h2 j hj
    exact ⟨v, (hb.cell (p := ⟨g, j, none⟩) h1).trans hv, (hb.frozen (p := ⟨g, j, none⟩) h1).trans hf⟩
  · obtain ⟨x, y, o, a, b, c, d⟩ := h3 i r hi hr
    exact ⟨x, y, o.below hb, a.below hb, (hb.cell (p := ⟨g, _, none⟩) h1).trans b, (hb.cell (p := ⟨g, _, none⟩) h1).trans c, (hb.cell (p := ⟨g, _, none⟩) h1).trans d⟩
theorem OwnR.keep (h : OwnR w lo g n rs k) (hs : w.heap.size ≤ w'.heap.size) (hk : ∀ j, lo ≤ j → j < w.heap.size → w'.heap[j]? = w.heap[j]?) : OwnR w' lo g n rs k := by
  obtain ⟨h0, h1, h2, G, hG, h3⟩ := h
  have hg := hk g h0 h1
  refine ⟨h0, by omega, fun j hj => ?_, G, hG, fun i r hi hr => ?_⟩
  · obtain ⟨v, hv, hf⟩ := h2 j hj
    exact ⟨v, (World.cell?_of_block (w := w) (a := ⟨g, j, none⟩) hg).trans hv, (World.frozen?_of_block (w := w) (a := ⟨g, j, none⟩) hg).trans hf⟩
  · obtain ⟨x, y, o, a, b, c, d⟩ := h3 i r hi hr
    have o' : OwnI w' (G i) r.cs := o.keep hs (hk _ x o.1)
    exact ⟨x, y, o', ⟨o'.ints_of a.1, a.2⟩, (World.cell?_of_block (w := w) (a := ⟨g, _, none⟩) hg).trans b, (World.cell?_of_block (w := w) (a := ⟨g, _, none⟩) hg).trans c, (World.cell?_of_block (w := w) (a := ⟨g, _, none⟩) hg).trans d⟩
theorem OwnR.far (h : OwnR w lo g n rs k) {p : Addr} (hp : p.block < lo) (u : Value) : OwnR (w.setCell p u) lo g n rs k :=
  h.keep (by simp [World.setCell]) fun j hj _ => Below.heap_setCell _ _ _ _ (by omega)
theorem OwnR.alloc (h : OwnR w lo g n rs k) (o : Obj) : OwnR (w.alloc o) lo g n rs k := h.below ((Below.refl _ _).alloc (Nat.le_refl _) _)
theorem OwnR.drewN (h : OwnR w lo g n rs k) (m : Nat) : OwnR (w.drewN m) lo g n rs k := h.keep (Nat.le_refl _) fun _ _ _ => rfl
theorem OwnR.drew (h : OwnR w lo g n rs k) : OwnR w.drew lo g n rs k := h.keep (Nat.le_refl _) fun _ _ _ => rfl
theorem OwnR.belowD {W : World} (hb : Hid (Below W.heap.size W w')) (h : OwnR W lo g n rs k) : OwnR w' lo g n rs k := h.below hb
theorem OwnR.room (h : OwnR w lo g n rs k) (hk : k < n) : ∃ v0 v1 v2, w.cell? ⟨g, k * 3, none⟩ = some v0 ∧ w.cell? ⟨g, k * 3 + 1, none⟩ = some v1 ∧ w.cell? ⟨g, k * 3 + 2, none⟩ = some v2 ∧
    w.frozen? ⟨g, k * 3, none⟩ = false ∧ w.frozen? ⟨g, k * 3 + 1, none⟩ = false ∧ w.frozen? ⟨g, k * 3 + 2, none⟩ = false := by
  obtain ⟨v0, a0, b0⟩ := h.2.2.1 (k * 3) (by omega)
  obtain ⟨v1, a1, b1⟩ := h.2.2.1 (k * 3 + 1) (by omega)
  obtain ⟨v2, a2, b2⟩ := h.2.2.1 (k * 3 + 2) (by omega)
  exact ⟨v0, v1, v2, a0, a1, a2, b0, b1, b2⟩
def upd (G : Nat → Nat) (k g i : Nat) : Nat := if i = k then g else G i
theorem upd_same {G : Nat → Nat} {k g : Nat} : upd G k g k = g := by simp [upd]
theorem upd_other {G : Nat → Nat} {k g i : Nat} (h : ¬ i = k) : upd G k g i = G i := by simp [upd, h]
theorem cell_set {w : World} {g i j : Nat} {v u : Value} (h : w.cell? ⟨g, i, none⟩ = some v) : (w.setCell ⟨g, j, none⟩ u).cell? ⟨g, i, none⟩ = some (if j = i then u else v) := by
  by_cases e : j = i
  · subst e
    rw [if_pos rfl]
    exact World.cell?_setCell_same _ _ _ h
  · rw [if_neg e]
    exact (World.cell?_setCell_other _ _ _ _ (by intro h; injection h with _ h2; omega)).trans h
theorem RowV.of_own {g' : Nat} {r : PRow} {w0 : World} {A : Option Addr} {c : Nat} (h : OwnI w g' r.cs) (h0 : RowV w0 A c r) (hs : r.cs.length ≤ maxLen) : RowV w (some ⟨g', 0, none⟩) r.cs.length r :=
  ⟨h.ints_of h0.1, Nat.le_refl _, hs, h0.2.2.2⟩
/-- A row is stored at place k: its numbers lie in a block that is newer than all others. -/
theorem OwnR.store {w0 : World} (h : OwnR w0 lo g n rs k) (hb : Below w0.heap.size w0 w) {r : PRow} (hr : rs[k]? = some r) (hk : k < n) {g' : Nat} (ho : OwnI w g' r.cs) (hv : RowV w (some ⟨g', 0, none⟩) r.cs.length r) (hnew : w0.heap.size ≤ g') :
    OwnR (((w.setCell ⟨g, k * 3, none⟩ (.slice (some ⟨g', 0, none⟩) r.cs.length r.cs.length)).setCell ⟨g, k * 3 + 1, none⟩ (.int .i64 r.s)).setCell ⟨g, k * 3 + 2, none⟩ (.int .i64 r.b)) lo g n rs (k + 1) := by
  obtain ⟨h0, h1, h2, G, hG, h3⟩ := h
  have hsz := hb.size
  have far : ∀ {x : Nat} {cs : List Int}, OwnI w x cs → x ≠ g → OwnI (((w.setCell ⟨g, k * 3, none⟩ (.slice (some ⟨g', 0, none⟩) r.cs.length r.cs.length)).setCell ⟨g, k * 3 + 1, none⟩ (.int .i64 r.s)).setCell ⟨g, k * 3 + 2, none⟩ (.int .i64 r.b)) x cs :=
    fun {x cs} o e => ((o.far (by simp; omega) _).far (by simp; omega) _).far (by simp; omega) _
  have h2' : ∀ j, j < n * 3 → ∃ v, w.cell? ⟨g, j, none⟩ = some v ∧ w.frozen? ⟨g, j, none⟩ = false := fun j hj => by
    obtain ⟨v, hv, hf⟩ := h2 j hj
    exact ⟨v, (hb.cell (p := ⟨g, j, none⟩) h1).trans hv, (hb.frozen (p := ⟨g, j, none⟩) h1).trans hf⟩
  refine ⟨h0, by simp [World.setCell]; omega, fun j hj => ?_, upd G k g', fun i j hij hj => ?_, fun i r' hi hr' => ?_⟩
  · obtain ⟨v, hv, hf⟩ := h2' j hj
    simp only [World.frozen?_setCell]
    exact ⟨_, cell_set (cell_set (cell_set hv)), hf⟩
  · by_cases e : j = k
    · subst e
      rw [upd_same, upd_other (by omega)]
      by_cases hi : i < rs.length
      · obtain ⟨_, _, o, _⟩ := h3 i rs[i] hij (List.getElem?_eq_getElem hi)
        have := o.1
        omega
      · exact absurd (List.getElem?_eq_some_iff.1 hr).1 (by omega)
    · rw [upd_other e, upd_other (by omega)]
      exact hG i j hij (by omega)
  · by_cases e : i = k
    · subst e
      rw [upd_same]
      rw [hr] at hr'
      injection hr' with hr'
      subst hr'
      obtain ⟨v0, a0, b0⟩ := h2' (i * 3) (by omega)
      obtain ⟨v1, a1, b1⟩ := h2' (i * 3 + 1) (by omega)
      obtain ⟨v2, a2, b2⟩ := h2' (i * 3 + 2) (by omega)
      refine ⟨by omega, by omega, far ho (by omega), RowV.of_own (far ho (by omega)) hv hv.2.2.1, ?_, ?_, ?_⟩
      · rw [cell_set (cell_set (cell_set a0)), if_neg (by omega), if_neg (by omega), if_pos rfl]
      · rw [cell_set (cell_set (cell_set a1)), if_neg (by omega), if_pos rfl]
      · rw [cell_set (cell_set (cell_set a2)), if_pos rfl]
    · rw [upd_other e]
      obtain ⟨x, y, o, a, b, c, d⟩ := h3 i r' (by omega) hr'
      have o' := o.below hb
      refine ⟨x, y, far o' y, RowV.of_own (far o' y) a a.2.2.1, ?_, ?_, ?_⟩
      · rw [cell_set (cell_set (cell_set ((hb.cell (p := ⟨g, _, none⟩) h1).trans b))), if_neg (by omega), if_neg (by omega), if_neg (by omega)]
      · rw [cell_set (cell_set (cell_set ((hb.cell (p := ⟨g, _, none⟩) h1).trans c))), if_neg (by omega), if_neg (by omega), if_neg (by omega)]
      · rw [cell_set (cell_set (cell_set ((hb.cell (p := ⟨g, _, none⟩) h1).trans d))), if_neg (by omega), if_neg (by omega), if_neg (by omega)]
/-- make: nothing is filled yet. -/
theorem OwnR.made (w : World) (e : TypeId) (z : Array Value) (hz : z.size = 3) : OwnR (w.alloc (.cells (madeCells z (n * 3)) e)) w.heap.size w.heap.size n rs 0 := by
  refine ⟨Nat.le_refl _, by simp, fun j hj => ?_, fun _ => 0, fun i j _ h => by omega, fun i r h => by omega⟩
  have hs : j < (madeCells z (n * 3)).size := by rw [size_madeCells]; exact hj
  exact ⟨(madeCells z (n * 3))[j], by rw [World.cell?_alloc_new]; exact Array.getElem?_eq_getElem hs, by simp⟩
theorem OwnR.rows (h : OwnR w lo g n rs n) (hn : rs.length = n) : RowS w (some ⟨g, 0, none⟩) n rs := by
  obtain ⟨h0, h1, h2, G, hG, h3⟩ := h
  refine ⟨hn, fun _ => ⟨g, 0, rfl, fun i r hr => ?_⟩⟩
  have hi : i < rs.length := (List.getElem?_eq_some_iff.1 hr).1
  obtain ⟨x, y, o, a, b, c, d⟩ := h3 i r (by omega) hr
  exact ⟨_, _, a, by simpa using b, by simpa using c, by simpa using d⟩
end

/-! ### make -/
theorem run_makeN {P : Program} (t e : TypeId) (i : TypeInfo) (z : Value) (ht : P.underlying t = some (.slice e)) (hi : P.info? e = some i) (hz : i.zero = some z)
    (n : Nat) (hbytes : i.bytes * n ≤ 281474976710656) (h63 : n ≤ 9223372036854775807) (w : World) :
    (Instr.makeSlice t (.int .i64 (n : Int)) (.int .i64 (n : Int))).run P w = .ok (.slice (some ⟨w.heap.size, 0, none⟩) n n) (w.alloc (.cells (madeCells z.cells (n * i.size)) e)) := by
  have hb : (i.bytes : Int) * (n : Int) ≤ 281474976710656 := by
    have h : ((i.bytes * n : Nat) : Int) ≤ 281474976710656 := by omega
    rwa [Int.natCast_mul] at h
  have hr := run_make (P := P) w t e i z ht hi hz .i64 .i64 n n (by omega) (by omega) hb (by omega)
  simp only [Int.toNat_natCast] at hr
  exact hr
theorem OwnI.made (w : World) (e : TypeId) (n : Nat) : OwnI (w.alloc (.cells (madeCells #[Value.int .i64 0] n) e)) w.heap.size (List.replicate n 0) := by
  refine ⟨by simp, fun i x hx => ?_⟩
  have hi : i < n := by
    have := (List.getElem?_eq_some_iff.1 hx).1
    simpa using this
  rw [List.getElem?_replicate, if_pos hi] at hx
  injection hx with hx
  subst hx
  refine ⟨?_, by simp⟩
  rw [World.cell?_alloc_new]
  have hl := toList_madeCells_one (.int .i64 0) n
  have : (madeCells #[Value.int .i64 0] n)[i]? = some (.int .i64 0) := by
    rw [← Array.getElem?_toList, hl, List.getElem?_replicate, if_pos hi]
  exact this
end Go.Proofs.Ytpcfnlffamgdaab
