
/-
  Columns: costs with lists of stops, as plain data.
-/
import Derived.Test.YtppdomoifnokpaaVa
import Derived.Test.YtppdomoifnokpaaKn
set_option linter.unusedSimpArgs false
set_option linter.unusedVariables false
namespace Go.Proofs.Ytppdomoifnokpaa
open Go.RowKit

structure PCol where
  c : Int
  s : List Int
/-- A slice of columns. -/
def ColS (w : World) (A : Option Addr) (n : Nat) (cs : List PCol) : Prop :=
  cs.length = n ∧ (0 < n → ∃ b off : Nat, A = some ⟨b, off, none⟩ ∧ ∀ i c, cs[i]? = some c → ∃ (A' : Option Addr) (c' : Nat), Ints w A' c.s.length c.s ∧ c.s.length ≤ c' ∧ c' ≤ maxLen ∧ I64 c.c ∧
    w.cell? ⟨b, off + i * 2, none⟩ = some (.int .i64 c.c) ∧ w.cell? ⟨b, off + i * 2 + 1, none⟩ = some (.slice A' c.s.length c'))
section
variable {w w' : World} {A : Option Addr} {n k : Nat} {cs : List PCol}
theorem ColS.at_ (h : ColS w A n cs) (hk : k < n) : ∃ (b off : Nat) (c : PCol) (A' : Option Addr) (c' : Nat), A = some ⟨b, off, none⟩ ∧ b < w.heap.size ∧ cs[k]? = some c ∧ Ints w A' c.s.length c.s ∧ c.s.length ≤ c' ∧ c' ≤ maxLen ∧ I64 c.c ∧
    w.cell? ⟨b, off + k * 2, none⟩ = some (.int .i64 c.c) ∧ w.cell? ⟨b, off + k * 2 + 1, none⟩ = some (.slice A' c.s.length c') := by
  obtain ⟨hl, hc⟩ := h
  obtain ⟨b, off, e, hcell⟩ := hc (by omega)
  have hx : cs[k]? = some cs[k] := List.getElem?_eq_getElem (by omega)
  obtain ⟨A', c', h1, h2, h3, h4, h5, h6⟩ := hcell k _ hx
  exact ⟨b, off, cs[k], A', c', e, blk_lt h5, hx, h1, h2, h3, h4, h5, h6⟩
theorem ColS.below (h : ColS w A n cs) (hb : Below w.heap.size w w') : ColS w' A n cs := by
  obtain ⟨hl, hc⟩ := h
  refine ⟨hl, fun hn => ?_⟩
  obtain ⟨b, off, e, hcell⟩ := hc hn
  refine ⟨b, off, e, fun i c hx => ?_⟩
  obtain ⟨A', c', h1, h2, h3, h4, h5, h6⟩ := hcell i c hx
  exact ⟨A', c', h1.below hb, h2, h3, h4, (hb.cell (p := ⟨b, _, none⟩) (blk_lt h5)).trans h5, (hb.cell (p := ⟨b, _, none⟩) (blk_lt h6)).trans h6⟩
theorem ColS.len (h : ColS w A n cs) : cs.length = n := h.1
theorem ColS.nil (w : World) (A : Option Addr) : ColS w A 0 [] := ⟨rfl, fun h => absurd h (by omega)⟩
end
def SmallC (cs : List PCol) : Prop := cs.length ≤ 1048576 ∧ ∀ c ∈ cs, c.s.length ≤ 1048576
theorem SmallC.at_ {cs : List PCol} {k : Nat} {c : PCol} (h : SmallC cs) (hx : cs[k]? = some c) : c.s.length ≤ 1048576 := h.2 c (List.mem_of_getElem? hx)

/-- Block g holds n columns; those before k are the columns cs, each with its stops in a block of its own (G i), from block lo on. -/
def OwnC (w : World) (lo g n : Nat) (cs : List PCol) (k : Nat) : Prop :=
  lo ≤ g ∧ g < w.heap.size ∧ (∀ j, j < n * 2 → ∃ v, w.cell? ⟨g, j, none⟩ = some v ∧ w.frozen? ⟨g, j, none⟩ = false) ∧
    ∃ G : Nat → Nat, (∀ i j, i < j → j < k → G i ≠ G j) ∧ ∀ i c, i < k → cs[i]? = some c → lo ≤ G i ∧ G i ≠ g ∧ OwnI w (G i) c.s ∧ (∀ x ∈ c.s, I64 x) ∧ c.s.length ≤ maxLen ∧ I64 c.c ∧
      w.cell? ⟨g, i * 2, none⟩ = some (.int .i64 c.c) ∧ w.cell? ⟨g, i * 2 + 1, none⟩ = some (.slice (some ⟨G i, 0, none⟩) c.s.length c.s.length)
section
variable {w w' : World} {lo g n k : Nat} {cs : List PCol}
theorem OwnC.keep (h : OwnC w lo g n cs k) (hs : w.heap.size ≤ w'.heap.size) (hk : ∀ j, lo ≤ j → j < w.heap.size → w'.heap[j]? = w.heap[j]?) : OwnC w' lo g n cs k := by
  obtain ⟨h0, h1, h2, G, hG, h3⟩ := h
  have hg := hk g h0 h1
  refine ⟨h0, by omega, fun j hj => ?_, G, hG, fun i c hi hc => ?_⟩
  · obtain ⟨v, hv, hf⟩ := h2 j hj
    exact ⟨v, (World.cell?_of_block (w := w) (a := ⟨g, j, none⟩) hg).trans hv, (World.frozen?_of_block (w := w) (a := ⟨g, j, none⟩) hg).trans hf⟩
  · obtain ⟨x, y, o, a, b, d, e, f⟩ := h3 i c hi hc
    exact ⟨x, y, o.keep hs (hk _ x o.1), a, b, d, (World.cell?_of_block (w := w) (a := ⟨g, _, none⟩) hg).trans e, (World.cell?_of_block (w := w) (a := ⟨g, _, none⟩) hg).trans f⟩
theorem OwnC.below (h : OwnC w lo g n cs k) (hb : Below w.heap.size w w') : OwnC w' lo g n cs k := h.keep hb.size fun j _ hj => hb.block j hj
theorem OwnC.room (h : OwnC w lo g n cs k) {j : Nat} (hj : j < n * 2) : ∃ v, w.cell? ⟨g, j, none⟩ = some v ∧ w.frozen? ⟨g, j, none⟩ = false := h.2.2.1 j hj
theorem OwnC.made (w : World) (e : TypeId) (z : Array Value) (n : Nat) (cs : List PCol) (hz : z.size = 2) : OwnC (w.alloc (.cells (madeCells z (n * 2)) e)) w.heap.size w.heap.size n cs 0 := by
  refine ⟨Nat.le_refl _, by simp, fun j hj => ?_, fun _ => 0, fun i j _ h => by omega, fun i c h => by omega⟩
  have hs : j < (madeCells z (n * 2)).size := by rw [size_madeCells]; exact hj
  exact ⟨(madeCells z (n * 2))[j], by rw [World.cell?_alloc_new]; exact Array.getElem?_eq_getElem hs, by simp⟩
theorem OwnC.store {w0 : World} (h : OwnC w0 lo g n cs k) (hb : Below w0.heap.size w0 w) {c : PCol} (hc : cs[k]? = some c) (hk : k < n) {g' : Nat} (ho : OwnI w g' c.s) (hi : ∀ x ∈ c.s, I64 x) (hm : c.s.length ≤ maxLen) (hcc : I64 c.c) (hnew : w0.heap.size ≤ g') :
    OwnC ((w.setCell ⟨g, k * 2, none⟩ (.int .i64 c.c)).setCell ⟨g, k * 2 + 1, none⟩ (.slice (some ⟨g', 0, none⟩) c.s.length c.s.length)) lo g n cs (k + 1) := by
  obtain ⟨h0, h1, h2, G, hG, h3⟩ := h
  have hsz := hb.size
  have far : ∀ {x : Nat} {ys : List Int}, OwnI w x ys → x ≠ g → OwnI ((w.setCell ⟨g, k * 2, none⟩ (.int .i64 c.c)).setCell ⟨g, k * 2 + 1, none⟩ (.slice (some ⟨g', 0, none⟩) c.s.length c.s.length)) x ys :=
    fun {x ys} o e => (o.far (by simp; omega) _).far (by simp; omega) _
  have h2' : ∀ j, j < n * 2 → ∃ v, w.cell? ⟨g, j, none⟩ = some v ∧ w.frozen? ⟨g, j, none⟩ = false := fun j hj => by
    obtain ⟨v, hv, hf⟩ := h2 j hj
    exact ⟨v, (hb.cell (p := ⟨g, j, none⟩) h1).trans hv, (hb.frozen (p := ⟨g, j, none⟩) h1).trans hf⟩
  refine ⟨h0, by simp [World.setCell]; omega, fun j hj => ?_, upd G k g', fun i j hij hj => ?_, fun i c' hi' hc' => ?_⟩
  · obtain ⟨v, hv, hf⟩ := h2' j hj
    simp only [World.frozen?_setCell]
    exact ⟨_, cell_set (cell_set hv), hf⟩
  · by_cases e : j = k
    · subst e
      rw [upd_same, upd_other (by omega)]
      by_cases hi : i < cs.length
      · obtain ⟨_, _, o, _⟩ := h3 i cs[i] hij (List.getElem?_eq_getElem hi)
        have := o.1
        omega
      · exact absurd (List.getElem?_eq_some_iff.1 hc).1 (by omega)
    · rw [upd_other e, upd_other (by omega)]
      exact hG i j hij (by omega)
  · by_cases e : i = k
    · subst e
      rw [upd_same]
      rw [hc] at hc'
      injection hc' with hc'
      subst hc'
      obtain ⟨v0, a0, b0⟩ := h2' (i * 2) (by omega)
      obtain ⟨v1, a1, b1⟩ := h2' (i * 2 + 1) (by omega)
      refine ⟨by omega, by omega, far ho (by omega), hi, hm, hcc, ?_, ?_⟩
      · rw [cell_set (cell_set a0), if_neg (by omega), if_pos rfl]
      · rw [cell_set (cell_set a1), if_pos rfl]
    · rw [upd_other e]
      obtain ⟨x, y, o, a, b, d, e1, f1⟩ := h3 i c' (by omega) hc'
      refine ⟨x, y, far (o.below hb) y, a, b, d, ?_, ?_⟩
      · rw [cell_set (cell_set ((hb.cell (p := ⟨g, _, none⟩) h1).trans e1)), if_neg (by omega), if_neg (by omega)]
      · rw [cell_set (cell_set ((hb.cell (p := ⟨g, _, none⟩) h1).trans f1)), if_neg (by omega), if_neg (by omega)]
theorem OwnC.cols (h : OwnC w lo g n cs n) (hn : cs.length = n) : ColS w (some ⟨g, 0, none⟩) n cs := by
  obtain ⟨h0, h1, h2, G, hG, h3⟩ := h
  refine ⟨hn, fun _ => ⟨g, 0, rfl, fun i c hc => ?_⟩⟩
  have hi : i < cs.length := (List.getElem?_eq_some_iff.1 hc).1
  obtain ⟨x, y, o, a, b, d, e, f⟩ := h3 i c (by omega) hc
  exact ⟨_, _, o.ints a, Nat.le_refl _, b, d, by simpa using e, by simpa using f⟩
end

/-! ### Valid columns -/
def colOK (n : Int) (c : PCol) : Bool := inB c.c 0 9999 && (decide (c.s.length ≠ 0) && ascB c.s n)
def vCols (n : Int) (cs : List PCol) : Bool := inB n 0 5 && (decide (cs.length ≤ 31) && cs.all (colOK n))
theorem colOK_1 {n : Int} {c : PCol} (h : inB c.c 0 9999 = false) : colOK n c = false := by simp [colOK, h]
theorem colOK_2 {n : Int} {c : PCol} (h : c.s.length = 0) : colOK n c = false := by simp [colOK, h]
theorem colOK_3 {n : Int} {c : PCol} (h : ascB c.s n = false) : colOK n c = false := by simp [colOK, h]
theorem colOK_4 {n : Int} {c : PCol} (h1 : inB c.c 0 9999 = true) (h2 : ¬ c.s.length = 0) (h3 : ascB c.s n = true) : colOK n c = true := by simp only [colOK, h1, h3, Bool.true_and, Bool.and_true, decide_eq_true_eq]; exact h2
theorem vCols_1 {n : Int} {cs : List PCol} (h : inB n 0 5 = false) : vCols n cs = false := by simp [vCols, h]
theorem vCols_2 {n : Int} {cs : List PCol} (h : ¬ cs.length ≤ 31) : vCols n cs = false := by simp [vCols, h]
theorem vCols_3 {n : Int} {cs : List PCol} (h : cs.all (colOK n) = false) : vCols n cs = false := by simp [vCols, h]
theorem vCols_4 {n : Int} {cs : List PCol} (h1 : inB n 0 5 = true) (h2 : cs.length ≤ 31) (h3 : cs.all (colOK n) = true) : vCols n cs = true := by simp [vCols, h1, h2, h3]
theorem vCols_facts {n : Int} {cs : List PCol} (h : vCols n cs = true) : (0 ≤ n ∧ n ≤ 5) ∧ cs.length ≤ 31 ∧ ∀ c ∈ cs, (0 ≤ c.c ∧ c.c ≤ 9999) ∧ ascB c.s n = true := by
  simp only [vCols, Bool.and_eq_true, decide_eq_true_eq] at h
  refine ⟨inB_iff.1 h.1, h.2.1, fun c hc => ?_⟩
  have := List.all_eq_true.1 h.2.2 c hc
  simp only [colOK, Bool.and_eq_true] at this
  exact ⟨inB_iff.1 this.1, this.2.2⟩
def vDual (n : Int) (ds : List Int) : Bool := decide ((ds.length : Int) = n) && vInts ds (-999) 999
def redV (n : Int) (cs : List PCol) (ds : List Int) : List Int := if vCols n cs && vDual n ds then cs.map (fun c => wrap64 (c.c - sumW ds c.s)) else []
theorem redV_1 {n : Int} {cs : List PCol} {ds : List Int} (h : vCols n cs = false) : redV n cs ds = [] := by simp [redV, h]
theorem redV_2 {n : Int} {cs : List PCol} {ds : List Int} (h : vDual n ds = false) : redV n cs ds = [] := by simp [redV, h]
theorem redV_3 {n : Int} {cs : List PCol} {ds : List Int} (h1 : vCols n cs = true) (h2 : vDual n ds = true) : redV n cs ds = cs.map (fun c => wrap64 (c.c - sumW ds c.s)) := by simp [redV, h1, h2]
theorem wrap64_I64 (x : Int) : I64 (wrap64 x) := by unfold I64 wrap64; omega
theorem redV_bd (n : Int) (cs : List PCol) (ds : List Int) : (∀ x ∈ redV n cs ds, I64 x) ∧ (redV n cs ds).length ≤ 31 := by
  unfold redV
  split
  · rename_i h
    simp only [Bool.and_eq_true] at h
    refine ⟨fun x hx => ?_, by rw [List.length_map]; exact (vCols_facts h.1).2.1⟩
    obtain ⟨c, _, rfl⟩ := List.mem_map.1 hx
    exact wrap64_I64 _
  · simp
end Go.Proofs.Ytppdomoifnokpaa
