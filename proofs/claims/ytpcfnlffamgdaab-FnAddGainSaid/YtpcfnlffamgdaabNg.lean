
/-
  Negated rows: what the program's functions and the model's return.
-/
import Derived.Test.YtpcfnlffamgdaabAp
import Derived.Test.YtpcfnlffamgdaabRw
set_option linter.unusedSimpArgs false
set_option linter.unusedVariables false
namespace Go.Proofs.Ytpcfnlffamgdaab
open Go.RowKit

def negS (s : Int) : Int := if s = 1 then 2 else if s = 2 then 1 else s
def negR (r : PRow) : PRow := ⟨r.cs.map (fun x => -x), negS r.s, -r.b⟩
/-- After k rounds. -/
def negK (cs : List Int) (k : Nat) : List Int := (cs.take k).map (fun x => -x) ++ cs.drop k
theorem negK_0 (cs : List Int) : negK cs 0 = cs := by simp [negK]
theorem negK_end (cs : List Int) : negK cs cs.length = cs.map (fun x => -x) := by simp [negK]
theorem negK_len (cs : List Int) (k : Nat) (h : k ≤ cs.length) : (negK cs k).length = cs.length := by simp [negK]; omega
theorem negK_at {cs : List Int} {k : Nat} {x : Int} (h : cs[k]? = some x) : (negK cs k)[k]? = some x := by
  have hk : k < cs.length := (List.getElem?_eq_some_iff.1 h).1
  have hl : ((cs.take k).map (fun x => -x)).length = k := by simp; omega
  unfold negK
  rw [List.getElem?_append_right (by omega), hl, Nat.sub_self, List.getElem?_drop]
  simpa using h
theorem negK_set {cs : List Int} {k : Nat} {x : Int} (h : cs[k]? = some x) : (negK cs k).set k (-x) = negK cs (k + 1) := by
  have hk : k < cs.length := (List.getElem?_eq_some_iff.1 h).1
  have hl : ((cs.take k).map (fun x => -x)).length = k := by simp; omega
  unfold negK
  rw [List.set_append, hl, if_neg (Nat.lt_irrefl _), Nat.sub_self, List.drop_eq_getElem_cons hk, List.set_cons_zero, List.take_add_one, h, List.map_append]
  simp
theorem vRow_in {r : PRow} {m : Int} (h : vRow r m = true) : r.cs.length ≤ 5 ∧ (∀ x ∈ r.cs, -9 ≤ x ∧ x ≤ 9) ∧ (1 ≤ r.s ∧ r.s ≤ 3) ∧ (-99 ≤ r.b ∧ r.b ≤ 99) := by
  simp only [vRow, Bool.and_eq_true, decide_eq_true_eq] at h
  obtain ⟨h1, h2, h3, h4, h5⟩ := h
  have := inB_iff.1 h1
  refine ⟨by omega, fun x hx => ?_, inB_iff.1 h4, inB_iff.1 h5⟩
  rw [vInts, List.all_eq_true] at h3
  exact inB_iff.1 (h3 x hx)
theorem vRow_pos {r : PRow} {m : Int} (h : vRow r m = true) : 1 ≤ (r.cs.length : Int) := by
  simp only [vRow, Bool.and_eq_true, decide_eq_true_eq] at h
  have := inB_iff.1 h.1
  omega
theorem get_of' {xs : List Int} {k : Nat} (h : k < xs.length) : ∃ x, xs[k]? = some x := ⟨_, List.getElem?_eq_getElem h⟩
theorem neg_bd {r : PRow} {m : Int} (h : vRow r m = true) : ∀ x ∈ r.cs.map (fun x => -x), I64 x := by
  intro x hx
  obtain ⟨y, hy, rfl⟩ := List.mem_map.1 hx
  have := (vRow_in h).2.1 y hy
  exact ⟨by omega, by omega⟩

/-- The result is a row of the call's own. -/
def RowEnd (L : PRow) (w : World) (e : Ending) (w' : World) : Prop :=
  ∃ (A : Option Addr) (c : Nat), e = .returned (.agg #[.slice A L.cs.length c, .int .i64 L.s, .int .i64 L.b]) ∧ OwnS w' w.heap.size w'.heap.size A L.cs ∧ Below w.heap.size w w'

theorem OwnS.get {w : World} {lo hi : Nat} {A : Option Addr} {xs : List Int} (h : OwnS w lo hi A xs) (hn : 0 < xs.length) : ∃ g, A = some ⟨g, 0, none⟩ ∧ lo ≤ g ∧ g < hi ∧ OwnI w g xs := by
  rcases h.1 with h0 | h0
  · subst h0; simp at hn
  · exact h0
theorem OwnS.wide {w : World} {lo hi lo' hi' : Nat} {A : Option Addr} {xs : List Int} (h : OwnS w lo hi A xs) (h1 : lo' ≤ lo) (h2 : hi ≤ hi') : OwnS w lo' hi' A xs := by
  obtain ⟨h0 | ⟨g, e, a, b, o⟩, h4⟩ := h
  · exact ⟨.inl h0, h4⟩
  · exact ⟨.inr ⟨g, e, by omega, by omega, o⟩, h4⟩
theorem Box.mk3 {w : World} {b : Nat} {x y z : Value} (h : b < w.heap.size) (c0 : w.cell? ⟨b, 0, none⟩ = some x) (c1 : w.cell? ⟨b, 1, none⟩ = some y) (c2 : w.cell? ⟨b, 2, none⟩ = some z)
    (f0 : w.frozen? ⟨b, 0, none⟩ = false) (f1 : w.frozen? ⟨b, 1, none⟩ = false) (f2 : w.frozen? ⟨b, 2, none⟩ = false) : Box w b #[x, y, z] := by
  refine ⟨h, fun i v hv => ?_⟩
  have hi : i < 3 := by have := (Array.getElem?_eq_some_iff.1 hv).1; simpa using this
  rcases (by omega : i = 0 ∨ i = 1 ∨ i = 2) with rfl | rfl | rfl <;> simp at hv <;> subst hv
  · exact ⟨c0, f0⟩
  · exact ⟨c1, f1⟩
  · exact ⟨c2, f2⟩
theorem negS_1 {s : Int} (h : s = 1) : negS s = 2 := by simp [negS, h]
theorem negS_2 {s : Int} (h : s = 2) : negS s = 1 := by simp [negS, h]
theorem negS_3 {s : Int} (h1 : ¬ s = 1) (h2 : ¬ s = 2) : negS s = s := by simp [negS, h1, h2]
theorem RowEnd.neg {r : PRow} {m : Int} {w w' : World} {g c : Nat} {s : Int} (hv : vRow r m = true) (hs : negS r.s = s) (ho : OwnI w' g (negK r.cs r.cs.length)) (h1 : w.heap.size ≤ g) (h2 : g < w'.heap.size) (hb : Below w.heap.size w w') :
    RowEnd (negR r) w (.returned (.agg #[.slice (some ⟨g, 0, none⟩) r.cs.length c, .int .i64 s, .int .i64 (-r.b)])) w' := by
  subst hs
  rw [negK_end] at ho
  have hl := (vRow_in hv).1
  exact ⟨_, c, by simp [negR], OwnS.of_own ho h1 h2 (neg_bd hv) (by show (r.cs.map _).length ≤ _; rw [List.length_map]; omega), hb⟩
def CutN (b0 c : Nat) (r : PRow) (w : World) (s3 : Value) (wx : World) : Prop :=
  ∃ g h c1 : Nat, s3 = .pointer (some ⟨g, 0, none⟩) ∧ (g ≠ h ∧ w.heap.size + 1 < g ∧ w.heap.size + 1 < h ∧ h < wx.heap.size) ∧ Box wx g #[.slice (some ⟨h, 0, none⟩) r.cs.length c1, .int .i64 r.s, .int .i64 (-r.b)] ∧ OwnI wx h r.cs ∧ Box wx w.heap.size #[.slice (some ⟨b0, 0, none⟩) r.cs.length c, .int .i64 r.s, .int .i64 r.b] ∧ Box wx (w.heap.size + 1) #[.slice none 0 0, .int .i64 0, .int .i64 0] ∧ Below w.heap.size w wx

end Go.Proofs.Ytpcfnlffamgdaab
