
/-
  Negated rows, more: NegateRow in the program.
-/
import Derived.Test.YtpcfnlffamgdaabNh
set_option linter.unusedSimpArgs false
set_option linter.unusedVariables false
namespace Go.Proofs.Ytpcfnlffamgdaab
open Go.RowKit

/-- After k rounds over zeros. -/
def zegK (cs : List Int) (k : Nat) : List Int := (cs.take k).map (fun x => -x) ++ List.replicate (cs.length - k) 0
theorem zegK_0 (cs : List Int) : zegK cs 0 = List.replicate cs.length 0 := by simp [zegK]
theorem zegK_end (cs : List Int) : zegK cs cs.length = negK cs cs.length := by simp [zegK, negK]
theorem zegK_at {cs : List Int} {k : Nat} (h : k < cs.length) : (zegK cs k)[k]? = some 0 := by
  have hl : ((cs.take k).map (fun x => -x)).length = k := by simp; omega
  unfold zegK
  rw [List.getElem?_append_right (by omega), hl, Nat.sub_self, List.getElem?_replicate, if_pos (by omega)]
theorem zegK_set {cs : List Int} {k : Nat} {x : Int} (h : cs[k]? = some x) : (zegK cs k).set k (-x) = zegK cs (k + 1) := by
  have hk : k < cs.length := (List.getElem?_eq_some_iff.1 h).1
  have hl : ((cs.take k).map (fun x => -x)).length = k := by simp; omega
  have e : cs.length - k = (cs.length - (k + 1)) + 1 := by omega
  unfold zegK
  rw [e, List.replicate_succ, List.set_append, hl, if_neg (Nat.lt_irrefl _), Nat.sub_self, List.set_cons_zero, List.take_add_one, h, List.map_append]
  simp
def CutM (b0 c : Nat) (r : PRow) (w : World) (s3 : Value) (wx : World) : Prop :=
  ∃ g h : Nat, s3 = .pointer (some ⟨g, 0, none⟩) ∧ (g ≠ h ∧ w.heap.size + 1 < g ∧ w.heap.size + 1 < h ∧ h < wx.heap.size) ∧ Box wx g #[.slice (some ⟨h, 0, none⟩) r.cs.length r.cs.length, .int .i64 r.s, .int .i64 (-r.b)] ∧ OwnI wx h (List.replicate r.cs.length 0) ∧ Box wx w.heap.size #[.slice (some ⟨b0, 0, none⟩) r.cs.length c, .int .i64 r.s, .int .i64 r.b] ∧ Box wx (w.heap.size + 1) #[.slice none 0 0, .int .i64 0, .int .i64 0] ∧ Below w.heap.size w wx

/-- The result is a row of the call's own, with its capacity. -/
def RowEndC (L : PRow) (w : World) (e : Ending) (w' : World) : Prop :=
  ∃ (A : Option Addr) (c : Nat), (L.cs.length ≤ c ∧ c ≤ maxLen) ∧ e = .returned (.agg #[.slice A L.cs.length c, .int .i64 L.s, .int .i64 L.b]) ∧ OwnS w' w.heap.size w'.heap.size A L.cs ∧ Below w.heap.size w w'
theorem RowEndC.nil {L : PRow} {w w' : World} (h : L = ⟨[], 0, 0⟩) (hb : Below w.heap.size w w') : RowEndC L w (.returned (.agg #[.slice none 0 0, .int .i64 0, .int .i64 0])) w' := by
  subst h; exact ⟨none, 0, ⟨Nat.le_refl _, Nat.zero_le _⟩, rfl, OwnS.nil _ _ _ _, hb⟩
theorem RowEndC.neg {r : PRow} {m : Int} {w w' : World} {g : Nat} {s : Int} (hv : vRow r m = true) (hs : negS r.s = s) (ho : OwnI w' g (negK r.cs r.cs.length)) (h1 : w.heap.size ≤ g) (h2 : g < w'.heap.size) (hb : Below w.heap.size w w') :
    RowEndC (negR r) w (.returned (.agg #[.slice (some ⟨g, 0, none⟩) r.cs.length r.cs.length, .int .i64 s, .int .i64 (-r.b)])) w' := by
  subst hs
  rw [negK_end] at ho
  have hl := (vRow_in hv).1
  refine ⟨_, r.cs.length, ⟨by simp [negR], by unfold maxLen; omega⟩, by simp [negR], OwnS.of_own ho h1 h2 (neg_bd hv) (by show (r.cs.map _).length ≤ _; rw [List.length_map]; omega), hb⟩

end Go.Proofs.Ytpcfnlffamgdaab
