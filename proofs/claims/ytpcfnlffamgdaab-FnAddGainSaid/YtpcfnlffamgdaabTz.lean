
/-
  The helpers of the exact laws on lists of rows, problems and boxes.
-/
import Derived.Test.YtpcfnlffamgdaabTy
set_option linter.unusedSimpArgs false
set_option linter.unusedVariables false
namespace Go.Proofs.Ytpcfnlffamgdaab
open Go.RowKit

/-- What is left of a size, or -1 where it is used up. -/
def Sz (left v : Int) (P : Prop) : Prop := v = -1 ∨ (0 ≤ v ∧ v ≤ left ∧ P)
theorem szI_Sz {left : Int} {n : Nat} {P : Prop} (h1 : left ≤ 1048576) (hP : n ≤ 1048576 → P) : Sz left (szI left n) P := by
  unfold szI
  split
  · exact .inl rfl
  · exact .inr ⟨by omega, by omega, hP (by omega)⟩

def AllSmall (rs : List PRow) (k : Nat) : Prop := ∀ i r, i < k → rs[i]? = some r → r.cs.length ≤ 1048576
theorem AllSmall.end_ {rs : List PRow} {k : Nat} (h : AllSmall rs k) (hk : rs.length ≤ k) (hn : rs.length ≤ 1048576) : SmallR rs := ⟨hn, fun r hr => by
  obtain ⟨i, hi⟩ := List.mem_iff_getElem?.1 hr
  have hlt : i < rs.length := (List.getElem?_eq_some_iff.1 hi).1
  exact h i r (by omega) hi⟩
theorem AllSmall.step {rs : List PRow} {k : Nat} {r : PRow} (h : AllSmall rs k) (hr : rs[k]? = some r) (hs : r.cs.length ≤ 1048576) : AllSmall rs (k + 1) := fun i r' hi hr' => by
  by_cases e : i = k
  · subst e
    rw [hr] at hr'
    injection hr' with hr'
    subst hr'
    exact hs
  · exact h i r' (by omega) hr'
theorem AllSmall.zero (rs : List PRow) : AllSmall rs 0 := fun i r hi => by omega

def SzRowsEnd (left : Int) (rs : List PRow) (w : World) (e : Ending) (w' : World) : Prop := ∃ v, Sz left v (SmallR rs) ∧ e = .returned (.int .i64 v) ∧ Below w.heap.size w w'
theorem info_row : (Try.prog.info? 73).map (fun i => (i.zero, i.size, i.bytes)) = some (some (.agg #[.slice none 0 0, .int .i64 0, .int .i64 0]), 3, 40) := by kernel_rfl

def ToRowsEnd (n : Nat) (rs : List PRow) (w : World) (e : Ending) (w' : World) : Prop :=
  ∃ g, e = .returned (.slice (some ⟨g, 0, none⟩) n n) ∧ OwnR w' w.heap.size g n rs n ∧ RowS w' (some ⟨g, 0, none⟩) n rs ∧ Below w.heap.size w w'
end Go.Proofs.Ytpcfnlffamgdaab
