
/-
  The library's Delete of one number out of a slice of the call's own.
-/
import Derived.Test.YtfidahpaidkhgabKu
import Derived.Test.YtfidahpaidkhgabQ7
import Derived.Test.YtfidahpaidkhgabKc
import Derived.Shelf.Slices.Delete
set_option linter.unusedSimpArgs false
set_option linter.unusedVariables false
namespace Go.Proofs.Ytfidahpaidkhgab
open Go.RowKit Go.Shelf Go.Sort

def renDel : Ren := ⟨fun | 23 => 84 | n => n, fun | 0 => 0 | 3 => 3 | 4 => 4 | 22 => 23 | n => n, fun n => n⟩
theorem laysDel : Lays2.n23 Try.prog renDel := {
  mixed := by kernel_rfl
  f23 := Try.func84.trans (congrArg some (by kernel_rfl))
  t0 := Try.underlying0
  a0 := Try.isAgg0
  z0 := Try.sizeOf0
  v0 := Try.zeroValue0
  t3 := Try.underlying3
  a3 := Try.isAgg3
  z3 := Try.sizeOf3
  v3 := Try.zeroValue3
  t4 := Try.underlying4
  a4 := Try.isAgg4
  z4 := Try.sizeOf4
  v4 := Try.zeroValue4
  t22 := Try.underlying23
  a22 := Try.isAgg23
  z22 := Try.sizeOf23
  v22 := Try.zeroValue23
  i3 := by kernel_rfl }

theorem OwnI.holds {w : World} {g : Nat} {xs : List Int} (h : OwnI w g xs) : Holds (Value.int .i64) w g 0 xs.toArray := by
  intro j hj
  have hj' : j < xs.length := by simpa using hj
  have := h.2 j xs[j] (List.getElem?_eq_getElem hj')
  rw [Nat.zero_add, getElem!_pos xs.toArray j hj]
  simpa using this
theorem OwnI.of_holds {w : World} {g : Nat} {xs : List Int} (hg : g < w.heap.size) (h : Holds (Value.int .i64) w g 0 xs.toArray) : OwnI w g xs := by
  refine ⟨hg, fun i x hx => ?_⟩
  obtain ⟨hi, e⟩ := List.getElem?_eq_some_iff.1 hx
  have := h i (by simpa using hi)
  rw [Nat.zero_add, getElem!_pos xs.toArray i (by simpa using hi)] at this
  subst e
  simpa using this
theorem OwnI.front {w : World} {g : Nat} {xs ys : List Int} (h : OwnI w g (xs ++ ys)) : OwnI w g xs :=
  ⟨h.1, fun i x hx => h.2 i x (by rw [List.getElem?_append_left (List.getElem?_eq_some_iff.1 hx).1]; exact hx)⟩
theorem turn_putRow (w : World) (q g : Nat) (d : Array Int) : Turn g (g + 1) w (putRow (Value.int .i64) (Sort.ahead w q) g 0 d) := by
  refine ⟨rfl, rfl, rfl, by rw [size_putRow]; exact Nat.le_refl _, fun b _ hn => ?_⟩
  show (Array.modify w.heap g _)[b]? = _
  rw [Array.getElem?_modify, if_neg (by omega)]
/-- The list without the number at place i. -/
def outAt (xs : List Int) (i : Nat) : List Int := xs.take i ++ xs.drop (i + 1)
theorem outAt_len {xs : List Int} {i : Nat} (h : i < xs.length) : (outAt xs i).length = xs.length - 1 := by
  unfold outAt; rw [List.length_append, List.length_take, List.length_drop]; omega
theorem outAt_mem {xs : List Int} {i : Nat} : ∀ x ∈ outAt xs i, x ∈ xs := by
  intro x hx
  rcases List.mem_append.1 hx with h | h
  · exact List.mem_of_mem_take h
  · exact List.mem_of_mem_drop h
theorem lib_Delete (g n c i : Nat) (a b : Int) (xs : List Int) (w : World) (ho : OwnI w g xs) (hl : xs.length = n) (hc : n ≤ c) (hm : c ≤ maxLen) (hi : i < n) (ha : a = (i : Int)) (hb : b = ((i + 1 : Nat) : Int)) :
    Calls Try.prog 84 #[.slice (some ⟨g, 0, none⟩) n c, .int .i64 a, .int .i64 b] w fun e w' => e = .returned (.slice (some ⟨g, 0, none⟩) (n - 1) c) ∧ OwnI w' g (outAt xs i) ∧ Turn g (g + 1) w w' := by
  subst ha hb hl
  unfold maxLen at hm
  refine (Any.slices_Delete_int laysDel g 0 c i (i + 1) xs w ho.holds hc (by omega) (by omega) (by omega)).mono ?_
  rintro e w' ⟨rfl, q, rfl⟩
  refine ⟨by rw [show i + 1 - i = 1 by omega], ?_, turn_putRow w q g _⟩
  have hlen : (xs.take i ++ xs.drop (i + 1) ++ List.replicate (i + 1 - i) (0 : Int)).length = xs.length := by
    rw [List.length_append, List.length_append, List.length_take, List.length_drop, List.length_replicate]; omega
  have H := holds_putRow (Value.int .i64) (Sort.ahead w q) g 0 xs.toArray (xs.take i ++ xs.drop (i + 1) ++ List.replicate (i + 1 - i) (0 : Int)).toArray (holds_ahead _ _ _ _ _ _ ho.holds) (by simpa using hlen)
  exact (OwnI.of_holds (by rw [size_putRow]; exact ho.1) H).front
end Go.Proofs.Ytfidahpaidkhgab
