
/-
  The numbers of the violated rows: what the program's function and the model's return.
-/
import Derived.Test.YtangfmmjpomlgaaPe
import Derived.Test.YtangfmmjpomlgaaM3
set_option linter.unusedSimpArgs false
set_option linter.unusedVariables false
namespace Go.Proofs.Ytangfmmjpomlgaa
open Go.RowKit

def violV (p : PProb) (xs : List Int) : List Int := if vProb p && isPt p.uppers xs then viol p xs else []
theorem violV_1 {p : PProb} {xs : List Int} (h : vProb p = false) : violV p xs = [] := by simp [violV, h]
theorem violV_2 {p : PProb} {xs : List Int} (h : isPt p.uppers xs = false) : violV p xs = [] := by simp [violV, h]
theorem violV_3 {p : PProb} {xs : List Int} (h1 : vProb p = true) (h2 : isPt p.uppers xs = true) : violV p xs = viol p xs := by simp [violV, h1, h2]
/-- The result is a slice of the call's own. -/
def SliceEnd (L : List Int) (w : World) (e : Ending) (w' : World) : Prop := ∃ (A : Option Addr) (c : Nat), e = .returned (.slice A L.length c) ∧ OwnS w' w.heap.size w'.heap.size A L ∧ Below w.heap.size w w'
def ViolEnd (p : PProb) (xs : List Int) (w : World) (e : Ending) (w' : World) : Prop := SliceEnd (violV p xs) w e w'
theorem SliceEnd.nil {L : List Int} {w w' : World} (h : L = []) (hb : Below w.heap.size w w') : SliceEnd L w (.returned (.slice none 0 0)) w' := by subst h; exact ⟨none, 0, rfl, OwnS.nil _ _ _ _, hb⟩
theorem ViolEnd.nil {p : PProb} {xs : List Int} {w w' : World} (h : violV p xs = []) (hb : Below w.heap.size w w') : ViolEnd p xs w (.returned (.slice none 0 0)) w' := SliceEnd.nil h hb
theorem SliceEnd.grow {L : List Int} {w w' : World} {B : Nat} {e : TypeId} {v : Value} (h : Grow w' B e v L) (hB : w.heap.size ≤ B) (hr : ∀ x ∈ L, I64 x) (hl : L.length ≤ 1048576) (hb : Below w.heap.size w w') : SliceEnd L w (.returned v) w' := by
  obtain ⟨A, c, rfl, _, _, _, h5⟩ := h.ints hr
  refine ⟨A, c, rfl, ⟨?_, hr, hl⟩, hb⟩
  rcases h5 with h5 | ⟨g, e1, e2, e3⟩
  · exact .inl h5
  · exact .inr ⟨g, e1, by omega, e3.1, e3⟩
theorem viol_bd {p : PProb} {xs : List Int} (h : p.rows.length ≤ 6) : (∀ x ∈ viol p xs, I64 x) ∧ (viol p xs).length ≤ 1048576 :=
  ⟨fun x hx => by have := idxs_mem x hx; exact ⟨by omega, by omega⟩, by have := idxs_len (fun i => !holdsAt p xs i) p.rows.length; unfold viol; omega⟩
theorem ViolEnd.grow {p : PProb} {xs : List Int} {w w' : World} {B : Nat} {e : TypeId} {v : Value} (E : violV p xs = viol p xs) (h6 : p.rows.length ≤ 6) (h : Grow w' B e v (viol p xs)) (hB : w.heap.size ≤ B) (hb : Below w.heap.size w w') : ViolEnd p xs w (.returned v) w' := by
  unfold ViolEnd; rw [E]
  exact SliceEnd.grow h hB (viol_bd h6).1 (viol_bd h6).2 hb

end Go.Proofs.Ytangfmmjpomlgaa
