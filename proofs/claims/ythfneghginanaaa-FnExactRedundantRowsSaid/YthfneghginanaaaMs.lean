
/-
  The marks of the exact laws on boxes that are arguments.
-/
import Derived.Test.YthfneghginanaaaMb
set_option linter.unusedSimpArgs false
set_option linter.unusedVariables false
namespace Go.Proofs.Ythfneghginanaaa
open Go.RowKit

set_option maxHeartbeats 1000000 in
theorem laws_markBoxArg (g0 g1 c0 c1 : Nat) (p : PBox) (k : Int) (w : World) (o0 : OwnI w g0 p.low) (o1 : OwnI w g1 p.high) (hg : g0 < g1) (s0 : p.low.length ≤ 1048576) (s1 : p.high.length ≤ 1048576) (k0 : 0 ≤ k) (k1 : k ≤ 17592186044416) :
    Calls Try.prog 20 #[.agg #[.slice (some ⟨g0, 0, none⟩) p.low.length c0, .slice (some ⟨g1, 0, none⟩) p.high.length c1], .int .i64 k] w
      fun e w' => e = .returned (.int .i64 (k + p.low.length + p.high.length)) ∧ Turn g0 (g1 + 1) w w' := by
  have O0 := Lib.hid o0
  have O1 := Lib.hid o1
  have b1 := o1.1
  clear o0 o1
  go_enter Try.func20, Try.ntmps20
  go_wp2_with fail
  refine (markI g0 _ _ p.low k _ (O0.out.alloc _) rfl s0 k0 (by omega)).mono ?_
  rintro e w1 ⟨rfl, ho1, ht1⟩
  have T1 := Lib.hid ht1
  have B1 : Hid (Box w1 w.heap.size _) := Lib.hid (Box.turn T1 (by omega) (Box.new w 45 _ rfl))
  obtain ⟨x0, x1⟩ := Box.facts2 B1.out
  have z1 := ht1.size
  simp at z1
  clear ho1 ht1
  have O1' : Hid (OwnI w1 g1 p.high) := OwnI.turn T1 (by omega) (O1.out.alloc _)
  go_wp2_with fail
  refine (markI g1 _ _ p.high _ _ O1'.out rfl s1 (by omega) (by omega)).mono ?_
  rintro e w2 ⟨rfl, ho2, ht2⟩
  have T2 := Lib.hid ht2
  clear ho2 ht2
  go_wp2_with fail
  go_ret
  exact ⟨rfl, (((Turn.refl g0 (g1 + 1) w).alloc _).trans (T1.out.mono (by omega) (by omega))).trans (T2.out.mono (by omega) (by omega))⟩
end Go.Proofs.Ythfneghginanaaa
