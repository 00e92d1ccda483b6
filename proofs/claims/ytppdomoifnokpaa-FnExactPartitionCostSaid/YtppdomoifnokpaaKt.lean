
/-
  Tables of values: what the program's functions and the model's answer.
-/
import Derived.Test.YtppdomoifnokpaaKv
import Derived.Test.YtppdomoifnokpaaVi
import Derived.BigRegion
set_option linter.unusedSimpArgs false
set_option linter.unusedVariables false
namespace Go.Proofs.Ytppdomoifnokpaa
open Go.RowKit

theorem kin_next1 {t : List Int} {C W j r q : Nat} {v p s : Int} (hr : r + j = C) (hq : q + W = r) (hp : p = (kin t C W v j).getD r 0) (hs : s = (kin t C W v j).getD q 0) (h : p < wrap64 (s + v)) : (kin t C W v j).set r (wrap64 (s + v)) = kin t C W v (j + 1) := by
  have e1 : C - j = r := by omega
  have e2 : r - W = q := by omega
  show _ = kstep _ _ _ _
  unfold kstep
  rw [e1, e2, ← hp, ← hs, Int.max_def, if_pos (by omega)]
theorem kin_next2 {t : List Int} {C W j r q : Nat} {v p s : Int} (hr : r + j = C) (hq : q + W = r) (hp : p = (kin t C W v j).getD r 0) (hs : s = (kin t C W v j).getD q 0) (h : ¬ p < wrap64 (s + v)) : (kin t C W v j).set r p = kin t C W v (j + 1) := by
  have e1 : C - j = r := by omega
  have e2 : r - W = q := by omega
  show _ = kstep _ _ _ _
  unfold kstep
  rw [e1, e2, ← hp, ← hs, Int.max_def]
  split
  · congr 1; omega
  · rfl
theorem kout_next {vs ws : List Int} {C k j W : Nat} {v : Int} (hx : ws[k]? = some (W : Int)) (hv : vs[k]? = some v) (hj : j = C + 1 - W) : kin (kout vs ws C k) C W v j = kout vs ws C (k + 1) := by
  show _ = kin _ _ _ _ _
  rw [getD_of hx, getD_of hv, Int.toNat_natCast, hj]

end Go.Proofs.Ytppdomoifnokpaa
