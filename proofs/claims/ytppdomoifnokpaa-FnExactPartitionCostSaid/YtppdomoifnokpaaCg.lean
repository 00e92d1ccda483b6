
/-
  Partitions: how often the chosen columns have each stop; sets of stops as bits.
-/
import Derived.Test.YtppdomoifnokpaaCa
import Derived.Test.YtppdomoifnokpaaLa
set_option linter.unusedSimpArgs false
set_option linter.unusedVariables false
namespace Go.Proofs.Ytppdomoifnokpaa
open Go.RowKit

theorem incP_lo {ps : List Int} {n : Nat} (h : incP ps n = true) (h0 : ∀ x ∈ ps, 0 ≤ x) (hn : n ≤ ps.length) : ∀ {i : Nat}, i < n → (i : Int) ≤ ps.getD i 0
  | 0, hi => h0 _ (List.mem_of_getElem? (getD_mem (by omega)))
  | i + 1, hi => by
    have := incP_lo h h0 hn (i := i) (by omega)
    have b := incP_at h hi
    simp only [Nat.add_sub_cancel] at b
    omega
theorem asc_le {ps : List Int} {m : Nat} (h : ascB ps (m : Int) = true) : ps.length ≤ m := by
  have hm := ascB_mem h
  simp only [ascB, Bool.and_eq_true] at h
  by_cases h0 : ps.length = 0
  · omega
  · have := incP_lo h.1 (fun x hx => (hm x hx).1) (Nat.le_refl _) (i := ps.length - 1) (by omega)
    have := (hm _ (List.mem_of_getElem? (getD_mem (show ps.length - 1 < ps.length by omega)))).2
    omega
theorem incP_lt {ps : List Int} {n : Nat} (h : incP ps n = true) : ∀ {j i : Nat}, i < j → j < n → ps.getD i 0 < ps.getD j 0
  | 0, i, hij, _ => by omega
  | j + 1, i, hij, hj => by
    have b := incP_at h hj
    simp only [Nat.add_sub_cancel] at b
    by_cases e : i = j
    · subst e; omega
    · have := incP_lt h (i := i) (j := j) (by omega) (by omega)
      omega
/-- A stop is not among those before it. -/
theorem asc_new {ps : List Int} {m x : Int} {k : Nat} (h : ascB ps m = true) (hx : ps[k]? = some x) : x ∉ ps.take k := by
  intro hm
  simp only [ascB, Bool.and_eq_true] at h
  obtain ⟨i, hi⟩ := List.mem_iff_getElem?.1 hm
  rw [List.getElem?_take] at hi
  have hk : k < ps.length := (List.getElem?_eq_some_iff.1 hx).1
  by_cases e : i < k
  · rw [if_pos e] at hi
    have := incP_lt h.1 e hk
    rw [getD_of hi, getD_of hx] at this
    omega
  · rw [if_neg e] at hi; cases hi

def stopsAt (cs : List PCol) (p : Int) : List Int := ((cs[p.toNat]?).map PCol.s).getD []
def costAt (cs : List PCol) (p : Int) : Int := ((cs[p.toNat]?).map PCol.c).getD 0
theorem stopsAt_of {cs : List PCol} {p : Int} {d : PCol} (h : cs[p.toNat]? = some d) : stopsAt cs p = d.s := by simp [stopsAt, h]
theorem costAt_of {cs : List PCol} {p : Int} {d : PCol} (h : cs[p.toNat]? = some d) : costAt cs p = d.c := by simp [costAt, h]
/-- How many of the first k chosen columns have stop j. -/
def cnt (cs : List PCol) (ps : List Int) : Nat → Nat → Nat
  | 0, _ => 0
  | k + 1, j => cnt cs ps k j + if (j : Int) ∈ stopsAt cs (ps.getD k 0) then 1 else 0
theorem cnt_le (cs : List PCol) (ps : List Int) (j : Nat) : ∀ k, cnt cs ps k j ≤ k
  | 0 => Nat.le_refl _
  | k + 1 => by
    have := cnt_le cs ps j k
    rw [cnt]
    split <;> omega
theorem cnt_mono (cs : List PCol) (ps : List Int) (j : Nat) {k : Nat} : ∀ {m : Nat}, k ≤ m → cnt cs ps k j ≤ cnt cs ps m j
  | 0, h => by rw [show k = 0 by omega]; exact Nat.le_refl _
  | m + 1, h => by
    by_cases e : k = m + 1
    · subst e; exact Nat.le_refl _
    · have := cnt_mono cs ps j (k := k) (m := m) (by omega)
      rw [cnt]
      omega
def costF (cs : List PCol) (ps : List Int) : Nat → Int
  | 0 => 0
  | k + 1 => costF cs ps k + costAt cs (ps.getD k 0)
theorem costF_bd {cs : List PCol} {ps : List Int} (h : ∀ c ∈ cs, 0 ≤ c.c ∧ c.c ≤ 9999) : ∀ k : Nat, 0 ≤ costF cs ps k ∧ costF cs ps k ≤ 9999 * (k : Int)
  | 0 => ⟨Int.le_refl _, by simp [costF]⟩
  | k + 1 => by
    have := costF_bd (ps := ps) h k
    have hc : 0 ≤ costAt cs (ps.getD k 0) ∧ costAt cs (ps.getD k 0) ≤ 9999 := by
      unfold costAt
      cases hx : cs[(ps.getD k 0).toNat]? with
      | none => simp
      | some d => simpa using h d (List.mem_of_getElem? hx)
    rw [costF]
    omega
/-- n counts, as numbers. -/
def covL (n : Nat) (f : Nat → Nat) : List Int := (List.range n).map fun j => (f j : Int)
theorem covL_len (n : Nat) (f : Nat → Nat) : (covL n f).length = n := by simp [covL]
theorem covL_at {n : Nat} {f : Nat → Nat} {j : Nat} (h : j < n) : (covL n f)[j]? = some (f j : Int) := by simp [covL, h]
theorem covL_set {n : Nat} {f g : Nat → Nat} {j : Nat} (h : j < n) (hj : g j = f j + 1) (ho : ∀ i, i ≠ j → g i = f i) : (covL n f).set j ((f j : Int) + 1) = covL n g := by
  apply List.ext_getElem?
  intro i
  rw [List.getElem?_set]
  by_cases e : j = i
  · subst e
    rw [if_pos rfl, if_pos (by rw [covL_len]; exact h), covL_at h, hj]
    simp
  · rw [if_neg e]
    by_cases hi : i < n
    · rw [covL_at hi, covL_at hi, ho i (by omega)]
    · rw [List.getElem?_eq_none (by rw [covL_len]; omega), List.getElem?_eq_none (by rw [covL_len]; omega)]
theorem covL_congr {n : Nat} {f g : Nat → Nat} (h : ∀ j, f j = g j) : covL n f = covL n g := by rw [show f = g from funext h]
theorem covL_zero (n : Nat) : covL n (fun _ => 0) = List.replicate n 0 := by
  apply List.ext_getElem?
  intro i
  by_cases hi : i < n
  · rw [covL_at hi, List.getElem?_replicate, if_pos hi]; rfl
  · rw [List.getElem?_eq_none (by rw [covL_len]; omega), List.getElem?_eq_none (by simp; omega)]
/-- The counts inside a column: its first q stops are counted. -/
def cntI (cs : List PCol) (ps : List Int) (k : Nat) (s : List Int) (q : Nat) (j : Nat) : Nat := cnt cs ps k j + if (j : Int) ∈ s.take q then 1 else 0
theorem cntI_0 {cs : List PCol} {ps : List Int} {k : Nat} {s : List Int} : cntI cs ps k s 0 = cnt cs ps k := by funext j; simp [cntI]
theorem cntI_end {cs : List PCol} {ps : List Int} {k q : Nat} {s : List Int} (hq : s.length ≤ q) (hs : s = stopsAt cs (ps.getD k 0)) : cntI cs ps k s q = cnt cs ps (k + 1) := by
  funext j
  rw [cnt, cntI, List.take_of_length_le hq, ← hs]
theorem cntI_step {cs : List PCol} {ps : List Int} {k q j : Nat} {s : List Int} (hx : s[q]? = some (j : Int)) (hn : (j : Int) ∉ s.take q) : cntI cs ps k s (q + 1) j = cntI cs ps k s q j + 1 := by
  unfold cntI
  rw [List.take_add_one, hx, if_neg hn, if_pos (by simp)]
theorem cntI_other {cs : List PCol} {ps : List Int} {k q j i : Nat} {s : List Int} (hx : s[q]? = some (j : Int)) (hi : i ≠ j) : cntI cs ps k s (q + 1) i = cntI cs ps k s q i := by
  unfold cntI
  rw [List.take_add_one, hx]
  have : ¬ (i : Int) = (j : Int) := by omega
  simp [this]
theorem cntI_le (cs : List PCol) (ps : List Int) (k : Nat) (s : List Int) (q j : Nat) : cntI cs ps k s q j ≤ k + 1 := by
  have := cnt_le cs ps j k
  unfold cntI
  split <;> omega
def oneB (n : Nat) (cs : List PCol) (ps : List Int) : Bool := vInts (covL n (cnt cs ps ps.length)) 1 1
theorem oneB_iff {n : Nat} {cs : List PCol} {ps : List Int} : oneB n cs ps = true ↔ ∀ j, j < n → cnt cs ps ps.length j = 1 := by
  unfold oneB vInts covL
  rw [List.all_eq_true]
  constructor
  · intro h j hj
    have := h (cnt cs ps ps.length j : Int) (List.mem_map.2 ⟨j, List.mem_range.2 hj, rfl⟩)
    have := inB_iff.1 this
    omega
  · intro h x hx
    obtain ⟨j, hj, rfl⟩ := List.mem_map.1 hx
    rw [h j (List.mem_range.1 hj)]
    rfl
def pCost (n : Int) (cs : List PCol) (ps : List Int) : Int := if vCols n cs && (ascB ps cs.length && oneB n.toNat cs ps) then costF cs ps ps.length else -1
theorem pCost_1 {n : Int} {cs : List PCol} {ps : List Int} (h : vCols n cs = false) : pCost n cs ps = -1 := by simp [pCost, h]
theorem pCost_2 {n : Int} {cs : List PCol} {ps : List Int} (h : ascB ps cs.length = false) : pCost n cs ps = -1 := by simp [pCost, h]
theorem pCost_3 {n : Int} {cs : List PCol} {ps : List Int} (h : oneB n.toNat cs ps = false) : pCost n cs ps = -1 := by simp [pCost, h]
theorem pCost_4 {n : Int} {cs : List PCol} {ps : List Int} (h1 : vCols n cs = true) (h2 : ascB ps cs.length = true) (h3 : oneB n.toNat cs ps = true) : pCost n cs ps = costF cs ps ps.length := by simp [pCost, h1, h2, h3]

/-! ### Sets as bits -/
def setN (s : List Int) : Nat := s.foldl (fun m x => m ||| 2 ^ x.toNat) 0
theorem setN_snoc (s : List Int) (x : Int) : setN (s ++ [x]) = setN s ||| 2 ^ x.toNat := by simp [setN]
theorem setN_step {s : List Int} {k : Nat} {x : Int} (hx : s[k]? = some x) : setN (s.take (k + 1)) = setN (s.take k) ||| 2 ^ x.toNat := by
  rw [List.take_add_one, hx]
  exact setN_snoc _ _
theorem setN_bit (s : List Int) (h : ∀ x ∈ s, 0 ≤ x) (j : Nat) : (setN s).testBit j = decide ((j : Int) ∈ s) := by
  suffices H : ∀ (t : List Int) (m : Nat), (∀ x ∈ t, 0 ≤ x) → (t.foldl (fun m x => m ||| 2 ^ x.toNat) m).testBit j = (m.testBit j || decide ((j : Int) ∈ t)) by
    have := H s 0 h
    simpa [setN] using this
  intro t
  induction t with
  | nil => intro m _; simp
  | cons x t ih =>
    intro m ht
    rw [List.foldl_cons, ih _ (fun y hy => ht y (by simp [hy])), Nat.testBit_or, Nat.testBit_two_pow]
    have hx := ht x (by simp)
    have : decide (x.toNat = j) = decide ((j : Int) = x) := by
      apply decide_eq_decide.2
      omega
    rw [this, Bool.or_assoc]
    congr 1
    simp [Bool.decide_or]
theorem setN_lt (s : List Int) (h : ∀ x ∈ s, 0 ≤ x ∧ x ≤ 4) : setN s < 32 := by
  suffices H : ∀ (t : List Int) (m : Nat), m < 2 ^ 5 → (∀ x ∈ t, 0 ≤ x ∧ x ≤ 4) → t.foldl (fun m x => m ||| 2 ^ x.toNat) m < 2 ^ 5 by
    exact H s 0 (by decide) h
  intro t
  induction t with
  | nil => intro m hm _; simpa using hm
  | cons x t ih =>
    intro m hm ht
    rw [List.foldl_cons]
    refine ih _ (Nat.or_lt_two_pow hm ?_) (fun y hy => ht y (by simp [hy]))
    have := ht x (by simp)
    exact Nat.pow_lt_pow_right (by decide) (by omega)
/-- What is left: the stops that no chosen column has yet. -/
def LeftN (n : Nat) (cs : List PCol) (ps : List Int) (k L : Nat) : Prop := L < 32 ∧ (∀ j, L.testBit j = (decide (j < n) && decide (cnt cs ps k j = 0))) ∧ ∀ j, j < n → cnt cs ps k j ≤ 1
theorem or_part {S L : Nat} : S ||| L = L ↔ ∀ j, S.testBit j = true → L.testBit j = true := by
  constructor
  · intro h j hj
    have := congrArg (fun x => x.testBit j) h
    simp only [Nat.testBit_or, hj, Bool.true_or] at this
    exact this.symm
  · intro h
    apply Nat.eq_of_testBit_eq
    intro j
    rw [Nat.testBit_or]
    cases hj : S.testBit j
    · simp
    · simp [h j hj]
theorem left_bad {n k L : Nat} {cs : List PCol} {ps : List Int} (h : LeftN n cs ps k L) (hk : k < ps.length) (hs : ∀ x ∈ stopsAt cs (ps.getD k 0), 0 ≤ x ∧ x < (n : Int)) (hp : ¬ setN (stopsAt cs (ps.getD k 0)) ||| L = L) : oneB n cs ps = false := by
  cases ho : oneB n cs ps with
  | false => rfl
  | true =>
    exfalso
    rw [oneB_iff] at ho
    apply hp
    rw [or_part]
    intro j hj
    rw [setN_bit _ (fun x hx => (hs x hx).1)] at hj
    have hm : (j : Int) ∈ stopsAt cs (ps.getD k 0) := by simpa using hj
    have hjn : j < n := by have := (hs _ hm).2; omega
    rw [h.2.1 j]
    have h1 := ho j hjn
    have h2 := cnt_mono cs ps j (k := k + 1) (m := ps.length) (by omega)
    rw [cnt, if_pos hm] at h2
    have : cnt cs ps k j = 0 := by omega
    simp [hjn, this]
theorem left_next {n k L : Nat} {cs : List PCol} {ps : List Int} (h : LeftN n cs ps k L) (hs : ∀ x ∈ stopsAt cs (ps.getD k 0), 0 ≤ x ∧ x < (n : Int)) (hlt : setN (stopsAt cs (ps.getD k 0)) < 32) (hp : setN (stopsAt cs (ps.getD k 0)) ||| L = L) :
    LeftN n cs ps (k + 1) (L &&& (18446744073709551615 - setN (stopsAt cs (ps.getD k 0)))) := by
  have hb : ∀ j, (L &&& (18446744073709551615 - setN (stopsAt cs (ps.getD k 0)))).testBit j = (L.testBit j && !(setN (stopsAt cs (ps.getD k 0))).testBit j) := by
    intro j
    have e : 18446744073709551615 - setN (stopsAt cs (ps.getD k 0)) = 2 ^ 64 - (setN (stopsAt cs (ps.getD k 0)) + 1) := by omega
    rw [e, Nat.testBit_and, Nat.testBit_two_pow_sub_succ (by omega)]
    by_cases hj : j < 64
    · simp [hj]
    · have : L.testBit j = false := Nat.testBit_lt_two_pow (Nat.lt_of_lt_of_le (show L < 2 ^ 64 by have := h.1; omega) (Nat.pow_le_pow_right (by omega) (by omega)))
      simp [this]
  rw [or_part] at hp
  refine ⟨Nat.lt_of_le_of_lt Nat.and_le_left h.1, fun j => ?_, fun j hj => ?_⟩
  · rw [hb, h.2.1, setN_bit _ (fun x hx => (hs x hx).1), cnt]
    by_cases hm : (j : Int) ∈ stopsAt cs (ps.getD k 0)
    · simp [hm, Bool.and_assoc]
    · simp [hm, Bool.and_assoc]
  · have h1 := h.2.2 j hj
    rw [cnt]
    split
    · rename_i hm
      have := hp j (by rw [setN_bit _ (fun x hx => (hs x hx).1)]; simpa using hm)
      rw [h.2.1 j] at this
      simp [hj] at this
      omega
    · omega
theorem left_end {n L : Nat} {cs : List PCol} {ps : List Int} (h : LeftN n cs ps ps.length L) : oneB n cs ps = decide (L = 0) := by
  by_cases h0 : L = 0
  · subst h0
    rw [decide_eq_true rfl, oneB_iff]
    intro j hj
    have h1 := h.2.1 j
    have h2 := h.2.2 j hj
    simp [hj] at h1
    omega
  · rw [decide_eq_false h0]
    cases ho : oneB n cs ps with
    | false => rfl
    | true =>
      exfalso
      rw [oneB_iff] at ho
      apply h0
      apply Nat.eq_of_testBit_eq
      intro j
      rw [h.2.1 j, Nat.zero_testBit]
      by_cases hj : j < n
      · simp [ho j hj]
      · simp [hj]
theorem left_start (n : Nat) (cs : List PCol) (ps : List Int) (hn : n ≤ 5) : LeftN n cs ps 0 (2 ^ n - 1) := by
  refine ⟨?_, fun j => ?_, fun j _ => by simp [cnt]⟩
  · rcases (by omega : n = 0 ∨ n = 1 ∨ n = 2 ∨ n = 3 ∨ n = 4 ∨ n = 5) with rfl | rfl | rfl | rfl | rfl | rfl <;> decide
  · rw [Nat.testBit_two_pow_sub_one]
    simp [cnt]
end Go.Proofs.Ytppdomoifnokpaa
