
/-
  Slices of triples (arcs, links); plain notions of networks and flows.
-/
import Derived.Test.YtjbgjljcgdligaaFa
import Derived.Test.YtjbgjljcgdligaaJp
set_option linter.unusedSimpArgs false
set_option linter.unusedVariables false
namespace Go.Proofs.Ytjbgjljcgdligaa
open Go.RowKit

/-- The numbers of triples, one behind the other. -/
def fl3 : List (Int × Int × Int) → List Int
  | [] => []
  | p :: t => p.1 :: p.2.1 :: p.2.2 :: fl3 t
theorem fl3_len : ∀ (es : List (Int × Int × Int)), (fl3 es).length = es.length * 3
  | [] => rfl
  | _ :: t => by simp only [fl3, List.length_cons, fl3_len t]; omega
theorem fl3_at : ∀ {es : List (Int × Int × Int)} {k : Nat} {p : Int × Int × Int}, es[k]? = some p → (fl3 es)[k * 3]? = some p.1 ∧ (fl3 es)[k * 3 + 1]? = some p.2.1 ∧ (fl3 es)[k * 3 + 2]? = some p.2.2
  | [], k, p, h => by simp at h
  | q :: t, 0, p, h => by simp at h; subst h; exact ⟨rfl, rfl, rfl⟩
  | q :: t, k + 1, p, h => by
    have := fl3_at (es := t) (k := k) (p := p) (by simpa using h)
    rw [show (k + 1) * 3 = k * 3 + 1 + 1 + 1 by omega, show k * 3 + 1 + 1 + 1 + 1 = (k * 3 + 1) + 1 + 1 + 1 by omega, show k * 3 + 1 + 1 + 1 + 2 = (k * 3 + 2) + 1 + 1 + 1 by omega]
    exact ⟨by simpa [fl3] using this.1, by simpa [fl3] using this.2.1, by simpa [fl3] using this.2.2⟩
theorem fl3_of : ∀ (n : Nat) (xs : List Int), xs.length = n * 3 → ∃ ts : List (Int × Int × Int), fl3 ts = xs ∧ ts.length = n
  | 0, xs, h => ⟨[], by rw [List.length_eq_zero_iff.1 (by omega : xs.length = 0)]; rfl, rfl⟩
  | n + 1, a :: b :: c :: xs, h => by
      obtain ⟨ts, h1, h2⟩ := fl3_of n xs (by simp at h; omega)
      exact ⟨(a, b, c) :: ts, by simp [fl3, h1], by simp [h2]⟩
  | n + 1, [], h => by simp at h
  | n + 1, [_], h => by simp at h; omega
  | n + 1, [_, _], h => by simp at h; omega
/-- A slice of triples. -/
def TriS (w : World) (A : Option Addr) (n : Nat) (ts : List (Int × Int × Int)) : Prop := ts.length = n ∧ Ints w A (n * 3) (fl3 ts)
theorem TriS.below {w w' : World} {A : Option Addr} {n : Nat} {ts : List (Int × Int × Int)} (h : TriS w A n ts) (hb : Below w.heap.size w w') : TriS w' A n ts := ⟨h.1, h.2.below hb⟩
theorem TriS.len {w : World} {A : Option Addr} {n : Nat} {ts : List (Int × Int × Int)} (h : TriS w A n ts) : ts.length = n := h.1
theorem TriS.at_ {w : World} {A : Option Addr} {n k : Nat} {ts : List (Int × Int × Int)} (h : TriS w A n ts) (hk : k < n) : ∃ (b off : Nat) (x y z : Int), A = some ⟨b, off, none⟩ ∧ b < w.heap.size ∧ ts[k]? = some (x, y, z) ∧ I64 x ∧ I64 y ∧ I64 z ∧
    w.cell? ⟨b, off + k * 3, none⟩ = some (.int .i64 x) ∧ w.cell? ⟨b, off + k * 3 + 1, none⟩ = some (.int .i64 y) ∧ w.cell? ⟨b, off + k * 3 + 2, none⟩ = some (.int .i64 z) := by
  obtain ⟨b, off, x0, x1, x2, rfl, hb, h0, h1, h2, i0, i1, i2, c0, c1, c2⟩ := h.2.at3 hk
  obtain ⟨p, hp⟩ : ∃ p, ts[k]? = some p := ⟨_, List.getElem?_eq_getElem (by have := h.1; omega)⟩
  obtain ⟨e0, e1, e2⟩ := fl3_at hp
  rw [h0] at e0; injection e0 with e0
  rw [h1] at e1; injection e1 with e1
  rw [h2] at e2; injection e2 with e2
  exact ⟨b, off, x0, x1, x2, rfl, hb, by rw [hp, e0, e1, e2], i0, i1, i2, c0, c1, c2⟩

/-- Two different nodes of n. -/
def twoB (n a b : Int) : Bool := inB a 0 (n - 1) && (inB b 0 (n - 1) && !(a == b))
theorem twoB_1 {n a b : Int} (h : inB a 0 (n - 1) = false) : twoB n a b = false := by simp [twoB, h]
theorem twoB_2 {n a b : Int} (h : inB b 0 (n - 1) = false) : twoB n a b = false := by simp [twoB, h]
theorem twoB_3 {n a b : Int} (h1 : inB a 0 (n - 1) = true) (h2 : inB b 0 (n - 1) = true) : twoB n a b = !(a == b) := by simp [twoB, h1, h2]
theorem twoB_facts {n a b : Int} (h : twoB n a b = true) : (0 ≤ a ∧ a ≤ n - 1) ∧ (0 ≤ b ∧ b ≤ n - 1) ∧ ¬ a = b := by
  unfold twoB at h
  simp only [Bool.and_eq_true] at h
  exact ⟨inB_iff.1 h.1, inB_iff.1 h.2.1, by simpa using h.2.2⟩
def arcB (n hi : Int) (ts : List (Int × Int × Int)) (k : Nat) : Bool := match ts[k]? with
  | some (x, y, z) => twoB n x y && inB z 0 hi
  | none => false
theorem arcB_at {n hi : Int} {ts : List (Int × Int × Int)} {k : Nat} {x y z : Int} (h : ts[k]? = some (x, y, z)) : arcB n hi ts k = (twoB n x y && inB z 0 hi) := by simp [arcB, h]
def arcs (n hi : Int) (ts : List (Int × Int × Int)) (k : Nat) : Bool := (List.range k).all (arcB n hi ts)
theorem arcs_0 (n hi : Int) (ts : List (Int × Int × Int)) : arcs n hi ts 0 = true := rfl
theorem arcs_succ (n hi : Int) (ts : List (Int × Int × Int)) (k : Nat) : arcs n hi ts (k + 1) = (arcs n hi ts k && arcB n hi ts k) := by
  simp [arcs, List.range_succ, List.all_append]
theorem arcs_yes {n hi : Int} {ts : List (Int × Int × Int)} {k : Nat} (h : arcs n hi ts k = true) (h2 : arcB n hi ts k = true) : arcs n hi ts (k + 1) = true := by rw [arcs_succ, h, h2]; rfl
theorem arcs_at {n hi : Int} {ts : List (Int × Int × Int)} {m k : Nat} (h : arcs n hi ts m = true) (hk : k < m) : arcB n hi ts k = true := by
  unfold arcs at h; rw [List.all_eq_true] at h; exact h k (List.mem_range.2 hk)
theorem arcs_no {n hi : Int} {ts : List (Int × Int × Int)} {m k : Nat} (hk : k < m) (h : arcB n hi ts k = false) : arcs n hi ts m = false := by
  cases h2 : arcs n hi ts m
  · rfl
  · rw [arcs_at h2 hk] at h; cases h
/-- A valid network. -/
def netB (n : Int) (ts : List (Int × Int × Int)) (s t : Int) : Bool := inB n 2 8 && (decide (ts.length ≤ 12) && (twoB n s t && arcs n 99 ts ts.length))
theorem netB_1 {n s t : Int} {ts : List (Int × Int × Int)} (h : inB n 2 8 = false) : netB n ts s t = false := by simp [netB, h]
theorem netB_2 {n s t : Int} {ts : List (Int × Int × Int)} (h : ¬ ts.length ≤ 12) : netB n ts s t = false := by simp [netB, h]
theorem netB_3 {n s t : Int} {ts : List (Int × Int × Int)} (h : twoB n s t = false) : netB n ts s t = false := by simp [netB, h]
theorem netB_4 {n s t : Int} {ts : List (Int × Int × Int)} {k : Nat} (hk : k < ts.length) (h : arcB n 99 ts k = false) : netB n ts s t = false := by simp [netB, arcs_no hk h]
theorem netB_5 {n s t : Int} {ts : List (Int × Int × Int)} {k : Nat} (h1 : inB n 2 8 = true) (h2 : ts.length ≤ 12) (h3 : twoB n s t = true) (hk : k = ts.length) (h : arcs n 99 ts k = true) : netB n ts s t = true := by subst hk; simp [netB, h1, h2, h3, h]
theorem netB_facts {n s t : Int} {ts : List (Int × Int × Int)} (h : netB n ts s t = true) : (2 ≤ n ∧ n ≤ 8) ∧ ts.length ≤ 12 ∧ ((0 ≤ s ∧ s ≤ n - 1) ∧ (0 ≤ t ∧ t ≤ n - 1) ∧ ¬ s = t) ∧
    ∀ (k : Nat) (x y z : Int), ts[k]? = some (x, y, z) → (0 ≤ x ∧ x ≤ n - 1) ∧ (0 ≤ y ∧ y ≤ n - 1) ∧ ¬ x = y ∧ 0 ≤ z ∧ z ≤ 99 := by
  unfold netB at h
  simp only [Bool.and_eq_true, decide_eq_true_eq] at h
  obtain ⟨h1, h2, h3, h4⟩ := h
  refine ⟨inB_iff.1 h1, h2, twoB_facts h3, fun k x y z hk => ?_⟩
  have := arcs_at h4 (List.getElem?_eq_some_iff.1 hk).1
  rw [arcB_at hk, Bool.and_eq_true] at this
  obtain ⟨a, b, c⟩ := twoB_facts this.1
  exact ⟨a, b, c, inB_iff.1 this.2⟩

/-- What leaves every node minus what enters it, after k arcs. -/
def sTab (n : Nat) (ts : List (Int × Int × Int)) (fs : List Int) : Nat → List Int
  | 0 => List.replicate n 0
  | k + 1 => match ts[k]? with
    | some (x, y, _) => ((sTab n ts fs k).set x.toNat ((sTab n ts fs k).getD x.toNat 0 + fs.getD k 0)).set y.toNat (((sTab n ts fs k).set x.toNat ((sTab n ts fs k).getD x.toNat 0 + fs.getD k 0)).getD y.toNat 0 - fs.getD k 0)
    | none => sTab n ts fs k
theorem sTab_len (n : Nat) (ts : List (Int × Int × Int)) (fs : List Int) : ∀ k, (sTab n ts fs k).length = n
  | 0 => by simp [sTab]
  | k + 1 => by
    rw [sTab]
    split
    · simp [sTab_len n ts fs k]
    · exact sTab_len n ts fs k
theorem sTab_step {n k i j : Nat} {ts : List (Int × Int × Int)} {fs : List Int} {z f : Int} (h : ts[k]? = some ((i : Int), (j : Int), z)) (hf : fs[k]? = some f) :
    sTab n ts fs (k + 1) = ((sTab n ts fs k).set i ((sTab n ts fs k).getD i 0 + f)).set j (((sTab n ts fs k).set i ((sTab n ts fs k).getD i 0 + f)).getD j 0 - f) := by
  have e : fs.getD k 0 = f := by simp [List.getD, hf]
  rw [sTab, h]
  simp only [Int.toNat_natCast, e]
/-- The amount of arc k is possible. -/
def fOk (ts : List (Int × Int × Int)) (fs : List Int) (k : Nat) : Bool := match ts[k]? with
  | some (_, _, z) => inB (fs.getD k 0) 0 z
  | none => false
theorem fOk_at {ts : List (Int × Int × Int)} {fs : List Int} {k : Nat} {x y z f : Int} (h : ts[k]? = some (x, y, z)) (hf : fs[k]? = some f) : fOk ts fs k = inB f 0 z := by
  simp [fOk, h, List.getD, hf]
def fAll (ts : List (Int × Int × Int)) (fs : List Int) (k : Nat) : Bool := (List.range k).all (fOk ts fs)
theorem fAll_0 (ts : List (Int × Int × Int)) (fs : List Int) : fAll ts fs 0 = true := rfl
theorem fAll_succ (ts : List (Int × Int × Int)) (fs : List Int) (k : Nat) : fAll ts fs (k + 1) = (fAll ts fs k && fOk ts fs k) := by
  simp [fAll, List.range_succ, List.all_append]
theorem fAll_yes {ts : List (Int × Int × Int)} {fs : List Int} {k : Nat} (h : fAll ts fs k = true) (h2 : fOk ts fs k = true) : fAll ts fs (k + 1) = true := by rw [fAll_succ, h, h2]; rfl
theorem fAll_at {ts : List (Int × Int × Int)} {fs : List Int} {m k : Nat} (h : fAll ts fs m = true) (hk : k < m) : fOk ts fs k = true := by
  unfold fAll at h; rw [List.all_eq_true] at h; exact h k (List.mem_range.2 hk)
theorem fAll_no {ts : List (Int × Int × Int)} {fs : List Int} {m k : Nat} (hk : k < m) (h : fOk ts fs k = false) : fAll ts fs m = false := by
  cases h2 : fAll ts fs m
  · rfl
  · rw [fAll_at h2 hk] at h; cases h
theorem sTab_bd {n : Nat} {nn s t : Int} {ts : List (Int × Int × Int)} {fs : List Int} (h : netB nn ts s t = true) : ∀ k, k ≤ ts.length → fAll ts fs k = true → ∀ j, -(99 * (k : Int)) ≤ (sTab n ts fs k).getD j 0 ∧ (sTab n ts fs k).getD j 0 ≤ 99 * k
  | 0, _, _, j => by
    have : (List.replicate n (0 : Int)).getD j 0 = 0 := by
      simp only [List.getD, List.getElem?_replicate]
      split <;> rfl
    simp only [sTab]; omega
  | k + 1, hk, hf, j => by
    have hf' : fAll ts fs k = true := by rw [fAll_succ, Bool.and_eq_true] at hf; exact hf.1
    have ih := sTab_bd (n := n) h k (by omega) hf'
    obtain ⟨⟨x, y, z⟩, hp⟩ : ∃ p, ts[k]? = some p := ⟨_, List.getElem?_eq_getElem (by omega)⟩
    obtain ⟨⟨x0, x1⟩, ⟨y0, y1⟩, hxy, z0, z1⟩ := (netB_facts h).2.2.2 k x y z hp
    have ho := fAll_at hf (show k < k + 1 by omega)
    have hov : inB (fs.getD k 0) 0 z = true := by simpa [fOk, hp] using ho
    have hb := inB_iff.1 hov
    rw [sTab, hp]
    simp only [jSet]
    have a := ih j
    have b := ih x.toNat
    have c := ih y.toNat
    have hne : ¬ x.toNat = y.toNat := by omega
    simp only [hne, false_and, if_false]
    split
    · omega
    · split <;> omega
/-- At all nodes but s and t, as much leaves as enters. -/
def balB (tab : List Int) (s t : Int) (k : Nat) : Bool := (List.range k).all fun v : Nat => decide ((v : Int) = s ∨ (v : Int) = t ∨ tab.getD v 0 = 0)
theorem balB_0 (tab : List Int) (s t : Int) : balB tab s t 0 = true := rfl
theorem balB_succ (tab : List Int) (s t : Int) (k : Nat) : balB tab s t (k + 1) = (balB tab s t k && decide ((k : Int) = s ∨ (k : Int) = t ∨ tab.getD k 0 = 0)) := by
  simp [balB, List.range_succ, List.all_append]
theorem balB_yes {tab : List Int} {s t : Int} {k : Nat} (h : balB tab s t k = true) (h2 : (k : Int) = s ∨ (k : Int) = t ∨ tab.getD k 0 = 0) : balB tab s t (k + 1) = true := by rw [balB_succ, h]; simpa using h2
theorem balB_no {tab : List Int} {s t : Int} {m k : Nat} (hk : k < m) (h1 : ¬ (k : Int) = s) (h2 : ¬ (k : Int) = t) (h3 : ¬ tab.getD k 0 = 0) : balB tab s t m = false := by
  cases h : balB tab s t m
  · rfl
  · unfold balB at h
    rw [List.all_eq_true] at h
    have := h k (List.mem_range.2 hk)
    rw [decide_eq_true_eq] at this
    omega
def flowB (n : Int) (ts : List (Int × Int × Int)) (s t : Int) (fs : List Int) : Bool := netB n ts s t && (decide (fs.length = ts.length) && (fAll ts fs ts.length && balB (sTab n.toNat ts fs ts.length) s t n.toNat))
def flowV (n : Int) (ts : List (Int × Int × Int)) (s t : Int) (fs : List Int) : Int := if flowB n ts s t fs then (sTab n.toNat ts fs ts.length).getD s.toNat 0 else 0
theorem flow_1 {n s t : Int} {ts : List (Int × Int × Int)} {fs : List Int} (h : netB n ts s t = false) : flowB n ts s t fs = false ∧ flowV n ts s t fs = 0 := by simp [flowV, flowB, h]
theorem flow_2 {n s t : Int} {ts : List (Int × Int × Int)} {fs : List Int} (h : ¬ fs.length = ts.length) : flowB n ts s t fs = false ∧ flowV n ts s t fs = 0 := by simp [flowV, flowB, h]
theorem flow_3 {n s t : Int} {ts : List (Int × Int × Int)} {fs : List Int} {k : Nat} (hk : k < ts.length) (h : fOk ts fs k = false) : flowB n ts s t fs = false ∧ flowV n ts s t fs = 0 := by simp [flowV, flowB, fAll_no hk h]
theorem flow_4 {n s t : Int} {ts : List (Int × Int × Int)} {fs : List Int} (h : balB (sTab n.toNat ts fs ts.length) s t n.toNat = false) : flowB n ts s t fs = false ∧ flowV n ts s t fs = 0 := by simp [flowV, flowB, h]
theorem flow_5 {n s t : Int} {ts : List (Int × Int × Int)} {fs : List Int} (h1 : netB n ts s t = true) (h2 : fs.length = ts.length) (h3 : fAll ts fs ts.length = true) (h4 : balB (sTab n.toNat ts fs ts.length) s t n.toNat = true) : flowB n ts s t fs = true ∧ flowV n ts s t fs = (sTab n.toNat ts fs ts.length).getD s.toNat 0 := by
  have e : flowB n ts s t fs = true := by simp [flowB, h1, h2, h3, h4]
  exact ⟨e, by simp [flowV, e]⟩
end Go.Proofs.Ytjbgjljcgdligaa
