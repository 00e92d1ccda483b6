
/-
  Edges: pairs of items that do not fit together; slices of pairs that grow by append.
-/
import Derived.Test.YtjbgjljcgdligabFa
import Derived.Test.YtjbgjljcgdligabKn
set_option linter.unusedSimpArgs false
set_option linter.unusedVariables false
namespace Go.Proofs.Ytjbgjljcgdligab
open Go.RowKit

/-- The numbers of pairs, one behind the other. -/
def fl : List (Int × Int) → List Int
  | [] => []
  | p :: t => p.1 :: p.2 :: fl t
theorem fl_len : ∀ (es : List (Int × Int)), (fl es).length = es.length * 2
  | [] => rfl
  | _ :: t => by simp only [fl, List.length_cons, fl_len t]; omega
theorem fl_snoc (a b : Int) : ∀ (es : List (Int × Int)), fl (es ++ [(a, b)]) = fl es ++ [a, b]
  | [] => rfl
  | p :: t => by simp only [List.cons_append, fl, fl_snoc a b t]
theorem fl_at : ∀ {es : List (Int × Int)} {k : Nat} {p : Int × Int}, es[k]? = some p → (fl es)[k * 2]? = some p.1 ∧ (fl es)[k * 2 + 1]? = some p.2
  | [], k, p, h => by simp at h
  | q :: t, 0, p, h => by simp at h; subst h; exact ⟨rfl, rfl⟩
  | q :: t, k + 1, p, h => by
    have := fl_at (es := t) (k := k) (p := p) (by simpa using h)
    rw [show (k + 1) * 2 = k * 2 + 1 + 1 by omega, show k * 2 + 1 + 1 + 1 = (k * 2 + 1) + 1 + 1 by omega]
    exact ⟨by simpa [fl] using this.1, by simpa [fl] using this.2⟩
theorem fl_mem {Q : Int → Prop} : ∀ {es : List (Int × Int)}, (∀ p ∈ es, Q p.1 ∧ Q p.2) → ∀ x ∈ fl es, Q x
  | [], _, x, hx => by simp [fl] at hx
  | p :: t, h, x, hx => by
    simp only [fl, List.mem_cons] at hx
    rcases hx with rfl | rfl | hx
    · exact (h p (by simp)).1
    · exact (h p (by simp)).2
    · exact fl_mem (fun q hq => h q (by simp [hq])) x hx

/-- The pairs (a, b) with b below k that p holds of. -/
def conR (p : Nat → Nat → Bool) (a : Nat) : Nat → List (Int × Int)
  | 0 => []
  | k + 1 => if a < k ∧ p a k = true then conR p a k ++ [((a : Int), (k : Int))] else conR p a k
def conT (p : Nat → Nat → Bool) (n : Nat) : Nat → List (Int × Int)
  | 0 => []
  | k + 1 => conT p n k ++ conR p k n
theorem conR_le {p : Nat → Nat → Bool} {a : Nat} : ∀ {k : Nat}, k ≤ a + 1 → conR p a k = []
  | 0, _ => rfl
  | k + 1, h => by rw [conR, if_neg (by omega), conR_le (by omega)]
theorem conR_yes {p : Nat → Nat → Bool} {a k : Nat} (h : a < k) (hp : p a k = true) : conR p a (k + 1) = conR p a k ++ [((a : Int), (k : Int))] := by rw [conR, if_pos ⟨h, hp⟩]
theorem conR_no {p : Nat → Nat → Bool} {a k : Nat} (hp : p a k = false) : conR p a (k + 1) = conR p a k := by rw [conR, if_neg (by simp [hp])]
theorem conR_len {p : Nat → Nat → Bool} {a : Nat} : ∀ {k : Nat}, (conR p a k).length ≤ k
  | 0 => Nat.le_refl _
  | k + 1 => by
    rw [conR]
    have := conR_len (p := p) (a := a) (k := k)
    split
    · simp; omega
    · omega
theorem conT_len {p : Nat → Nat → Bool} {n : Nat} : ∀ {k : Nat}, (conT p n k).length ≤ n * k
  | 0 => Nat.le_refl _
  | k + 1 => by
    rw [conT, List.length_append, Nat.mul_succ]
    have := conR_len (p := p) (a := k) (k := n)
    have := conT_len (p := p) (n := n) (k := k)
    omega
theorem conR_mem {p : Nat → Nat → Bool} {a : Nat} : ∀ {k : Nat} {e : Int × Int}, e ∈ conR p a k → ∃ b : Nat, a < b ∧ b < k ∧ p a b = true ∧ e = ((a : Int), (b : Int))
  | 0, e, h => by simp [conR] at h
  | k + 1, e, h => by
    rw [conR] at h
    split at h
    · rename_i hc
      rcases List.mem_append.1 h with h | h
      · obtain ⟨b, h1, h2, h3, h4⟩ := conR_mem h
        exact ⟨b, h1, by omega, h3, h4⟩
      · simp at h
        exact ⟨k, hc.1, by omega, hc.2, h⟩
    · obtain ⟨b, h1, h2, h3, h4⟩ := conR_mem h
      exact ⟨b, h1, by omega, h3, h4⟩
theorem conT_mem {p : Nat → Nat → Bool} {n : Nat} : ∀ {k : Nat} {e : Int × Int}, e ∈ conT p n k → ∃ a b : Nat, a < k ∧ a < b ∧ b < n ∧ p a b = true ∧ e = ((a : Int), (b : Int))
  | 0, e, h => by simp [conT] at h
  | k + 1, e, h => by
    rw [conT] at h
    rcases List.mem_append.1 h with h | h
    · obtain ⟨a, b, h0, h1, h2, h3, h4⟩ := conT_mem h
      exact ⟨a, b, by omega, h1, h2, h3, h4⟩
    · obtain ⟨b, h1, h2, h3, h4⟩ := conR_mem h
      exact ⟨k, b, by omega, h1, h2, h3, h4⟩
/-- Items a and b don't fit together. -/
def con (ws : List Int) (c : Int) (a b : Nat) : Bool := decide (c < ws.getD a 0 + ws.getD b 0)
def confV (ws : List Int) (c : Int) : List (Int × Int) := if vWts ws c && decide (ws.length ≤ 8) then conT (con ws c) ws.length ws.length else []
theorem confV_1 {ws : List Int} {c : Int} (h : vWts ws c = false) : confV ws c = [] := by simp [confV, h]
theorem confV_2 {ws : List Int} {c : Int} (h : ¬ ws.length ≤ 8) : confV ws c = [] := by simp [confV, h]
theorem confV_3 {ws : List Int} {c : Int} (h : vWts ws c = true) (h2 : ws.length ≤ 8) : confV ws c = conT (con ws c) ws.length ws.length := by simp [confV, h, h2]
theorem confV_bd (ws : List Int) (c : Int) : (∀ x ∈ fl (confV ws c), I64 x) ∧ (fl (confV ws c)).length ≤ 200 := by
  unfold confV
  split
  · rename_i h
    simp only [Bool.and_eq_true, decide_eq_true_eq] at h
    have h8 := h.2
    refine ⟨fl_mem fun e he => ?_, ?_⟩
    · obtain ⟨a, b, h0, h1, h2, h3, rfl⟩ := conT_mem he
      exact ⟨⟨by simp only; omega, by simp only; omega⟩, ⟨by simp only; omega, by simp only; omega⟩⟩
    · rw [fl_len]
      have := conT_len (p := con ws c) (n := ws.length) (k := ws.length)
      have : ws.length * ws.length ≤ 8 * 8 := Nat.mul_le_mul h8 h8
      omega
  · simp [fl]

/-- v is a slice of the call's own (from block B on) whose pairs are es. -/
def GrowE (w : World) (B : Nat) (e : TypeId) (v : Value) (es : List (Int × Int)) : Prop := w.ownsRow B e 2 v es.length ((fl es).map (Value.int .i64))
section
variable {w w' : World} {B : Nat} {e : TypeId} {v : Value} {es : List (Int × Int)}
theorem GrowE.nil (w : World) (B : Nat) (e : TypeId) : GrowE w B e (.slice none 0 0) [] := World.ownsRow_nil _ _ _ _
theorem GrowE.lit0 (w : World) (hB : B ≤ w.heap.size) (e : TypeId) : GrowE (w.alloc (.cells #[] e)) B e (.slice (some ⟨w.heap.size, 0, none⟩) 0 0) [] :=
  World.ownsRow_made w #[] 0 hB (Nat.zero_le _) rfl
theorem GrowE.keep (h : GrowE w B e v es) (hs : w.heap.size ≤ w'.heap.size) (hk : ∀ j, B ≤ j → j < w.heap.size → w'.heap[j]? = w.heap[j]?) : GrowE w' B e v es := by
  refine ⟨h.1, ?_⟩
  rcases h.2 with h0 | ⟨g, cap, cur, rfl, hb, hh, hr⟩
  · exact .inl h0
  · have hlt : g < w.heap.size := by
      rcases Nat.lt_or_ge g w.heap.size with h1 | h1
      · exact h1
      · rw [Array.getElem?_eq_none h1] at hh; cases hh
    exact .inr ⟨g, cap, cur, rfl, hb, (hk g hb hlt).trans hh, hr⟩
theorem GrowE.below (h : GrowE w B e v es) (hb : Below w.heap.size w w') : GrowE w' B e v es := h.keep hb.size fun j _ hj => hb.block j hj
theorem GrowE.far (h : GrowE w B e v es) {p : Addr} (hp : p.block < B) (u : Value) : GrowE (w.setCell p u) B e v es := h.keep (by simp [World.setCell]) fun j hj _ => Below.heap_setCell _ _ _ _ (by omega)
theorem GrowE.alloc (h : GrowE w B e v es) (o : Obj) : GrowE (w.alloc o) B e v es := h.below ((Below.refl _ _).alloc (Nat.le_refl _) _)
theorem GrowE.drewN (h : GrowE w B e v es) (n : Nat) : GrowE (w.drewN n) B e v es := h.keep (Nat.le_refl _) fun _ _ _ => rfl
theorem GrowE.drew (h : GrowE w B e v es) : GrowE w.drew B e v es := h.keep (Nat.le_refl _) fun _ _ _ => rfl
theorem GrowE.own (h : GrowE w B e v es) : w.ownsRow B e 2 v es.length ((fl es).map (Value.int .i64)) := h
theorem GrowE.row (h : GrowE w B e v es) : ∀ k, v.ownBlock = some k → B ≤ k := fun k hk => (World.ownsRow.lt h k hk).1
theorem GrowE.snoc {a b : Int} (h : w.ownsRow B e 2 v (es.length + 1) ((fl es).map (Value.int .i64) ++ [.int .i64 a, .int .i64 b])) : GrowE w B e v (es ++ [(a, b)]) := by
  unfold GrowE
  rw [fl_snoc]
  simpa using h
theorem GrowE.ints (h : GrowE w B e v es) : ∃ (A : Option Addr) (c : Nat), v = .slice A es.length c ∧ (fl es = [] ∨ ∃ g, A = some ⟨g, 0, none⟩ ∧ B ≤ g ∧ OwnI w g (fl es)) := by
  rcases h.2 with ⟨rfl, h0⟩ | ⟨g, cap, cur, rfl, hb, hh, hn, hm, hcs, hxs⟩
  · have : es = [] := List.eq_nil_of_length_eq_zero h0
    subst this
    exact ⟨none, 0, rfl, .inl rfl⟩
  · have hlt : g < w.heap.size := by
      rcases Nat.lt_or_ge g w.heap.size with h1 | h1
      · exact h1
      · rw [Array.getElem?_eq_none h1] at hh; cases hh
    have hc : ∀ i x, (fl es)[i]? = some x → w.cell? ⟨g, i, none⟩ = some (.int .i64 x) := fun i x hx => by
      have hi : i < (fl es).length := (List.getElem?_eq_some_iff.1 hx).1
      rw [World.ownsRow.cellAt h i (by rw [← fl_len]; exact hi)]
      simp [hx]
    exact ⟨_, _, rfl, .inr ⟨g, rfl, hb, hlt, fun i x hx => ⟨hc i x hx, World.ownsRow.frozenAt h i⟩⟩⟩
end
/-- The result is a slice of pairs of the call's own. -/
def EdgesEnd (L : List (Int × Int)) (w : World) (e : Ending) (w' : World) : Prop := ∃ (A : Option Addr) (c : Nat), e = .returned (.slice A L.length c) ∧ OwnS w' w.heap.size w'.heap.size A (fl L) ∧ Below w.heap.size w w'
theorem EdgesEnd.nil {L : List (Int × Int)} {w w' : World} (h : L = []) (hb : Below w.heap.size w w') : EdgesEnd L w (.returned (.slice none 0 0)) w' := by subst h; exact ⟨none, 0, rfl, OwnS.nil _ _ _ _, hb⟩
theorem EdgesEnd.grow {L L' : List (Int × Int)} {w w' : World} {B : Nat} {e : TypeId} {v : Value} (E : L' = L) (h : GrowE w' B e v L) (hB : w.heap.size ≤ B) (hr : ∀ x ∈ fl L', I64 x) (hl : (fl L').length ≤ 1048576) (hb : Below w.heap.size w w') : EdgesEnd L' w (.returned v) w' := by
  subst E
  obtain ⟨A, c, rfl, h5⟩ := h.ints
  refine ⟨A, c, rfl, ⟨?_, hr, hl⟩, hb⟩
  rcases h5 with h5 | ⟨g, e1, e2, e3⟩
  · exact .inl h5
  · exact .inr ⟨g, e1, by omega, e3.1, e3⟩
end Go.Proofs.Ytjbgjljcgdligab
