
/-
  A range over a function of the program's own, whose iterator hands on a block of its own and writes into it between two rounds: the law of the statement.
-/
import Derived.Test.YtangfmmjpomlgaaM3
import Derived.RangeFuncKeeps
import Derived.RangeFuncFrom
import Derived.RangeFuncBound
import Derived.RangeFuncCalls
import Derived.RangeFuncLeaves
import Derived.Shelf.Abstract
import Derived.Shelf.RegionOpen
import Derived.OwnWalkIn
import Derived.TacticsInMore
import Derived.LoopNIn
import Derived.LoopIn
set_option linter.unusedSimpArgs false
set_option linter.unusedVariables false
namespace Go.Proofs.Ytangfmmjpomlgaa
open Go.RowKit

/-- Block r, and what is new, may have turned; nothing else has. -/
abbrev One (r : Nat) (w w' : World) : Prop := Turn r (r + 1) w w'
theorem One.put (W : World) (r : Nat) (o : Obj) : One r W (W.putObj r o) := ⟨rfl, rfl, rfl, by simp, fun k _ hn => World.putObj_heap_other (by omega)⟩
theorem One.new (r : Nat) (W : World) (o : Obj) : One r W (W.alloc o) := (Turn.refl _ _ W).alloc o
theorem One.set {b o : Nat} {a w : World} (h : One b a w) (v : Value) : One b a (w.setCell ⟨b, o, none⟩ v) := Turn.set h (.inl ⟨Nat.le_refl _, Nat.lt_succ_self _⟩) v
theorem KeepsOthers.of_below {W W' : World} (h : Below W.heap.size W W') : KeepsOthers W W' :=
  ⟨h.size, fun k o hk _ => (h.block k (Array.getElem?_eq_some_iff.1 hk).1).trans hk⟩

/-- An iterator over the list pts, that keeps each element in a block of its own: what holds of the element and the block is At. -/
def SeqAt {α : Type} (F : Fence) (n : Nat) (P : Program) (g : Nat) (lb : Array Value) (encs : Nat → α → Array Value) (At : Nat → α → World → Prop) (pts : List α) (B : Nat) (w : World) : Prop :=
  ∀ (l : Nat) (J Jx : Nat → List α → World → Prop) (W : World), Below w.heap.size w W →
    (∀ b s A B, W.heap.size ≤ b → J b s A → One b A B → J b s B) → (∀ b s A B, W.heap.size ≤ b → Jx b s A → One b A B → Jx b s B) →
    (∀ b pre x rest W1, W.heap.size ≤ b → pts = pre ++ x :: rest → J b pre W1 → At b x W1 → YieldAt F (n - 1) P l (encs b x) W1 fun e W' =>
      (e = .returned (.bool true) ∧ J b (pre ++ [x]) W' ∧ At b x W' ∧ Below B W1 W') ∨ (e = .returned (.bool false) ∧ Jx b (pre ++ [x]) W')) →
    (∀ b, W.heap.size ≤ b → J b [] W) →
    CallsIn F n P g (#[.func (.yield l) #[] #[]] ++ lb) W fun e W' => (∃ v, e = .returned v) ∧ ∃ b, W.heap.size ≤ b ∧ (J b pts W' ∨ ∃ pre, pre <+: pts ∧ Jx b pre W')

/-- How the body of a round may be left. -/
def atPost {α : Type} (B : Nat) (At : Nat → α → World → Prop) (I : Nat → List α → World → Prop) (Ix : Nat → Code → List α → World → Prop) (b : Nat) (pre : List α) (x : α) (W : World) : Exit → Act → World → Prop
  | .normal, _, W' => KeepsOthers W W' ∧ Below B W W' ∧ At b x W' ∧ I b (pre ++ [x]) W'
  | .ret, _, W' => KeepsOthers W W' ∧ Ix b .ret (pre ++ [x]) W'
  | .exit id, _, W' => KeepsOthers W W' ∧ Ix b (.exit id) (pre ++ [x]) W'
  | .goto _, _, _ => False
  | .panic _, _, _ => False
  | .outgrown, _, _ => False

theorem wpIn_rangeFunc_at {α : Type} {F : Fence} {n : Nat} {P : Program} {g : Operand} {ps : Array Tmp} {assign body : Code} {Q : Exit → Act → World → Prop} {a : Act} {w : World}
    (hro : F.round = none) (h1 : 1 ≤ n) {gf : Nat} {lb : Array Value} (hg : a.eval g = .func (.func gf) #[] lb) (hFg : F.fn gf) (eg : ∀ args w, (callFunc gf args).run P w = .ok (.enter gf args) w)
    {encs : Nat → α → Array Value} {At : Nat → α → World → Prop} {pts : List α} {B : Nat} (hseq : SeqAt F (n - 1) P gf lb encs At pts B w) (hB : B ≤ w.heap.size) (hps : ∀ b x, (encs b x).size = ps.size)
    (I : Nat → List α → World → Prop) (Ix : Nat → Code → List α → World → Prop)
    (hI : ∀ b s A B r, w.heap.size ≤ b → I b s A → One r A B → w.heap.size ≤ r → (r = b ∨ ∃ o : Obj, A.heap[r]? = some o ∧ o.isCells = false) → I b s B)
    (hIx : ∀ b c s A B r, w.heap.size ≤ b → Ix b c s A → One r A B → w.heap.size ≤ r → (r = b ∨ ∃ o : Obj, A.heap[r]? = some o ∧ o.isCells = false) → Ix b c s B)
    (hAt : ∀ b x A B r, At b x A → One r A B → r ≠ b → w.heap.size ≤ r → At b x B)
    (h0 : ∀ b, w.heap.size ≤ b → I b [] w) (a₁ : Nat → α → Act)
    (hassign : ∀ (l b : Nat) (x : α) (W : World) (K : Act → World → Prop), K (a₁ b x) W →
      assign.wpIn (F.inRound l) (n - 1 - 1) P (Exit.then K (fun _ _ _ => False)) { tmps := (ps.zip (encs b x)).foldl (fun t (p, v) => t.setIfInBounds p v) a.tmps, defers := [] } W)
    (hbody : ∀ (l b : Nat) (pre : List α) (x : α) (rest : List α) (W : World), w.heap.size + 2 ≤ b → pts = pre ++ x :: rest → I b pre W → At b x W → body.wpIn (F.inRound l) (n - 1 - 1) P (atPost B At I Ix b pre x W) (a₁ b x) W)
    (hdone : ∀ (D b : Nat) (W : World), w.heap.size ≤ D → w.heap.size + 2 ≤ b → I b pts W → W.heap[D]? = some (.deferred (some [])) → Q .normal { a with defers := { target := .collected D, args := #[] } :: a.defers } W)
    (hstop : ∀ (D b : Nat) (c : Code) (pre : List α) (W : World), w.heap.size ≤ D → w.heap.size + 2 ≤ b → pre <+: pts → Ix b c pre W → W.heap[D]? = some (.deferred (some [])) → c.wpIn F n P Q { a with defers := { target := .collected D, args := #[] } :: a.defers } W) :
    (Code.rangeFunc g ps assign body).wpIn F n P Q a w := by
  refine wpIn_rangeFunc ?_
  intro fn hfn
  rw [hro]
  obtain ⟨rec, hrec⟩ : ∃ rec : LoopState → Option Code → Loop, rec = fun st pe => { state := st, pending := pe, fn, tmps := a.tmps, params := ps, assign, body, defers := w.heap.size } := ⟨_, rfl⟩
  obtain ⟨W1, hW1⟩ : ∃ W1, (w.alloc (.deferred (some []))).alloc (.loop (rec .ready none)) = W1 := ⟨_, rfl⟩
  have hz1 : W1.heap.size = w.heap.size + 2 := by rw [← hW1]; simp
  have hL1 : W1.heap[w.heap.size + 1]? = some (.loop (rec .ready none)) := by
    rw [← hW1]; have := World.alloc_heap_new (w.alloc (.deferred (some []))) (.loop (rec .ready none)); rwa [World.size_alloc] at this
  have hK1 : W1.heap[w.heap.size]? = some (.deferred (some [])) := by
    rw [← hW1]; exact (Below.heap_alloc _ _ _ (by simp)).trans (World.alloc_heap_new w _)
  have hI1 : ∀ b, W1.heap.size ≤ b → I b [] W1 := fun b hb => by
    rw [hz1] at hb
    rw [← hW1]
    exact hI b [] _ _ b (by omega) (hI b [] _ _ b (by omega) (h0 b (by omega)) (One.new b w _) (by omega) (.inl rfl)) (One.new b _ _) (by omega) (.inl rfl)
  have hb1 : Below w.heap.size w W1 := by
    rw [← hW1]; exact ((Below.refl _ w).alloc (Nat.le_refl _) _).alloc (by simp) _
  have hzz := hB
  refine ⟨w.heap.size + 1, [{ target := .collected w.heap.size, args := #[] }], W1, { target := .fn (.func gf) lb, args := #[.func (.yield (w.heap.size + 1)) #[] #[]] }, W1, gf,
    #[.func (.yield (w.heap.size + 1)) #[] #[]] ++ lb, W1, ?_, ?_, ?_, ?_, fun _ => h1, ?_⟩
  · rw [← hW1, hrec]; exact run_enterLoop_outer _ _ _ _ _
  · simp only [resolve, hg]
    simp [go_sem]
  · intro f' hf'; simp [Target.leads] at hf'; subst hf'; exact hFg
  · simp [invoke, go_sem, eg]
  · have stay : ∀ {A B : World} {b k : Nat} {o : Obj}, W1.heap.size ≤ b → One b A B → k < W1.heap.size → A.heap[k]? = some o → B.heap[k]? = some o :=
      fun hb ho hk h => (ho.block _ (Array.getElem?_eq_some_iff.1 h).1 (by omega)).trans h
    refine (hseq (w.heap.size + 1)
      (fun b pre W => I b pre W ∧ W.heap[w.heap.size + 1]? = some (.loop (rec .ready none)) ∧ W.heap[w.heap.size]? = some (.deferred (some [])))
      (fun b pre W => ∃ c, Ix b c pre W ∧ W.heap[w.heap.size + 1]? = some (.loop (rec .done (some c))) ∧ W.heap[w.heap.size]? = some (.deferred (some [])))
      W1 hb1
      (fun b s A B hb hs ho => ⟨hI b s A B b (by omega) hs.1 ho (by omega) (.inl rfl), stay hb ho (by omega) hs.2.1, stay hb ho (by omega) hs.2.2⟩)
      (fun b s A B hb hs ho => by
        obtain ⟨c, hc, hl, hk⟩ := hs
        exact ⟨c, hIx b c s A B b (by omega) hc ho (by omega) (.inl rfl), stay hb ho (by omega) hl, stay hb ho (by omega) hk⟩)
      ?_ (fun b hb => ⟨hI1 b hb, hL1, hK1⟩)).mono ?_
    · -- one round
      rintro b pre x rest W hb hpts ⟨hi, hl, hk⟩ hat
      have hlt : w.heap.size + 1 < W.heap.size := (Array.getElem?_eq_some_iff.1 hl).1
      have hy := run_yield (P := P) (args := encs b x) hl (by rw [hrec]; exact hps b x)
      rw [hrec] at hy
      refine ⟨fn, _, assign, body, hy, roundIn_of_wpIn hfn (hassign _ b x W _ ⟨_, run_beginRound hl (by rw [hrec]), ?_⟩)⟩
      have put : ∀ {V : World} (o o' : Obj), V.heap[w.heap.size + 1]? = some o → o.isCells = false → I b pre V → I b pre (V.putObj (w.heap.size + 1) o') :=
        fun o o' ho hc hv => hI b pre _ _ (w.heap.size + 1) (by omega) hv (One.put _ _ _) (by omega) (.inr ⟨o, ho, hc⟩)
      have hl2 : (W.putObj (w.heap.size + 1) (.loop { rec .ready none with state := .busy })).heap[w.heap.size + 1]? = some (.loop { rec .ready none with state := .busy }) := World.putObj_heap_same hlt
      have hk2 : (W.putObj (w.heap.size + 1) (.loop { rec .ready none with state := .busy })).heap[w.heap.size]? = some (.deferred (some [])) := (World.putObj_heap_other (by omega)).trans hk
      have hw2 : Below B W (W.putObj (w.heap.size + 1) (.loop { rec .ready none with state := .busy })) := belowK_b (w := w) hzz _ _ _ _ (by omega) hl rfl rfl
      refine wpIn_mono (hbody _ b pre x rest _ (by omega) hpts (put _ _ hl rfl hi) (hAt b x _ _ _ hat (One.put _ _ _) (by omega) (by omega))) ?_
      have fin : ∀ (jump : Option Code) (W3 : World), KeepsOthers (W.putObj (w.heap.size + 1) (.loop { rec .ready none with state := .busy })) W3 →
          (Instr.endRound (w.heap.size + 1) jump).run P W3 = .ok (.bool jump.isNone) (W3.putObj (w.heap.size + 1) (.loop (rec (if jump.isNone then .ready else .done) jump))) ∧
          W3.heap[w.heap.size + 1]? = some (.loop { rec .ready none with state := .busy }) ∧
          (W3.putObj (w.heap.size + 1) (.loop (rec (if jump.isNone then .ready else .done) jump))).heap[w.heap.size + 1]? = some (.loop (rec (if jump.isNone then .ready else .done) jump)) ∧
          (W3.putObj (w.heap.size + 1) (.loop (rec (if jump.isNone then .ready else .done) jump))).heap[w.heap.size]? = some (.deferred (some [])) := fun jump W3 hk3 => by
        have hl3 := hk3.same _ _ hl2 rfl
        have := run_endRound (P := P) jump hl3
        rw [hrec] at this ⊢
        exact ⟨this, by rw [hrec] at hl3; exact hl3, World.putObj_heap_same (Array.getElem?_eq_some_iff.1 hl3).1, (World.putObj_heap_other (by omega)).trans (hk3.same _ _ hk2 rfl)⟩
      rintro e a3 W3 hp
      cases e with
      | normal =>
        obtain ⟨hk3, hkp3, hat3, hi3⟩ := hp
        obtain ⟨hr, hl3, hl4, hk4⟩ := fin none W3 hk3
        exact ⟨_, _, hr, .inl ⟨rfl, ⟨hI b _ _ _ (w.heap.size + 1) (by omega) hi3 (One.put _ _ _) (by omega) (.inr ⟨_, hl3, rfl⟩), hl4, hk4⟩, hAt b x _ _ _ hat3 (One.put _ _ _) (by omega) (by omega),
          (hw2.trans hkp3).trans (belowK_b (w := w) hzz _ _ _ _ (by omega) hl3 rfl rfl)⟩⟩
      | ret =>
        obtain ⟨hk3, hi3⟩ := hp
        obtain ⟨hr, hl3, hl4, hk4⟩ := fin (some .ret) W3 hk3
        exact ⟨_, _, hr, .inr ⟨rfl, .ret, hIx b _ _ _ _ (w.heap.size + 1) (by omega) hi3 (One.put _ _ _) (by omega) (.inr ⟨_, hl3, rfl⟩), hl4, hk4⟩⟩
      | exit id =>
        obtain ⟨hk3, hi3⟩ := hp
        obtain ⟨hr, hl3, hl4, hk4⟩ := fin (some (.exit id)) W3 hk3
        exact ⟨_, _, hr, .inr ⟨rfl, .exit id, hIx b _ _ _ _ (w.heap.size + 1) (by omega) hi3 (One.put _ _ _) (by omega) (.inr ⟨_, hl3, rfl⟩), hl4, hk4⟩⟩
      | goto t => exact hp.elim
      | panic ch => exact hp.elim
      | outgrown => exact hp.elim
    · rintro e W2 ⟨⟨v, rfl⟩, b, hb, (⟨hi, hl, hk⟩ | ⟨pre, hpre, c, hi, hl, hk⟩)⟩
      · exact ⟨none, _, by have := run_endLoop (P := P) hl (by rw [hrec]; simp); rw [hrec] at this; exact this, hdone _ b _ (Nat.le_refl _) (by omega)
          (hI b _ _ _ (w.heap.size + 1) (by omega) hi (One.put _ _ _) (by omega) (.inr ⟨_, hl, rfl⟩)) ((World.putObj_heap_other (by omega)).trans hk)⟩
      · exact ⟨some c, _, by have := run_endLoop (P := P) hl (by rw [hrec]; simp); rw [hrec] at this; exact this, hstop _ b c pre _ (Nat.le_refl _) (by omega) hpre
          (hIx b _ _ _ _ (w.heap.size + 1) (by omega) hi (One.put _ _ _) (by omega) (.inr ⟨_, hl, rfl⟩)) ((World.putObj_heap_other (by omega)).trans hk)⟩
end Go.Proofs.Ytangfmmjpomlgaa
