
/-
  The cheapest feasible point: the program's SolveExact.
-/
import Derived.Test.YtangfmmjpomlgaaNe
import Derived.Test.YtangfmmjpomlgaaAp
import Derived.Test.YtangfmmjpomlgaaQ4
set_option linter.unusedSimpArgs false
set_option linter.unusedVariables false
namespace Go.Proofs.Ytangfmmjpomlgaa
open Go.RowKit
attribute [local go_sem] Oper.semAt_some

theorem pt_cost {p : PProb} {x : List Int} (h : vProb p = true) (hx : x ∈ pts p.uppers) : 0 ≤ dotW p.costs x ∧ dotW p.costs x ≤ 5000 := by
  have hul := vProb_ul h
  have h5 := (vProb_N5 h).1
  have hu := vProb_us h
  have hund := (mem_pts fun u h => (hu u h).1).1 hx
  simp only [vProb, Bool.and_eq_true, decide_eq_true_eq] at h
  have hc := h.2.2.2.1.1
  have hcs : ∀ i, i < p.costs.length → 0 ≤ p.costs.getD i 0 ∧ p.costs.getD i 0 ≤ 99 := fun i hi => inB_iff.1 (at_all (p := fun x => inB x 0 99) hc hi)
  have hxs : ∀ i, i < p.costs.length → 0 ≤ x.getD i 0 ∧ x.getD i 0 ≤ 9 := fun i hi => by
    have h1 := under_at hund i (by omega)
    have h2 := (hu _ (List.getElem_mem (show i < p.uppers.length by omega))).2
    have e : p.uppers.getD i 0 = p.uppers[i] := by rw [List.getD_eq_getElem?_getD, List.getElem?_eq_getElem (by omega)]; rfl
    omega
  obtain ⟨e, _, b2⟩ := dot_sum (cs := p.costs) (xs := x) (n := p.costs.length) (by omega) (fun i hi => by have := hcs i hi; omega) hxs
  have lo : sumT (fun _ => 0) p.costs.length ≤ sumT (fun i => p.costs.getD i 0 * x.getD i 0) p.costs.length := sumT_mono fun i hi => Int.mul_nonneg (hcs i hi).1 (hxs i hi).1
  have z : ∀ k, sumT (fun _ => 0) k = 0 := fun k => by
    induction k with
    | zero => rfl
    | succ k ih => show sumT (fun _ => 0) k + 0 = 0; omega
  rw [z] at lo
  unfold dotW
  omega
theorem pre_cost {p : PProb} {pre : List (List Int)} (h : vProb p = true) (hp : pre <+: pts p.uppers) : ∀ x ∈ pre, 0 ≤ dotW p.costs x := fun x hx => (pt_cost h (hp.subset hx)).1
theorem slv_in {f : List Int → Int} {ok : List Int → Bool} {L : List (List Int)} (hf : ∀ x ∈ L, 0 ≤ f x) : slv f ok L = ([], -1) ∨ ((slv f ok L).1 ∈ L ∧ (slv f ok L).2 = f (slv f ok L).1 ∧ 0 ≤ (slv f ok L).2) := by
  rcases slv_says f ok L hf with ⟨h, _⟩ | ⟨a, b, h1, h2, h3, h4, _⟩
  · exact .inl h
  · refine .inr ⟨?_, h3, h4⟩
    have hm : (slv f ok L).1 ∈ a ++ (slv f ok L).1 :: b := by simp
    rwa [← h1] at hm
theorem OwnI.one {A B : World} {b g r : Nat} {L : List Int} (h : OwnI A g L) (hL : L ≠ []) (ho : One r A B) (hr : r = b ∨ ∃ o : Obj, A.heap[r]? = some o ∧ o.isCells = false) (hg : g ≠ b) : OwnI B g L := by
  refine OwnI.turn (Lib.hid ho) ?_ h
  have hne : g ≠ r := by
    rintro rfl
    rcases hr with rfl | ⟨o, ho, hc⟩
    · exact hg rfl
    · obtain ⟨x, xs, rfl⟩ := List.exists_cons_of_ne_nil hL
      obtain ⟨o', ho', hc'⟩ := cells_of_cell (h.2 0 x rfl).1
      rw [ho] at ho'
      cases ho'
      rw [hc] at hc'
      cases hc'
  omega
theorem OwnS.getJ {w : World} {lo hi : Nat} {A : Option Addr} {xs : List Int} (h : OwnS w lo hi A xs) (hn : 0 < xs.length) : ∃ g, A = some ⟨g, 0, none⟩ ∧ lo ≤ g ∧ g < hi ∧ OwnI w g xs := by
  rcases h.1 with h0 | h0
  · subst h0; simp at hn
  · exact h0
/-- A slice of numbers and a number. -/
def PairJ (L : List Int) (x : Int) (w : World) (e : Ending) (w' : World) : Prop := ∃ (A : Option Addr) (c : Nat), e = .returned (.tuple #[.slice A L.length c, .int .i64 x]) ∧ OwnS w' w.heap.size w'.heap.size A L ∧ Below w.heap.size w w'
theorem PairJ.nil {L : List Int} {x y : Int} {w w' : World} (h : L = [] ∧ x = y) (hb : Below w.heap.size w w') : PairJ L x w (.returned (.tuple #[.slice none 0 0, .int .i64 y])) w' := by
  obtain ⟨rfl, rfl⟩ := h; exact ⟨none, 0, rfl, OwnS.nil _ _ _ _, hb⟩
theorem sol_1 {p : PProb} (h : vProb p = false) : solL p = [] ∧ solC p = -1 := ⟨solL_1 h, solC_1 h⟩
/-- The slice best of the points pre: nil, or a block of its own apart from b. -/
def BestI (p : PProb) (lo b : Nat) (pre : List (List Int)) (A : Option Addr) (W : World) : Prop := (slv (dotW p.costs) (allB p.rows) pre).1 = [] ∨ ∃ g, A = some ⟨g, 0, none⟩ ∧ lo ≤ g ∧ g ≠ b ∧ OwnI W g (slv (dotW p.costs) (allB p.rows) pre).1
theorem BestI.one {p : PProb} {lo b r : Nat} {pre : List (List Int)} {A : Option Addr} {W W' : World} (h : BestI p lo b pre A W) (ho : One r W W') (hr : r = b ∨ ∃ o : Obj, W.heap[r]? = some o ∧ o.isCells = false) : BestI p lo b pre A W' := by
  by_cases e : (slv (dotW p.costs) (allB p.rows) pre).1 = []
  · exact .inl e
  · rcases h with h | ⟨g, h1, h2, h3, h4⟩
    · exact absurd h e
    · exact .inr ⟨g, h1, h2, h3, h4.one e ho hr h3⟩
theorem BestI.below {p : PProb} {lo b : Nat} {pre : List (List Int)} {A : Option Addr} {W W' : World} (h : BestI p lo b pre A W) (ho : Below W.heap.size W W') : BestI p lo b pre A W' := by
  rcases h with h | ⟨g, h1, h2, h3, h4⟩
  · exact .inl h
  · exact .inr ⟨g, h1, h2, h3, h4.below ho⟩

theorem BestI.ends {p : PProb} {w W : World} {b c : Nat} {A : Option Addr} (hv : vProb p = true) (h : BestI p w.heap.size b (pts p.uppers) A W) (hb : Below w.heap.size w W) :
    PairJ (solL p) (solC p) w (.returned (.tuple #[.slice A (slv (dotW p.costs) (allB p.rows) (pts p.uppers)).1.length c, .int .i64 (slv (dotW p.costs) (allB p.rows) (pts p.uppers)).2])) W := by
  refine ⟨A, c, by rw [solL_2 hv, solC_2 hv], ?_, hb⟩
  rw [solL_2 hv]
  have hbd : (∀ v ∈ (slv (dotW p.costs) (allB p.rows) (pts p.uppers)).1, I64 v) ∧ (slv (dotW p.costs) (allB p.rows) (pts p.uppers)).1.length ≤ 1048576 := by
    rcases slv_in (ok := allB p.rows) (pre_cost hv (pre := pts p.uppers) (List.prefix_refl _)) with e | ⟨h1, _⟩
    · rw [e]; simp
    · refine ⟨pts_bd (vProb_us hv) h1, ?_⟩
      have h2 := pts_len (vProb_us hv) h1
      have h3 := (vProb_N5 hv).1
      omega
  rcases h with h | ⟨g, rfl, h1, h2, h3⟩
  · exact ⟨.inl h, hbd⟩
  · exact ⟨.inr ⟨g, rfl, h1, h3.1, h3⟩, hbd⟩

set_option maxHeartbeats 4000000 in
set_option maxRecDepth 100000 in
theorem impl_SolveExact (A0 A1 A2 : Option Addr) (c0 c1 c2 : Nat) (p : PProb) (w : World) (hp : ProbV w A0 A1 A2 c0 c1 c2 p) :
    Calls Try.prog 10 #[.agg #[.slice A0 p.costs.length c0, .slice A1 p.uppers.length c1, .slice A2 p.rows.length c2]] w (PairJ (solL p) (solC p) w) := by
  have HP := Lib.hid hp; clear hp
  cases hv : vProb p
  · have E := Lib.hid (sol_1 hv)
    go_enter Try.func10, Try.ntmps10
    go_wp2_with fail
    refine (impl_ValidProblem _ _ _ _ _ _ p _ (HP.out.below (by (repeat' (first | (with_reducible exact Below.refl _ _) | (with_reducible refine belS ?_ (by first | omega | (simp; done) | (simp; omega) | (simp only [World.size_alloc, World.size_setCell, World.size_drew] at *; omega))) | (with_reducible refine belA ?_ (by first | omega | (simp; done) | (simp; omega) | (simp only [World.size_alloc, World.size_setCell, World.size_drew] at *; omega))) | (with_reducible refine bel_drewN ?_ _) | (with_reducible refine Below.drew ?_) | (with_reducible assumption) | (refine Hid.out ?_; with_reducible assumption) | (apply belV; (with_reducible assumption); exact (by first | omega | (simp; done) | (simp; omega) | (simp only [World.size_alloc, World.size_setCell, World.size_drew] at *; omega)))))))).mono ?_
    rintro e w1 ⟨rfl, hb⟩
    have G1 : Hid (Below w.heap.size w w1) := belU hb (by (repeat' (first | (with_reducible exact Below.refl _ _) | (with_reducible refine belS ?_ (by first | omega | (simp; done) | (simp; omega) | (simp only [World.size_alloc, World.size_setCell, World.size_drew] at *; omega))) | (with_reducible refine belA ?_ (by first | omega | (simp; done) | (simp; omega) | (simp only [World.size_alloc, World.size_setCell, World.size_drew] at *; omega))) | (with_reducible refine bel_drewN ?_ _) | (with_reducible refine Below.drew ?_) | (with_reducible assumption) | (refine Hid.out ?_; with_reducible assumption) | (apply belV; (with_reducible assumption); exact (by first | omega | (simp; done) | (simp; omega) | (simp only [World.size_alloc, World.size_setCell, World.size_drew] at *; omega)))))) (by first | omega | (simp; done) | (simp; omega) | (simp only [World.size_alloc, World.size_setCell, World.size_drew] at *; omega))
    have X_1 : Hid (Box w1 (w.heap.size) #[.slice A0 p.costs.length c0, .slice A1 p.uppers.length c1, .slice A2 p.rows.length c2]) := Lib.hid (Box.below (by (repeat' (first | (with_reducible exact Box.new _ _ _ (by first | omega | (simp; done) | (simp; omega) | (simp only [World.size_alloc, World.size_setCell, World.size_drew] at *; omega))) | (with_reducible refine Box.far ?_ (by first | omega | (simp; done) | (simp; omega) | (simp only [World.size_alloc, World.size_setCell, World.size_drew] at *; omega)) _) | (apply Box.put3_0) | (apply Box.put3_1) | (apply Box.put3_2) | (apply Box.put2_0) | (apply Box.put2_1) | (with_reducible refine Box.alloc ?_ _) | (with_reducible refine Box.drewN ?_ _) | (with_reducible refine Box.drew ?_) | (with_reducible assumption) | (refine Hid.out ?_; with_reducible assumption) | (apply Box.only; (with_reducible assumption); exact (by first | omega | (simp; done) | (simp; omega) | (simp only [World.size_alloc, World.size_setCell, World.size_drew] at *; omega))) | (apply Box.belowD; (with_reducible assumption))))) hb)
    have yX_1 : w.heap.size < w1.heap.size := X_1.out.1
    obtain ⟨X_1c0, X_1c1, X_1c2⟩ := Box.facts3 X_1.out
    have z1 := hb.size
    (try simp at z1)
    have D1 := Lib.hid hb; clear hb
    rw [hv]
    go_wp2_with fail
    go_ret2
    exact PairJ.nil E.out (by (repeat' (first | (with_reducible exact Below.refl _ _) | (with_reducible refine belS ?_ (by first | omega | (simp; done) | (simp; omega) | (simp only [World.size_alloc, World.size_setCell, World.size_drew] at *; omega))) | (with_reducible refine belA ?_ (by first | omega | (simp; done) | (simp; omega) | (simp only [World.size_alloc, World.size_setCell, World.size_drew] at *; omega))) | (with_reducible refine bel_drewN ?_ _) | (with_reducible refine Below.drew ?_) | (with_reducible assumption) | (refine Hid.out ?_; with_reducible assumption) | (apply belV; (with_reducible assumption); exact (by first | omega | (simp; done) | (simp; omega) | (simp only [World.size_alloc, World.size_setCell, World.size_drew] at *; omega))))))
  · have HV := Lib.hid hv
    obtain ⟨N, hN⟩ : ∃ N, p.uppers.length = N := ⟨_, rfl⟩
    have h5 : N ≤ 5 := by rw [← hN]; exact (vProb_N5 hv).1
    have h1N : 1 ≤ N := by rw [← hN]; exact (vProb_N5 hv).2
    have hcn : p.costs.length ≤ N := by rw [← hN]; exact Nat.le_of_eq (vProb_ul hv).symm
    have HN := Lib.hid hN; clear hN
    have hN5 : N ≤ maxLen := by unfold maxLen; omega
    refine (callsIn_wide (n := 6)).1 ?_
    refine callsIn_of_wp_marks Try.func10 rfl trivial ?_ rfl
    simp only [Try.ntmps10, List.size_toArray, List.length_cons, List.length_nil, Nat.reduceAdd, Nat.reduceSub, Array.replicate_succ, Array.replicate_zero, List.push_toArray, List.append_toArray, List.nil_append, List.cons_append]
    gi_wp2
    refine ⟨trivial, (callsIn_wide.2 (impl_ValidProblem _ _ _ _ _ _ p _ (HP.out.below (by (repeat' (first | (with_reducible exact Below.refl _ _) | (with_reducible refine belS ?_ (by first | omega | (simp; done) | (simp; omega) | (simp only [World.size_alloc, World.size_setCell, World.size_drew] at *; omega))) | (with_reducible refine belA ?_ (by first | omega | (simp; done) | (simp; omega) | (simp only [World.size_alloc, World.size_setCell, World.size_drew] at *; omega))) | (with_reducible refine bel_drewN ?_ _) | (with_reducible refine Below.drew ?_) | (with_reducible assumption) | (refine Hid.out ?_; with_reducible assumption) | (apply belV; (with_reducible assumption); exact (by first | omega | (simp; done) | (simp; omega) | (simp only [World.size_alloc, World.size_setCell, World.size_drew] at *; omega))))))))).mono ?_⟩
    rintro e w1 ⟨rfl, hb⟩
    have G1 : Hid (Below w.heap.size w w1) := belU hb (by (repeat' (first | (with_reducible exact Below.refl _ _) | (with_reducible refine belS ?_ (by first | omega | (simp; done) | (simp; omega) | (simp only [World.size_alloc, World.size_setCell, World.size_drew] at *; omega))) | (with_reducible refine belA ?_ (by first | omega | (simp; done) | (simp; omega) | (simp only [World.size_alloc, World.size_setCell, World.size_drew] at *; omega))) | (with_reducible refine bel_drewN ?_ _) | (with_reducible refine Below.drew ?_) | (with_reducible assumption) | (refine Hid.out ?_; with_reducible assumption) | (apply belV; (with_reducible assumption); exact (by first | omega | (simp; done) | (simp; omega) | (simp only [World.size_alloc, World.size_setCell, World.size_drew] at *; omega)))))) (by first | omega | (simp; done) | (simp; omega) | (simp only [World.size_alloc, World.size_setCell, World.size_drew] at *; omega))
    have X_1 : Hid (Box w1 (w.heap.size) #[.slice A0 p.costs.length c0, .slice A1 p.uppers.length c1, .slice A2 p.rows.length c2]) := Lib.hid (Box.below (by (repeat' (first | (with_reducible exact Box.new _ _ _ (by first | omega | (simp; done) | (simp; omega) | (simp only [World.size_alloc, World.size_setCell, World.size_drew] at *; omega))) | (with_reducible refine Box.far ?_ (by first | omega | (simp; done) | (simp; omega) | (simp only [World.size_alloc, World.size_setCell, World.size_drew] at *; omega)) _) | (apply Box.put3_0) | (apply Box.put3_1) | (apply Box.put3_2) | (apply Box.put2_0) | (apply Box.put2_1) | (with_reducible refine Box.alloc ?_ _) | (with_reducible refine Box.drewN ?_ _) | (with_reducible refine Box.drew ?_) | (with_reducible assumption) | (refine Hid.out ?_; with_reducible assumption) | (apply Box.only; (with_reducible assumption); exact (by first | omega | (simp; done) | (simp; omega) | (simp only [World.size_alloc, World.size_setCell, World.size_drew] at *; omega))) | (apply Box.belowD; (with_reducible assumption))))) hb)
    have yX_1 : w.heap.size < w1.heap.size := X_1.out.1
    obtain ⟨X_1c0, X_1c1, X_1c2⟩ := Box.facts3 X_1.out
    have z1 := hb.size
    (try simp at z1)
    have D1 := Lib.hid hb; clear hb
    rw [hv]
    clear hv
    gi_wp2
    refine ⟨trivial, (callsIn_wide.2 (impl_points _ _ _ _ _ _ p _)).mono ?_⟩
    rintro e w2 ⟨rfl, hbp, hb⟩
    have G2 : Hid (Below w.heap.size w w2) := belU hb (by (repeat' (first | (with_reducible exact Below.refl _ _) | (with_reducible refine belS ?_ (by first | omega | (simp; done) | (simp; omega) | (simp only [World.size_alloc, World.size_setCell, World.size_drew] at *; omega))) | (with_reducible refine belA ?_ (by first | omega | (simp; done) | (simp; omega) | (simp only [World.size_alloc, World.size_setCell, World.size_drew] at *; omega))) | (with_reducible refine bel_drewN ?_ _) | (with_reducible refine Below.drew ?_) | (with_reducible assumption) | (refine Hid.out ?_; with_reducible assumption) | (apply belV; (with_reducible assumption); exact (by first | omega | (simp; done) | (simp; omega) | (simp only [World.size_alloc, World.size_setCell, World.size_drew] at *; omega)))))) (by first | omega | (simp; done) | (simp; omega) | (simp only [World.size_alloc, World.size_setCell, World.size_drew] at *; omega))
    (try simp only [World.size_alloc, World.size_setCell, World.size_drew, World.heap_drewN] at hbp)
    have BP := Lib.hid hbp; clear hbp
    have X_2 : Hid (Box w2 (w.heap.size) #[.slice A0 p.costs.length c0, .slice A1 p.uppers.length c1, .slice A2 p.rows.length c2]) := Lib.hid (Box.below (by (repeat' (first | (with_reducible exact Box.new _ _ _ (by first | omega | (simp; done) | (simp; omega) | (simp only [World.size_alloc, World.size_setCell, World.size_drew] at *; omega))) | (with_reducible refine Box.far ?_ (by first | omega | (simp; done) | (simp; omega) | (simp only [World.size_alloc, World.size_setCell, World.size_drew] at *; omega)) _) | (apply Box.put3_0) | (apply Box.put3_1) | (apply Box.put3_2) | (apply Box.put2_0) | (apply Box.put2_1) | (with_reducible refine Box.alloc ?_ _) | (with_reducible refine Box.drewN ?_ _) | (with_reducible refine Box.drew ?_) | (with_reducible assumption) | (refine Hid.out ?_; with_reducible assumption) | (apply Box.only; (with_reducible assumption); exact (by first | omega | (simp; done) | (simp; omega) | (simp only [World.size_alloc, World.size_setCell, World.size_drew] at *; omega))) | (apply Box.belowD; (with_reducible assumption))))) hb)
    have yX_2 : w.heap.size < w2.heap.size := X_2.out.1
    obtain ⟨X_2c0, X_2c1, X_2c2⟩ := Box.facts3 X_2.out
    have S_2 : Hid (Box w2 (w1.heap.size) #[.slice none 0 0]) := Lib.hid (Box.below (by (repeat' (first | (with_reducible exact Box.new _ _ _ (by first | omega | (simp; done) | (simp; omega) | (simp only [World.size_alloc, World.size_setCell, World.size_drew] at *; omega))) | (with_reducible refine Box.far ?_ (by first | omega | (simp; done) | (simp; omega) | (simp only [World.size_alloc, World.size_setCell, World.size_drew] at *; omega)) _) | (apply Box.put3_0) | (apply Box.put3_1) | (apply Box.put3_2) | (apply Box.put2_0) | (apply Box.put2_1) | (with_reducible refine Box.alloc ?_ _) | (with_reducible refine Box.drewN ?_ _) | (with_reducible refine Box.drew ?_) | (with_reducible assumption) | (refine Hid.out ?_; with_reducible assumption) | (apply Box.only; (with_reducible assumption); exact (by first | omega | (simp; done) | (simp; omega) | (simp only [World.size_alloc, World.size_setCell, World.size_drew] at *; omega))) | (apply Box.belowD; (with_reducible assumption))))) hb)
    have yS_2 : w1.heap.size < w2.heap.size := S_2.out.1
    have S_2c := Box.facts1 S_2.out
    have S_2f0 := Box.frz S_2.out 0 (by first | decide | simp)
    have C_2 : Hid (Box w2 (w1.heap.size+1) #[.int .i64 (-1)]) := Lib.hid (Box.below (by (repeat' (first | (with_reducible exact Box.new _ _ _ (by first | omega | (simp; done) | (simp; omega) | (simp only [World.size_alloc, World.size_setCell, World.size_drew] at *; omega))) | (with_reducible refine Box.far ?_ (by first | omega | (simp; done) | (simp; omega) | (simp only [World.size_alloc, World.size_setCell, World.size_drew] at *; omega)) _) | (apply Box.put3_0) | (apply Box.put3_1) | (apply Box.put3_2) | (apply Box.put2_0) | (apply Box.put2_1) | (with_reducible refine Box.alloc ?_ _) | (with_reducible refine Box.drewN ?_ _) | (with_reducible refine Box.drew ?_) | (with_reducible assumption) | (refine Hid.out ?_; with_reducible assumption) | (apply Box.only; (with_reducible assumption); exact (by first | omega | (simp; done) | (simp; omega) | (simp only [World.size_alloc, World.size_setCell, World.size_drew] at *; omega))) | (apply Box.belowD; (with_reducible assumption))))) hb)
    have yC_2 : w1.heap.size+1 < w2.heap.size := C_2.out.1
    have C_2c := Box.facts1 C_2.out
    have C_2f0 := Box.frz C_2.out 0 (by first | decide | simp)
    have z2 := hb.size
    (try simp at z2)
    have D2 := Lib.hid hb; clear hb
    have BP2 := BP.out
    have zbp := BP2.1
    have SN2 := S_2.out
    have CN2 := C_2.out
    gi_wp2
    refine wpIn_rangeFunc_at (a := _) (w := _) rfl (by omega) (gf := 55) (lb := #[.pointer (some ⟨w1.heap.size + 1 + 1, 0, none⟩)]) rfl trivial (enters_of Try.func55 (by kernel_rfl) rfl)
      (points_at _ _ _ _ _ _ N _ _ p w _ HP.out (by (repeat' (first | (with_reducible exact Below.refl _ _) | (with_reducible refine belS ?_ (by first | omega | (simp; done) | (simp; omega) | (simp only [World.size_alloc, World.size_setCell, World.size_drew] at *; omega))) | (with_reducible refine belA ?_ (by first | omega | (simp; done) | (simp; omega) | (simp only [World.size_alloc, World.size_setCell, World.size_drew] at *; omega))) | (with_reducible refine bel_drewN ?_ _) | (with_reducible refine Below.drew ?_) | (with_reducible assumption) | (refine Hid.out ?_; with_reducible assumption) | (apply belV; (with_reducible assumption); exact (by first | omega | (simp; done) | (simp; omega) | (simp only [World.size_alloc, World.size_setCell, World.size_drew] at *; omega)))))) BP2 (vProb_us HV.out) HN.out.symm h5 (by omega)) (by omega) (fun _ _ => rfl)
      (fun b pre W => ∃ (A : Option Addr) (c : Nat), Box W w1.heap.size #[.slice A (slv (dotW p.costs) (allB p.rows) pre).1.length c] ∧ BestI p w.heap.size b pre A W ∧ Box W (w1.heap.size + 1) #[.int .i64 (slv (dotW p.costs) (allB p.rows) pre).2] ∧ Box W w.heap.size #[.slice A0 p.costs.length c0, .slice A1 p.uppers.length c1, .slice A2 p.rows.length c2] ∧ Below w.heap.size w W) (fun _ _ _ _ => False)
      ?hI (fun _ _ _ _ _ _ _ h _ _ _ => h) ?hAt ?h0 ?a1 ?assign ?body ?done ?stop
    case assign =>
      intro l b x W K hK
      gi_wp2
      exact hK
    case hI => exact fun b s A B r hb ⟨A9, c9, h1, h2, h3, h4, h5⟩ ho hr hor => ⟨A9, c9, Box.turn (Lib.hid ho) (by omega) h1, h2.one ho hor, Box.turn (Lib.hid ho) (by omega) h3, Box.turn (Lib.hid ho) (by omega) h4, Below.turn h5 ho (by omega) h5.size⟩
    case hAt => exact fun b x A B r h ho hr hle => ⟨OwnI.turn (Lib.hid ho) (by omega) h.1, Box.turn (Lib.hid ho) (by omega) h.2⟩
    case h0 => exact fun b hb => ⟨none, 0, SN2, .inl rfl, CN2, X_2.out, G2.out⟩
    case body =>
      intro l b pre x rest W hb hpts hI hat
      obtain ⟨A9, c9, hS, hbest, hc, hX, hbel⟩ := hI
      obtain ⟨hown, hbox⟩ := hat
      have hmem := Lib.hid (ppu_len hpts)
      have HCO := Lib.hid (pt_cost HV.out hmem.out)
      have HLO := Lib.hid (slv_in (ok := allB p.rows) (pre_cost HV.out (pre := pre) ⟨x :: rest, hpts.symm⟩))
      have HCB : Hid (-1 ≤ (slv (dotW p.costs) (allB p.rows) pre).2 ∧ (slv (dotW p.costs) (allB p.rows) pre).2 ≤ 5000) := Lib.hid (by
        rcases HLO.out with h | ⟨h1, h2, h3⟩
        · rw [h]; decide
        · have := pt_cost HV.out (x := (slv (dotW p.costs) (allB p.rows) pre).1) (by rw [hpts]; simp [h1])
          omega)
      have HPT := Lib.hid hpts; clear hpts
      have HX : Hid (Ints W (some ⟨b, 0, none⟩) N x) := Lib.hid (by have := hown.ints (pts_bd (vProb_us HV.out) hmem.out); rwa [pts_len (vProb_us HV.out) hmem.out, HN.out] at this)
      have HF : Hid (Fits p N) := Lib.hid (by have := pt_fits HV.out hmem.out; rwa [pts_len (vProb_us HV.out) hmem.out, HN.out] at this)
      obtain ⟨x0, x1, x2⟩ := Box.facts3 hX
      have y0 := hX.1
      have yb := hown.1
      have hown := Lib.hid hown
      have hbox := Lib.hid hbox
      have hbest := Lib.hid hbest
      obtain ⟨best, hbe⟩ : ∃ L, (slv (dotW p.costs) (allB p.rows) pre).1 = L := ⟨_, rfl⟩
      obtain ⟨least, hle⟩ : ∃ c, (slv (dotW p.costs) (allB p.rows) pre).2 = c := ⟨_, rfl⟩
      obtain ⟨cost, hco⟩ : ∃ c, dotW p.costs x = c := ⟨_, rfl⟩
      have HBE := Lib.hid hbe
      have HLE := Lib.hid hle
      have HC := Lib.hid hco
      rw [hbe] at hS
      rw [hle] at hc HCB
      rw [hco] at HCO
      clear hbe hle hco
      have hco := HCO.out
      have hcb := HCB.out
      have hcc := Box.facts1 hc
      gi_wp2
      refine ⟨trivial, (CallsIn.inRound l (callsIn_wide.2 (impl_cost _ _ _ _ _ _ _ N _ p x _ (HP.out.below (by (repeat' (first | (with_reducible exact Below.refl _ _) | (with_reducible refine belS ?_ (by first | omega | (simp; done) | (simp; omega) | (simp only [World.size_alloc, World.size_setCell, World.size_drew] at *; omega))) | (with_reducible refine belA ?_ (by first | omega | (simp; done) | (simp; omega) | (simp only [World.size_alloc, World.size_setCell, World.size_drew] at *; omega))) | (with_reducible refine bel_drewN ?_ _) | (with_reducible refine Below.drew ?_) | (with_reducible assumption) | (refine Hid.out ?_; with_reducible assumption) | (apply belV; (with_reducible assumption); exact (by first | omega | (simp; done) | (simp; omega) | (simp only [World.size_alloc, World.size_setCell, World.size_drew] at *; omega))))))) HX.out hN5 hcn))).mono ?_⟩
      rintro e w3 ⟨rfl, hb⟩
      have G3 : Hid (Below w.heap.size w w3) := belU hb (by (repeat' (first | (with_reducible exact Below.refl _ _) | (with_reducible refine belS ?_ (by first | omega | (simp; done) | (simp; omega) | (simp only [World.size_alloc, World.size_setCell, World.size_drew] at *; omega))) | (with_reducible refine belA ?_ (by first | omega | (simp; done) | (simp; omega) | (simp only [World.size_alloc, World.size_setCell, World.size_drew] at *; omega))) | (with_reducible refine bel_drewN ?_ _) | (with_reducible refine Below.drew ?_) | (with_reducible assumption) | (refine Hid.out ?_; with_reducible assumption) | (apply belV; (with_reducible assumption); exact (by first | omega | (simp; done) | (simp; omega) | (simp only [World.size_alloc, World.size_setCell, World.size_drew] at *; omega)))))) (by first | omega | (simp; done) | (simp; omega) | (simp only [World.size_alloc, World.size_setCell, World.size_drew] at *; omega))
      have X_3 : Hid (Box w3 (w.heap.size) #[.slice A0 p.costs.length c0, .slice A1 p.uppers.length c1, .slice A2 p.rows.length c2]) := Lib.hid (Box.below (by (repeat' (first | (with_reducible exact Box.new _ _ _ (by first | omega | (simp; done) | (simp; omega) | (simp only [World.size_alloc, World.size_setCell, World.size_drew] at *; omega))) | (with_reducible refine Box.far ?_ (by first | omega | (simp; done) | (simp; omega) | (simp only [World.size_alloc, World.size_setCell, World.size_drew] at *; omega)) _) | (apply Box.put3_0) | (apply Box.put3_1) | (apply Box.put3_2) | (apply Box.put2_0) | (apply Box.put2_1) | (with_reducible refine Box.alloc ?_ _) | (with_reducible refine Box.drewN ?_ _) | (with_reducible refine Box.drew ?_) | (with_reducible assumption) | (refine Hid.out ?_; with_reducible assumption) | (apply Box.only; (with_reducible assumption); exact (by first | omega | (simp; done) | (simp; omega) | (simp only [World.size_alloc, World.size_setCell, World.size_drew] at *; omega))) | (apply Box.belowD; (with_reducible assumption))))) hb)
      have yX_3 : w.heap.size < w3.heap.size := X_3.out.1
      obtain ⟨X_3c0, X_3c1, X_3c2⟩ := Box.facts3 X_3.out
      have S_3 : Hid (Box w3 (w1.heap.size) #[.slice A9 best.length c9]) := Lib.hid (Box.below (by (repeat' (first | (with_reducible exact Box.new _ _ _ (by first | omega | (simp; done) | (simp; omega) | (simp only [World.size_alloc, World.size_setCell, World.size_drew] at *; omega))) | (with_reducible refine Box.far ?_ (by first | omega | (simp; done) | (simp; omega) | (simp only [World.size_alloc, World.size_setCell, World.size_drew] at *; omega)) _) | (apply Box.put3_0) | (apply Box.put3_1) | (apply Box.put3_2) | (apply Box.put2_0) | (apply Box.put2_1) | (with_reducible refine Box.alloc ?_ _) | (with_reducible refine Box.drewN ?_ _) | (with_reducible refine Box.drew ?_) | (with_reducible assumption) | (refine Hid.out ?_; with_reducible assumption) | (apply Box.only; (with_reducible assumption); exact (by first | omega | (simp; done) | (simp; omega) | (simp only [World.size_alloc, World.size_setCell, World.size_drew] at *; omega))) | (apply Box.belowD; (with_reducible assumption))))) hb)
      have yS_3 : w1.heap.size < w3.heap.size := S_3.out.1
      have S_3c := Box.facts1 S_3.out
      have S_3f0 := Box.frz S_3.out 0 (by first | decide | simp)
      have C_3 : Hid (Box w3 (w1.heap.size+1) #[.int .i64 least]) := Lib.hid (Box.below (by (repeat' (first | (with_reducible exact Box.new _ _ _ (by first | omega | (simp; done) | (simp; omega) | (simp only [World.size_alloc, World.size_setCell, World.size_drew] at *; omega))) | (with_reducible refine Box.far ?_ (by first | omega | (simp; done) | (simp; omega) | (simp only [World.size_alloc, World.size_setCell, World.size_drew] at *; omega)) _) | (apply Box.put3_0) | (apply Box.put3_1) | (apply Box.put3_2) | (apply Box.put2_0) | (apply Box.put2_1) | (with_reducible refine Box.alloc ?_ _) | (with_reducible refine Box.drewN ?_ _) | (with_reducible refine Box.drew ?_) | (with_reducible assumption) | (refine Hid.out ?_; with_reducible assumption) | (apply Box.only; (with_reducible assumption); exact (by first | omega | (simp; done) | (simp; omega) | (simp only [World.size_alloc, World.size_setCell, World.size_drew] at *; omega))) | (apply Box.belowD; (with_reducible assumption))))) hb)
      have yC_3 : w1.heap.size+1 < w3.heap.size := C_3.out.1
      have C_3c := Box.facts1 C_3.out
      have C_3f0 := Box.frz C_3.out 0 (by first | decide | simp)
      have z3 := hb.size
      (try simp at z3)
      have D3 := Lib.hid hb; clear hb
      rw [HC.out]
      have T3 := D3
      by_cases h0 : least < 0
      · skip
        gi_wp2
        refine ⟨trivial, (CallsIn.inRound l (callsIn_wide.2 (impl_allows _ _ _ _ _ _ _ N _ p x _ (HP.out.below (by (repeat' (first | (with_reducible exact Below.refl _ _) | (with_reducible refine belS ?_ (by first | omega | (simp; done) | (simp; omega) | (simp only [World.size_alloc, World.size_setCell, World.size_drew] at *; omega))) | (with_reducible refine belA ?_ (by first | omega | (simp; done) | (simp; omega) | (simp only [World.size_alloc, World.size_setCell, World.size_drew] at *; omega))) | (with_reducible refine bel_drewN ?_ _) | (with_reducible refine Below.drew ?_) | (with_reducible assumption) | (refine Hid.out ?_; with_reducible assumption) | (apply belV; (with_reducible assumption); exact (by first | omega | (simp; done) | (simp; omega) | (simp only [World.size_alloc, World.size_setCell, World.size_drew] at *; omega))))))) (HX.out.below D3.out) hN5 HF.out))).mono ?_⟩
        rintro e w4 ⟨rfl, hb⟩
        have G4 : Hid (Below w.heap.size w w4) := belU hb (by (repeat' (first | (with_reducible exact Below.refl _ _) | (with_reducible refine belS ?_ (by first | omega | (simp; done) | (simp; omega) | (simp only [World.size_alloc, World.size_setCell, World.size_drew] at *; omega))) | (with_reducible refine belA ?_ (by first | omega | (simp; done) | (simp; omega) | (simp only [World.size_alloc, World.size_setCell, World.size_drew] at *; omega))) | (with_reducible refine bel_drewN ?_ _) | (with_reducible refine Below.drew ?_) | (with_reducible assumption) | (refine Hid.out ?_; with_reducible assumption) | (apply belV; (with_reducible assumption); exact (by first | omega | (simp; done) | (simp; omega) | (simp only [World.size_alloc, World.size_setCell, World.size_drew] at *; omega)))))) (by first | omega | (simp; done) | (simp; omega) | (simp only [World.size_alloc, World.size_setCell, World.size_drew] at *; omega))
        have X_4 : Hid (Box w4 (w.heap.size) #[.slice A0 p.costs.length c0, .slice A1 p.uppers.length c1, .slice A2 p.rows.length c2]) := Lib.hid (Box.below (by (repeat' (first | (with_reducible exact Box.new _ _ _ (by first | omega | (simp; done) | (simp; omega) | (simp only [World.size_alloc, World.size_setCell, World.size_drew] at *; omega))) | (with_reducible refine Box.far ?_ (by first | omega | (simp; done) | (simp; omega) | (simp only [World.size_alloc, World.size_setCell, World.size_drew] at *; omega)) _) | (apply Box.put3_0) | (apply Box.put3_1) | (apply Box.put3_2) | (apply Box.put2_0) | (apply Box.put2_1) | (with_reducible refine Box.alloc ?_ _) | (with_reducible refine Box.drewN ?_ _) | (with_reducible refine Box.drew ?_) | (with_reducible assumption) | (refine Hid.out ?_; with_reducible assumption) | (apply Box.only; (with_reducible assumption); exact (by first | omega | (simp; done) | (simp; omega) | (simp only [World.size_alloc, World.size_setCell, World.size_drew] at *; omega))) | (apply Box.belowD; (with_reducible assumption))))) hb)
        have yX_4 : w.heap.size < w4.heap.size := X_4.out.1
        obtain ⟨X_4c0, X_4c1, X_4c2⟩ := Box.facts3 X_4.out
        have S_4 : Hid (Box w4 (w1.heap.size) #[.slice A9 best.length c9]) := Lib.hid (Box.below (by (repeat' (first | (with_reducible exact Box.new _ _ _ (by first | omega | (simp; done) | (simp; omega) | (simp only [World.size_alloc, World.size_setCell, World.size_drew] at *; omega))) | (with_reducible refine Box.far ?_ (by first | omega | (simp; done) | (simp; omega) | (simp only [World.size_alloc, World.size_setCell, World.size_drew] at *; omega)) _) | (apply Box.put3_0) | (apply Box.put3_1) | (apply Box.put3_2) | (apply Box.put2_0) | (apply Box.put2_1) | (with_reducible refine Box.alloc ?_ _) | (with_reducible refine Box.drewN ?_ _) | (with_reducible refine Box.drew ?_) | (with_reducible assumption) | (refine Hid.out ?_; with_reducible assumption) | (apply Box.only; (with_reducible assumption); exact (by first | omega | (simp; done) | (simp; omega) | (simp only [World.size_alloc, World.size_setCell, World.size_drew] at *; omega))) | (apply Box.belowD; (with_reducible assumption))))) hb)
        have yS_4 : w1.heap.size < w4.heap.size := S_4.out.1
        have S_4c := Box.facts1 S_4.out
        have S_4f0 := Box.frz S_4.out 0 (by first | decide | simp)
        have C_4 : Hid (Box w4 (w1.heap.size+1) #[.int .i64 least]) := Lib.hid (Box.below (by (repeat' (first | (with_reducible exact Box.new _ _ _ (by first | omega | (simp; done) | (simp; omega) | (simp only [World.size_alloc, World.size_setCell, World.size_drew] at *; omega))) | (with_reducible refine Box.far ?_ (by first | omega | (simp; done) | (simp; omega) | (simp only [World.size_alloc, World.size_setCell, World.size_drew] at *; omega)) _) | (apply Box.put3_0) | (apply Box.put3_1) | (apply Box.put3_2) | (apply Box.put2_0) | (apply Box.put2_1) | (with_reducible refine Box.alloc ?_ _) | (with_reducible refine Box.drewN ?_ _) | (with_reducible refine Box.drew ?_) | (with_reducible assumption) | (refine Hid.out ?_; with_reducible assumption) | (apply Box.only; (with_reducible assumption); exact (by first | omega | (simp; done) | (simp; omega) | (simp only [World.size_alloc, World.size_setCell, World.size_drew] at *; omega))) | (apply Box.belowD; (with_reducible assumption))))) hb)
        have yC_4 : w1.heap.size+1 < w4.heap.size := C_4.out.1
        have C_4c := Box.facts1 C_4.out
        have C_4f0 := Box.frz C_4.out 0 (by first | decide | simp)
        have z4 := hb.size
        (try simp at z4)
        have D4 := Lib.hid hb; clear hb
        rw [allRows_allB]
        cases hok : allB p.rows x
        · gi_wp2
          refine ⟨(KeepsOthers.of_below D3.out).trans (KeepsOthers.of_below D4.out), (D3.out.mono (by omega)).trans (D4.out.mono (by omega)), ⟨by (repeat' (first | (with_reducible exact OwnI.madeAt _ _ _ (by first | omega | (simp; done) | (simp; omega) | (simp only [World.size_alloc, World.size_setCell, World.size_drew] at *; omega))) | (with_reducible refine OwnI.far ?_ (by first | omega | (simp; done) | (simp; omega) | (simp only [World.size_alloc, World.size_setCell, World.size_drew] at *; omega)) _) | (with_reducible refine OwnI.alloc ?_ _) | (with_reducible refine OwnI.drewN ?_ _) | (with_reducible refine OwnI.drew ?_) | (with_reducible assumption) | (refine Hid.out ?_; with_reducible assumption) | (apply OwnI.turn; (with_reducible assumption); exact (by first | omega | (simp; done) | (simp; omega) | (simp only [World.size_alloc, World.size_setCell, World.size_drew] at *; omega))) | (apply OwnI.only; (with_reducible assumption); exact (by first | omega | (simp; done) | (simp; omega) | (simp only [World.size_alloc, World.size_setCell, World.size_drew] at *; omega))) | (apply OwnI.belowD; (with_reducible assumption)))), by (repeat' (first | (with_reducible exact Box.new _ _ _ (by first | omega | (simp; done) | (simp; omega) | (simp only [World.size_alloc, World.size_setCell, World.size_drew] at *; omega))) | (with_reducible refine Box.far ?_ (by first | omega | (simp; done) | (simp; omega) | (simp only [World.size_alloc, World.size_setCell, World.size_drew] at *; omega)) _) | (apply Box.put3_0) | (apply Box.put3_1) | (apply Box.put3_2) | (apply Box.put2_0) | (apply Box.put2_1) | (with_reducible refine Box.alloc ?_ _) | (with_reducible refine Box.drewN ?_ _) | (with_reducible refine Box.drew ?_) | (with_reducible assumption) | (refine Hid.out ?_; with_reducible assumption) | (apply Box.only; (with_reducible assumption); exact (by first | omega | (simp; done) | (simp; omega) | (simp only [World.size_alloc, World.size_setCell, World.size_drew] at *; omega))) | (apply Box.belowD; (with_reducible assumption))))⟩, A9, c9, ?_, ?_, ?_, X_4.out, by (repeat' (first | (with_reducible exact Below.refl _ _) | (with_reducible refine belS ?_ (by first | omega | (simp; done) | (simp; omega) | (simp only [World.size_alloc, World.size_setCell, World.size_drew] at *; omega))) | (with_reducible refine belA ?_ (by first | omega | (simp; done) | (simp; omega) | (simp only [World.size_alloc, World.size_setCell, World.size_drew] at *; omega))) | (with_reducible refine bel_drewN ?_ _) | (with_reducible refine Below.drew ?_) | (with_reducible assumption) | (refine Hid.out ?_; with_reducible assumption) | (apply belV; (with_reducible assumption); exact (by first | omega | (simp; done) | (simp; omega) | (simp only [World.size_alloc, World.size_setCell, World.size_drew] at *; omega)))))⟩
          · rw [slv_bad hok, HBE.out]; exact S_4.out
          · unfold BestI; rw [slv_bad hok]; exact (hbest.out.below D3.out).below D4.out
          · rw [slv_bad hok, HLE.out]; exact C_4.out
        · have SY := Lib.hid (slv_yes (f := dotW p.costs) (ok := allB p.rows) (L := pre) (x := x) (by rw [HLE.out, HC.out]; omega) hok)
          have HXL := Lib.hid (pts_len (vProb_us HV.out) hmem.out)
          gi_wp2
          refine ⟨trivial, (CallsIn.inRound l (callsIn_wide.2 (lib_Clone _ _ _ _ x _ ((HX.out.below D3.out).below D4.out) (by omega)))).mono ?_⟩
          rintro e w5 ⟨A5, c5, rfl, ho, hb⟩
          have G5 : Hid (Below w.heap.size w w5) := belU hb (by (repeat' (first | (with_reducible exact Below.refl _ _) | (with_reducible refine belS ?_ (by first | omega | (simp; done) | (simp; omega) | (simp only [World.size_alloc, World.size_setCell, World.size_drew] at *; omega))) | (with_reducible refine belA ?_ (by first | omega | (simp; done) | (simp; omega) | (simp only [World.size_alloc, World.size_setCell, World.size_drew] at *; omega))) | (with_reducible refine bel_drewN ?_ _) | (with_reducible refine Below.drew ?_) | (with_reducible assumption) | (refine Hid.out ?_; with_reducible assumption) | (apply belV; (with_reducible assumption); exact (by first | omega | (simp; done) | (simp; omega) | (simp only [World.size_alloc, World.size_setCell, World.size_drew] at *; omega)))))) (by first | omega | (simp; done) | (simp; omega) | (simp only [World.size_alloc, World.size_setCell, World.size_drew] at *; omega))
          (try simp only [World.size_alloc, World.size_setCell, World.size_drew, World.heap_drewN] at ho)
          have O5 := Lib.hid ho; clear ho
          have X_5 : Hid (Box w5 (w.heap.size) #[.slice A0 p.costs.length c0, .slice A1 p.uppers.length c1, .slice A2 p.rows.length c2]) := Lib.hid (Box.below (by (repeat' (first | (with_reducible exact Box.new _ _ _ (by first | omega | (simp; done) | (simp; omega) | (simp only [World.size_alloc, World.size_setCell, World.size_drew] at *; omega))) | (with_reducible refine Box.far ?_ (by first | omega | (simp; done) | (simp; omega) | (simp only [World.size_alloc, World.size_setCell, World.size_drew] at *; omega)) _) | (apply Box.put3_0) | (apply Box.put3_1) | (apply Box.put3_2) | (apply Box.put2_0) | (apply Box.put2_1) | (with_reducible refine Box.alloc ?_ _) | (with_reducible refine Box.drewN ?_ _) | (with_reducible refine Box.drew ?_) | (with_reducible assumption) | (refine Hid.out ?_; with_reducible assumption) | (apply Box.only; (with_reducible assumption); exact (by first | omega | (simp; done) | (simp; omega) | (simp only [World.size_alloc, World.size_setCell, World.size_drew] at *; omega))) | (apply Box.belowD; (with_reducible assumption))))) hb)
          have yX_5 : w.heap.size < w5.heap.size := X_5.out.1
          obtain ⟨X_5c0, X_5c1, X_5c2⟩ := Box.facts3 X_5.out
          have S_5 : Hid (Box w5 (w1.heap.size) #[.slice A9 best.length c9]) := Lib.hid (Box.below (by (repeat' (first | (with_reducible exact Box.new _ _ _ (by first | omega | (simp; done) | (simp; omega) | (simp only [World.size_alloc, World.size_setCell, World.size_drew] at *; omega))) | (with_reducible refine Box.far ?_ (by first | omega | (simp; done) | (simp; omega) | (simp only [World.size_alloc, World.size_setCell, World.size_drew] at *; omega)) _) | (apply Box.put3_0) | (apply Box.put3_1) | (apply Box.put3_2) | (apply Box.put2_0) | (apply Box.put2_1) | (with_reducible refine Box.alloc ?_ _) | (with_reducible refine Box.drewN ?_ _) | (with_reducible refine Box.drew ?_) | (with_reducible assumption) | (refine Hid.out ?_; with_reducible assumption) | (apply Box.only; (with_reducible assumption); exact (by first | omega | (simp; done) | (simp; omega) | (simp only [World.size_alloc, World.size_setCell, World.size_drew] at *; omega))) | (apply Box.belowD; (with_reducible assumption))))) hb)
          have yS_5 : w1.heap.size < w5.heap.size := S_5.out.1
          have S_5c := Box.facts1 S_5.out
          have S_5f0 := Box.frz S_5.out 0 (by first | decide | simp)
          have C_5 : Hid (Box w5 (w1.heap.size+1) #[.int .i64 least]) := Lib.hid (Box.below (by (repeat' (first | (with_reducible exact Box.new _ _ _ (by first | omega | (simp; done) | (simp; omega) | (simp only [World.size_alloc, World.size_setCell, World.size_drew] at *; omega))) | (with_reducible refine Box.far ?_ (by first | omega | (simp; done) | (simp; omega) | (simp only [World.size_alloc, World.size_setCell, World.size_drew] at *; omega)) _) | (apply Box.put3_0) | (apply Box.put3_1) | (apply Box.put3_2) | (apply Box.put2_0) | (apply Box.put2_1) | (with_reducible refine Box.alloc ?_ _) | (with_reducible refine Box.drewN ?_ _) | (with_reducible refine Box.drew ?_) | (with_reducible assumption) | (refine Hid.out ?_; with_reducible assumption) | (apply Box.only; (with_reducible assumption); exact (by first | omega | (simp; done) | (simp; omega) | (simp only [World.size_alloc, World.size_setCell, World.size_drew] at *; omega))) | (apply Box.belowD; (with_reducible assumption))))) hb)
          have yC_5 : w1.heap.size+1 < w5.heap.size := C_5.out.1
          have C_5c := Box.facts1 C_5.out
          have C_5f0 := Box.frz C_5.out 0 (by first | decide | simp)
          have z5 := hb.size
          (try simp at z5)
          have D5 := Lib.hid hb; clear hb
          obtain ⟨g, rfl, hg1, hg2, hog⟩ := OwnS.getJ O5.out (by rw [HXL.out, HN.out]; omega)
          have hog := Lib.hid hog
          gi_wp2
          refine ⟨(((KeepsOthers.of_below D3.out).trans (KeepsOthers.of_below D4.out)).trans (KeepsOthers.of_below D5.out)).trans ((KeepsOthers.setCell _ _ _).trans (KeepsOthers.setCell _ _ _)), belS (belS (((D3.out.mono (by omega)).trans (D4.out.mono (by omega))).trans (D5.out.mono (by omega))) (by omega)) (by omega), ⟨by (repeat' (first | (with_reducible exact OwnI.madeAt _ _ _ (by first | omega | (simp; done) | (simp; omega) | (simp only [World.size_alloc, World.size_setCell, World.size_drew] at *; omega))) | (with_reducible refine OwnI.far ?_ (by first | omega | (simp; done) | (simp; omega) | (simp only [World.size_alloc, World.size_setCell, World.size_drew] at *; omega)) _) | (with_reducible refine OwnI.alloc ?_ _) | (with_reducible refine OwnI.drewN ?_ _) | (with_reducible refine OwnI.drew ?_) | (with_reducible assumption) | (refine Hid.out ?_; with_reducible assumption) | (apply OwnI.turn; (with_reducible assumption); exact (by first | omega | (simp; done) | (simp; omega) | (simp only [World.size_alloc, World.size_setCell, World.size_drew] at *; omega))) | (apply OwnI.only; (with_reducible assumption); exact (by first | omega | (simp; done) | (simp; omega) | (simp only [World.size_alloc, World.size_setCell, World.size_drew] at *; omega))) | (apply OwnI.belowD; (with_reducible assumption)))), by (repeat' (first | (with_reducible exact Box.new _ _ _ (by first | omega | (simp; done) | (simp; omega) | (simp only [World.size_alloc, World.size_setCell, World.size_drew] at *; omega))) | (with_reducible refine Box.far ?_ (by first | omega | (simp; done) | (simp; omega) | (simp only [World.size_alloc, World.size_setCell, World.size_drew] at *; omega)) _) | (apply Box.put3_0) | (apply Box.put3_1) | (apply Box.put3_2) | (apply Box.put2_0) | (apply Box.put2_1) | (with_reducible refine Box.alloc ?_ _) | (with_reducible refine Box.drewN ?_ _) | (with_reducible refine Box.drew ?_) | (with_reducible assumption) | (refine Hid.out ?_; with_reducible assumption) | (apply Box.only; (with_reducible assumption); exact (by first | omega | (simp; done) | (simp; omega) | (simp only [World.size_alloc, World.size_setCell, World.size_drew] at *; omega))) | (apply Box.belowD; (with_reducible assumption))))⟩, some ⟨g, 0, none⟩, c5, ?_, ?_, ?_, ?_, by (repeat' (first | (with_reducible exact Below.refl _ _) | (with_reducible refine belS ?_ (by first | omega | (simp; done) | (simp; omega) | (simp only [World.size_alloc, World.size_setCell, World.size_drew] at *; omega))) | (with_reducible refine belA ?_ (by first | omega | (simp; done) | (simp; omega) | (simp only [World.size_alloc, World.size_setCell, World.size_drew] at *; omega))) | (with_reducible refine bel_drewN ?_ _) | (with_reducible refine Below.drew ?_) | (with_reducible assumption) | (refine Hid.out ?_; with_reducible assumption) | (apply belV; (with_reducible assumption); exact (by first | omega | (simp; done) | (simp; omega) | (simp only [World.size_alloc, World.size_setCell, World.size_drew] at *; omega)))))⟩
          · rw [SY.out]
            exact Box.far (Box.put (cs := #[_]) S_5.out (i := 0) (by simp) _) (by simp) _
          · refine .inr ⟨g, rfl, by omega, by omega, ?_⟩
            rw [SY.out]
            exact (hog.out.far (by simp; omega) _).far (by simp; omega) _
          · rw [SY.out]
            rw [HC.out]
            exact Box.put (cs := #[_]) (Box.far C_5.out (by simp) _) (i := 0) (by simp) _
          · (repeat' (first | (with_reducible exact Box.new _ _ _ (by first | omega | (simp; done) | (simp; omega) | (simp only [World.size_alloc, World.size_setCell, World.size_drew] at *; omega))) | (with_reducible refine Box.far ?_ (by first | omega | (simp; done) | (simp; omega) | (simp only [World.size_alloc, World.size_setCell, World.size_drew] at *; omega)) _) | (apply Box.put3_0) | (apply Box.put3_1) | (apply Box.put3_2) | (apply Box.put2_0) | (apply Box.put2_1) | (with_reducible refine Box.alloc ?_ _) | (with_reducible refine Box.drewN ?_ _) | (with_reducible refine Box.drew ?_) | (with_reducible assumption) | (refine Hid.out ?_; with_reducible assumption) | (apply Box.only; (with_reducible assumption); exact (by first | omega | (simp; done) | (simp; omega) | (simp only [World.size_alloc, World.size_setCell, World.size_drew] at *; omega))) | (apply Box.belowD; (with_reducible assumption))))
      · by_cases h1 : cost < least
        · skip
          gi_wp2
          refine ⟨trivial, (CallsIn.inRound l (callsIn_wide.2 (impl_allows _ _ _ _ _ _ _ N _ p x _ (HP.out.below (by (repeat' (first | (with_reducible exact Below.refl _ _) | (with_reducible refine belS ?_ (by first | omega | (simp; done) | (simp; omega) | (simp only [World.size_alloc, World.size_setCell, World.size_drew] at *; omega))) | (with_reducible refine belA ?_ (by first | omega | (simp; done) | (simp; omega) | (simp only [World.size_alloc, World.size_setCell, World.size_drew] at *; omega))) | (with_reducible refine bel_drewN ?_ _) | (with_reducible refine Below.drew ?_) | (with_reducible assumption) | (refine Hid.out ?_; with_reducible assumption) | (apply belV; (with_reducible assumption); exact (by first | omega | (simp; done) | (simp; omega) | (simp only [World.size_alloc, World.size_setCell, World.size_drew] at *; omega))))))) (HX.out.below D3.out) hN5 HF.out))).mono ?_⟩
          rintro e w4 ⟨rfl, hb⟩
          have G4 : Hid (Below w.heap.size w w4) := belU hb (by (repeat' (first | (with_reducible exact Below.refl _ _) | (with_reducible refine belS ?_ (by first | omega | (simp; done) | (simp; omega) | (simp only [World.size_alloc, World.size_setCell, World.size_drew] at *; omega))) | (with_reducible refine belA ?_ (by first | omega | (simp; done) | (simp; omega) | (simp only [World.size_alloc, World.size_setCell, World.size_drew] at *; omega))) | (with_reducible refine bel_drewN ?_ _) | (with_reducible refine Below.drew ?_) | (with_reducible assumption) | (refine Hid.out ?_; with_reducible assumption) | (apply belV; (with_reducible assumption); exact (by first | omega | (simp; done) | (simp; omega) | (simp only [World.size_alloc, World.size_setCell, World.size_drew] at *; omega)))))) (by first | omega | (simp; done) | (simp; omega) | (simp only [World.size_alloc, World.size_setCell, World.size_drew] at *; omega))
          have X_4 : Hid (Box w4 (w.heap.size) #[.slice A0 p.costs.length c0, .slice A1 p.uppers.length c1, .slice A2 p.rows.length c2]) := Lib.hid (Box.below (by (repeat' (first | (with_reducible exact Box.new _ _ _ (by first | omega | (simp; done) | (simp; omega) | (simp only [World.size_alloc, World.size_setCell, World.size_drew] at *; omega))) | (with_reducible refine Box.far ?_ (by first | omega | (simp; done) | (simp; omega) | (simp only [World.size_alloc, World.size_setCell, World.size_drew] at *; omega)) _) | (apply Box.put3_0) | (apply Box.put3_1) | (apply Box.put3_2) | (apply Box.put2_0) | (apply Box.put2_1) | (with_reducible refine Box.alloc ?_ _) | (with_reducible refine Box.drewN ?_ _) | (with_reducible refine Box.drew ?_) | (with_reducible assumption) | (refine Hid.out ?_; with_reducible assumption) | (apply Box.only; (with_reducible assumption); exact (by first | omega | (simp; done) | (simp; omega) | (simp only [World.size_alloc, World.size_setCell, World.size_drew] at *; omega))) | (apply Box.belowD; (with_reducible assumption))))) hb)
          have yX_4 : w.heap.size < w4.heap.size := X_4.out.1
          obtain ⟨X_4c0, X_4c1, X_4c2⟩ := Box.facts3 X_4.out
          have S_4 : Hid (Box w4 (w1.heap.size) #[.slice A9 best.length c9]) := Lib.hid (Box.below (by (repeat' (first | (with_reducible exact Box.new _ _ _ (by first | omega | (simp; done) | (simp; omega) | (simp only [World.size_alloc, World.size_setCell, World.size_drew] at *; omega))) | (with_reducible refine Box.far ?_ (by first | omega | (simp; done) | (simp; omega) | (simp only [World.size_alloc, World.size_setCell, World.size_drew] at *; omega)) _) | (apply Box.put3_0) | (apply Box.put3_1) | (apply Box.put3_2) | (apply Box.put2_0) | (apply Box.put2_1) | (with_reducible refine Box.alloc ?_ _) | (with_reducible refine Box.drewN ?_ _) | (with_reducible refine Box.drew ?_) | (with_reducible assumption) | (refine Hid.out ?_; with_reducible assumption) | (apply Box.only; (with_reducible assumption); exact (by first | omega | (simp; done) | (simp; omega) | (simp only [World.size_alloc, World.size_setCell, World.size_drew] at *; omega))) | (apply Box.belowD; (with_reducible assumption))))) hb)
          have yS_4 : w1.heap.size < w4.heap.size := S_4.out.1
          have S_4c := Box.facts1 S_4.out
          have S_4f0 := Box.frz S_4.out 0 (by first | decide | simp)
          have C_4 : Hid (Box w4 (w1.heap.size+1) #[.int .i64 least]) := Lib.hid (Box.below (by (repeat' (first | (with_reducible exact Box.new _ _ _ (by first | omega | (simp; done) | (simp; omega) | (simp only [World.size_alloc, World.size_setCell, World.size_drew] at *; omega))) | (with_reducible refine Box.far ?_ (by first | omega | (simp; done) | (simp; omega) | (simp only [World.size_alloc, World.size_setCell, World.size_drew] at *; omega)) _) | (apply Box.put3_0) | (apply Box.put3_1) | (apply Box.put3_2) | (apply Box.put2_0) | (apply Box.put2_1) | (with_reducible refine Box.alloc ?_ _) | (with_reducible refine Box.drewN ?_ _) | (with_reducible refine Box.drew ?_) | (with_reducible assumption) | (refine Hid.out ?_; with_reducible assumption) | (apply Box.only; (with_reducible assumption); exact (by first | omega | (simp; done) | (simp; omega) | (simp only [World.size_alloc, World.size_setCell, World.size_drew] at *; omega))) | (apply Box.belowD; (with_reducible assumption))))) hb)
          have yC_4 : w1.heap.size+1 < w4.heap.size := C_4.out.1
          have C_4c := Box.facts1 C_4.out
          have C_4f0 := Box.frz C_4.out 0 (by first | decide | simp)
          have z4 := hb.size
          (try simp at z4)
          have D4 := Lib.hid hb; clear hb
          rw [allRows_allB]
          cases hok : allB p.rows x
          · gi_wp2
            refine ⟨(KeepsOthers.of_below D3.out).trans (KeepsOthers.of_below D4.out), (D3.out.mono (by omega)).trans (D4.out.mono (by omega)), ⟨by (repeat' (first | (with_reducible exact OwnI.madeAt _ _ _ (by first | omega | (simp; done) | (simp; omega) | (simp only [World.size_alloc, World.size_setCell, World.size_drew] at *; omega))) | (with_reducible refine OwnI.far ?_ (by first | omega | (simp; done) | (simp; omega) | (simp only [World.size_alloc, World.size_setCell, World.size_drew] at *; omega)) _) | (with_reducible refine OwnI.alloc ?_ _) | (with_reducible refine OwnI.drewN ?_ _) | (with_reducible refine OwnI.drew ?_) | (with_reducible assumption) | (refine Hid.out ?_; with_reducible assumption) | (apply OwnI.turn; (with_reducible assumption); exact (by first | omega | (simp; done) | (simp; omega) | (simp only [World.size_alloc, World.size_setCell, World.size_drew] at *; omega))) | (apply OwnI.only; (with_reducible assumption); exact (by first | omega | (simp; done) | (simp; omega) | (simp only [World.size_alloc, World.size_setCell, World.size_drew] at *; omega))) | (apply OwnI.belowD; (with_reducible assumption)))), by (repeat' (first | (with_reducible exact Box.new _ _ _ (by first | omega | (simp; done) | (simp; omega) | (simp only [World.size_alloc, World.size_setCell, World.size_drew] at *; omega))) | (with_reducible refine Box.far ?_ (by first | omega | (simp; done) | (simp; omega) | (simp only [World.size_alloc, World.size_setCell, World.size_drew] at *; omega)) _) | (apply Box.put3_0) | (apply Box.put3_1) | (apply Box.put3_2) | (apply Box.put2_0) | (apply Box.put2_1) | (with_reducible refine Box.alloc ?_ _) | (with_reducible refine Box.drewN ?_ _) | (with_reducible refine Box.drew ?_) | (with_reducible assumption) | (refine Hid.out ?_; with_reducible assumption) | (apply Box.only; (with_reducible assumption); exact (by first | omega | (simp; done) | (simp; omega) | (simp only [World.size_alloc, World.size_setCell, World.size_drew] at *; omega))) | (apply Box.belowD; (with_reducible assumption))))⟩, A9, c9, ?_, ?_, ?_, X_4.out, by (repeat' (first | (with_reducible exact Below.refl _ _) | (with_reducible refine belS ?_ (by first | omega | (simp; done) | (simp; omega) | (simp only [World.size_alloc, World.size_setCell, World.size_drew] at *; omega))) | (with_reducible refine belA ?_ (by first | omega | (simp; done) | (simp; omega) | (simp only [World.size_alloc, World.size_setCell, World.size_drew] at *; omega))) | (with_reducible refine bel_drewN ?_ _) | (with_reducible refine Below.drew ?_) | (with_reducible assumption) | (refine Hid.out ?_; with_reducible assumption) | (apply belV; (with_reducible assumption); exact (by first | omega | (simp; done) | (simp; omega) | (simp only [World.size_alloc, World.size_setCell, World.size_drew] at *; omega)))))⟩
            · rw [slv_bad hok, HBE.out]; exact S_4.out
            · unfold BestI; rw [slv_bad hok]; exact (hbest.out.below D3.out).below D4.out
            · rw [slv_bad hok, HLE.out]; exact C_4.out
          · have SY := Lib.hid (slv_yes (f := dotW p.costs) (ok := allB p.rows) (L := pre) (x := x) (by rw [HLE.out, HC.out]; omega) hok)
            have HXL := Lib.hid (pts_len (vProb_us HV.out) hmem.out)
            gi_wp2
            refine ⟨trivial, (CallsIn.inRound l (callsIn_wide.2 (lib_Clone _ _ _ _ x _ ((HX.out.below D3.out).below D4.out) (by omega)))).mono ?_⟩
            rintro e w5 ⟨A5, c5, rfl, ho, hb⟩
            have G5 : Hid (Below w.heap.size w w5) := belU hb (by (repeat' (first | (with_reducible exact Below.refl _ _) | (with_reducible refine belS ?_ (by first | omega | (simp; done) | (simp; omega) | (simp only [World.size_alloc, World.size_setCell, World.size_drew] at *; omega))) | (with_reducible refine belA ?_ (by first | omega | (simp; done) | (simp; omega) | (simp only [World.size_alloc, World.size_setCell, World.size_drew] at *; omega))) | (with_reducible refine bel_drewN ?_ _) | (with_reducible refine Below.drew ?_) | (with_reducible assumption) | (refine Hid.out ?_; with_reducible assumption) | (apply belV; (with_reducible assumption); exact (by first | omega | (simp; done) | (simp; omega) | (simp only [World.size_alloc, World.size_setCell, World.size_drew] at *; omega)))))) (by first | omega | (simp; done) | (simp; omega) | (simp only [World.size_alloc, World.size_setCell, World.size_drew] at *; omega))
            (try simp only [World.size_alloc, World.size_setCell, World.size_drew, World.heap_drewN] at ho)
            have O5 := Lib.hid ho; clear ho
            have X_5 : Hid (Box w5 (w.heap.size) #[.slice A0 p.costs.length c0, .slice A1 p.uppers.length c1, .slice A2 p.rows.length c2]) := Lib.hid (Box.below (by (repeat' (first | (with_reducible exact Box.new _ _ _ (by first | omega | (simp; done) | (simp; omega) | (simp only [World.size_alloc, World.size_setCell, World.size_drew] at *; omega))) | (with_reducible refine Box.far ?_ (by first | omega | (simp; done) | (simp; omega) | (simp only [World.size_alloc, World.size_setCell, World.size_drew] at *; omega)) _) | (apply Box.put3_0) | (apply Box.put3_1) | (apply Box.put3_2) | (apply Box.put2_0) | (apply Box.put2_1) | (with_reducible refine Box.alloc ?_ _) | (with_reducible refine Box.drewN ?_ _) | (with_reducible refine Box.drew ?_) | (with_reducible assumption) | (refine Hid.out ?_; with_reducible assumption) | (apply Box.only; (with_reducible assumption); exact (by first | omega | (simp; done) | (simp; omega) | (simp only [World.size_alloc, World.size_setCell, World.size_drew] at *; omega))) | (apply Box.belowD; (with_reducible assumption))))) hb)
            have yX_5 : w.heap.size < w5.heap.size := X_5.out.1
            obtain ⟨X_5c0, X_5c1, X_5c2⟩ := Box.facts3 X_5.out
            have S_5 : Hid (Box w5 (w1.heap.size) #[.slice A9 best.length c9]) := Lib.hid (Box.below (by (repeat' (first | (with_reducible exact Box.new _ _ _ (by first | omega | (simp; done) | (simp; omega) | (simp only [World.size_alloc, World.size_setCell, World.size_drew] at *; omega))) | (with_reducible refine Box.far ?_ (by first | omega | (simp; done) | (simp; omega) | (simp only [World.size_alloc, World.size_setCell, World.size_drew] at *; omega)) _) | (apply Box.put3_0) | (apply Box.put3_1) | (apply Box.put3_2) | (apply Box.put2_0) | (apply Box.put2_1) | (with_reducible refine Box.alloc ?_ _) | (with_reducible refine Box.drewN ?_ _) | (with_reducible refine Box.drew ?_) | (with_reducible assumption) | (refine Hid.out ?_; with_reducible assumption) | (apply Box.only; (with_reducible assumption); exact (by first | omega | (simp; done) | (simp; omega) | (simp only [World.size_alloc, World.size_setCell, World.size_drew] at *; omega))) | (apply Box.belowD; (with_reducible assumption))))) hb)
            have yS_5 : w1.heap.size < w5.heap.size := S_5.out.1
            have S_5c := Box.facts1 S_5.out
            have S_5f0 := Box.frz S_5.out 0 (by first | decide | simp)
            have C_5 : Hid (Box w5 (w1.heap.size+1) #[.int .i64 least]) := Lib.hid (Box.below (by (repeat' (first | (with_reducible exact Box.new _ _ _ (by first | omega | (simp; done) | (simp; omega) | (simp only [World.size_alloc, World.size_setCell, World.size_drew] at *; omega))) | (with_reducible refine Box.far ?_ (by first | omega | (simp; done) | (simp; omega) | (simp only [World.size_alloc, World.size_setCell, World.size_drew] at *; omega)) _) | (apply Box.put3_0) | (apply Box.put3_1) | (apply Box.put3_2) | (apply Box.put2_0) | (apply Box.put2_1) | (with_reducible refine Box.alloc ?_ _) | (with_reducible refine Box.drewN ?_ _) | (with_reducible refine Box.drew ?_) | (with_reducible assumption) | (refine Hid.out ?_; with_reducible assumption) | (apply Box.only; (with_reducible assumption); exact (by first | omega | (simp; done) | (simp; omega) | (simp only [World.size_alloc, World.size_setCell, World.size_drew] at *; omega))) | (apply Box.belowD; (with_reducible assumption))))) hb)
            have yC_5 : w1.heap.size+1 < w5.heap.size := C_5.out.1
            have C_5c := Box.facts1 C_5.out
            have C_5f0 := Box.frz C_5.out 0 (by first | decide | simp)
            have z5 := hb.size
            (try simp at z5)
            have D5 := Lib.hid hb; clear hb
            obtain ⟨g, rfl, hg1, hg2, hog⟩ := OwnS.getJ O5.out (by rw [HXL.out, HN.out]; omega)
            have hog := Lib.hid hog
            gi_wp2
            refine ⟨(((KeepsOthers.of_below D3.out).trans (KeepsOthers.of_below D4.out)).trans (KeepsOthers.of_below D5.out)).trans ((KeepsOthers.setCell _ _ _).trans (KeepsOthers.setCell _ _ _)), belS (belS (((D3.out.mono (by omega)).trans (D4.out.mono (by omega))).trans (D5.out.mono (by omega))) (by omega)) (by omega), ⟨by (repeat' (first | (with_reducible exact OwnI.madeAt _ _ _ (by first | omega | (simp; done) | (simp; omega) | (simp only [World.size_alloc, World.size_setCell, World.size_drew] at *; omega))) | (with_reducible refine OwnI.far ?_ (by first | omega | (simp; done) | (simp; omega) | (simp only [World.size_alloc, World.size_setCell, World.size_drew] at *; omega)) _) | (with_reducible refine OwnI.alloc ?_ _) | (with_reducible refine OwnI.drewN ?_ _) | (with_reducible refine OwnI.drew ?_) | (with_reducible assumption) | (refine Hid.out ?_; with_reducible assumption) | (apply OwnI.turn; (with_reducible assumption); exact (by first | omega | (simp; done) | (simp; omega) | (simp only [World.size_alloc, World.size_setCell, World.size_drew] at *; omega))) | (apply OwnI.only; (with_reducible assumption); exact (by first | omega | (simp; done) | (simp; omega) | (simp only [World.size_alloc, World.size_setCell, World.size_drew] at *; omega))) | (apply OwnI.belowD; (with_reducible assumption)))), by (repeat' (first | (with_reducible exact Box.new _ _ _ (by first | omega | (simp; done) | (simp; omega) | (simp only [World.size_alloc, World.size_setCell, World.size_drew] at *; omega))) | (with_reducible refine Box.far ?_ (by first | omega | (simp; done) | (simp; omega) | (simp only [World.size_alloc, World.size_setCell, World.size_drew] at *; omega)) _) | (apply Box.put3_0) | (apply Box.put3_1) | (apply Box.put3_2) | (apply Box.put2_0) | (apply Box.put2_1) | (with_reducible refine Box.alloc ?_ _) | (with_reducible refine Box.drewN ?_ _) | (with_reducible refine Box.drew ?_) | (with_reducible assumption) | (refine Hid.out ?_; with_reducible assumption) | (apply Box.only; (with_reducible assumption); exact (by first | omega | (simp; done) | (simp; omega) | (simp only [World.size_alloc, World.size_setCell, World.size_drew] at *; omega))) | (apply Box.belowD; (with_reducible assumption))))⟩, some ⟨g, 0, none⟩, c5, ?_, ?_, ?_, ?_, by (repeat' (first | (with_reducible exact Below.refl _ _) | (with_reducible refine belS ?_ (by first | omega | (simp; done) | (simp; omega) | (simp only [World.size_alloc, World.size_setCell, World.size_drew] at *; omega))) | (with_reducible refine belA ?_ (by first | omega | (simp; done) | (simp; omega) | (simp only [World.size_alloc, World.size_setCell, World.size_drew] at *; omega))) | (with_reducible refine bel_drewN ?_ _) | (with_reducible refine Below.drew ?_) | (with_reducible assumption) | (refine Hid.out ?_; with_reducible assumption) | (apply belV; (with_reducible assumption); exact (by first | omega | (simp; done) | (simp; omega) | (simp only [World.size_alloc, World.size_setCell, World.size_drew] at *; omega)))))⟩
            · rw [SY.out]
              exact Box.far (Box.put (cs := #[_]) S_5.out (i := 0) (by simp) _) (by simp) _
            · refine .inr ⟨g, rfl, by omega, by omega, ?_⟩
              rw [SY.out]
              exact (hog.out.far (by simp; omega) _).far (by simp; omega) _
            · rw [SY.out]
              rw [HC.out]
              exact Box.put (cs := #[_]) (Box.far C_5.out (by simp) _) (i := 0) (by simp) _
            · (repeat' (first | (with_reducible exact Box.new _ _ _ (by first | omega | (simp; done) | (simp; omega) | (simp only [World.size_alloc, World.size_setCell, World.size_drew] at *; omega))) | (with_reducible refine Box.far ?_ (by first | omega | (simp; done) | (simp; omega) | (simp only [World.size_alloc, World.size_setCell, World.size_drew] at *; omega)) _) | (apply Box.put3_0) | (apply Box.put3_1) | (apply Box.put3_2) | (apply Box.put2_0) | (apply Box.put2_1) | (with_reducible refine Box.alloc ?_ _) | (with_reducible refine Box.drewN ?_ _) | (with_reducible refine Box.drew ?_) | (with_reducible assumption) | (refine Hid.out ?_; with_reducible assumption) | (apply Box.only; (with_reducible assumption); exact (by first | omega | (simp; done) | (simp; omega) | (simp only [World.size_alloc, World.size_setCell, World.size_drew] at *; omega))) | (apply Box.belowD; (with_reducible assumption))))
        · have NO := Lib.hid (slv_no (f := dotW p.costs) (ok := allB p.rows) (L := pre) (x := x) (by rw [HLE.out, HC.out]; omega))
          gi_wp2
          refine ⟨trivial, ?_⟩
          gi_wp2
          refine ⟨KeepsOthers.of_below D3.out, D3.out.mono (by omega), ⟨by (repeat' (first | (with_reducible exact OwnI.madeAt _ _ _ (by first | omega | (simp; done) | (simp; omega) | (simp only [World.size_alloc, World.size_setCell, World.size_drew] at *; omega))) | (with_reducible refine OwnI.far ?_ (by first | omega | (simp; done) | (simp; omega) | (simp only [World.size_alloc, World.size_setCell, World.size_drew] at *; omega)) _) | (with_reducible refine OwnI.alloc ?_ _) | (with_reducible refine OwnI.drewN ?_ _) | (with_reducible refine OwnI.drew ?_) | (with_reducible assumption) | (refine Hid.out ?_; with_reducible assumption) | (apply OwnI.turn; (with_reducible assumption); exact (by first | omega | (simp; done) | (simp; omega) | (simp only [World.size_alloc, World.size_setCell, World.size_drew] at *; omega))) | (apply OwnI.only; (with_reducible assumption); exact (by first | omega | (simp; done) | (simp; omega) | (simp only [World.size_alloc, World.size_setCell, World.size_drew] at *; omega))) | (apply OwnI.belowD; (with_reducible assumption)))), by (repeat' (first | (with_reducible exact Box.new _ _ _ (by first | omega | (simp; done) | (simp; omega) | (simp only [World.size_alloc, World.size_setCell, World.size_drew] at *; omega))) | (with_reducible refine Box.far ?_ (by first | omega | (simp; done) | (simp; omega) | (simp only [World.size_alloc, World.size_setCell, World.size_drew] at *; omega)) _) | (apply Box.put3_0) | (apply Box.put3_1) | (apply Box.put3_2) | (apply Box.put2_0) | (apply Box.put2_1) | (with_reducible refine Box.alloc ?_ _) | (with_reducible refine Box.drewN ?_ _) | (with_reducible refine Box.drew ?_) | (with_reducible assumption) | (refine Hid.out ?_; with_reducible assumption) | (apply Box.only; (with_reducible assumption); exact (by first | omega | (simp; done) | (simp; omega) | (simp only [World.size_alloc, World.size_setCell, World.size_drew] at *; omega))) | (apply Box.belowD; (with_reducible assumption))))⟩, A9, c9, ?_, ?_, ?_, X_3.out, by (repeat' (first | (with_reducible exact Below.refl _ _) | (with_reducible refine belS ?_ (by first | omega | (simp; done) | (simp; omega) | (simp only [World.size_alloc, World.size_setCell, World.size_drew] at *; omega))) | (with_reducible refine belA ?_ (by first | omega | (simp; done) | (simp; omega) | (simp only [World.size_alloc, World.size_setCell, World.size_drew] at *; omega))) | (with_reducible refine bel_drewN ?_ _) | (with_reducible refine Below.drew ?_) | (with_reducible assumption) | (refine Hid.out ?_; with_reducible assumption) | (apply belV; (with_reducible assumption); exact (by first | omega | (simp; done) | (simp; omega) | (simp only [World.size_alloc, World.size_setCell, World.size_drew] at *; omega)))))⟩
          · rw [NO.out, HBE.out]; exact S_3.out
          · unfold BestI; rw [NO.out]; exact hbest.out.below D3.out
          · rw [NO.out, HLE.out]; exact C_3.out
    case done =>
      intro D b W hD hb hI hK
      obtain ⟨A9, c9, hS, hbest, hc, hX, hbel⟩ := hI
      have c0' := Box.facts1 hc
      have c1' := Box.facts1 hS
      gi_wp2
      gi_region
      have hbd : BestI p w.heap.size b (pts p.uppers) A9 W.drew := hbest.below ((Below.refl _ W).drew)
      have hb9 := hbd.one (One.put W.drew D (.deferred none)) (.inr ⟨_, hK, rfl⟩)
      gi_wp2
      refine ⟨by simp, .inl ⟨_, _, rfl, run_takeDeferred (w := W.drew) hK, ?_⟩⟩
      refine ⟨.tuple #[.slice A9 (slv (dotW p.costs) (allB p.rows) (pts p.uppers)).1.length c9, .int .i64 (slv (dotW p.costs) (allB p.rows) (pts p.uppers)).2], by simp [results, Try.f10, go_sem], hb9.ends HV.out ?_⟩
      exact (hbel.drew).trans (belowK_b (w := w) (Nat.le_refl _) W.drew D _ _ (by omega) hK rfl rfl)
    case stop => exact fun _ _ _ _ _ _ _ _ h _ => h.elim
end Go.Proofs.Ytangfmmjpomlgaa
