
/-
  The next point: what the program's advance and the model's nextPoint do; the program's iterator over all points.
-/
import Derived.Test.YtangfmmjpomlgaaNa
import Derived.Test.YtangfmmjpomlgaaNk
import Derived.Test.YtangfmmjpomlgaaPe
set_option linter.unusedSimpArgs false
set_option linter.unusedVariables false
namespace Go.Proofs.Ytangfmmjpomlgaa
open Go.RowKit

theorem back_I64 {us : List Int} (hu : ∀ u ∈ us, I64 u) : ∀ {k : Nat} {x : List Int}, (∀ v ∈ x, I64 v) → k ≤ us.length → ∀ v ∈ (back us k x).1, I64 v := by
  intro k
  induction k with
  | zero => intro x hx _; exact hx
  | succ k ih =>
    intro x hx hk
    by_cases h : x.getD k 0 < us.getD k 0
    · rw [back_yes h]
      intro v hv
      rcases List.mem_or_eq_of_mem_set hv with hv | rfl
      · exact hx v hv
      · have h1 : I64 (us.getD k 0) := by
          rw [List.getD_eq_getElem?_getD, List.getElem?_eq_getElem (by omega)]
          exact hu _ (List.getElem_mem (show k < us.length by omega))
        unfold I64 at h1 ⊢
        by_cases hl : k < x.length
        · have h2 : I64 (x.getD k 0) := by
            rw [List.getD_eq_getElem?_getD, List.getElem?_eq_getElem hl]
            exact hx _ (List.getElem_mem hl)
          unfold I64 at h2
          omega
        · have h2 : x.getD k 0 = 0 := by rw [List.getD_eq_getElem?_getD, List.getElem?_eq_none (by omega)]; rfl
          omega
    · rw [back_no h]
      refine ih (fun v hv => ?_) (by omega)
      rcases List.mem_or_eq_of_mem_set hv with hv | rfl
      · exact hx v hv
      · unfold I64; omega
def NextEnd (us xs : List Int) (b : Nat) (w : World) : Ending → World → Prop := fun e w' => e = .returned (.bool (adv us xs).2) ∧ OwnI w' b (adv us xs).1 ∧ One b w w'

set_option maxHeartbeats 2000000 in
set_option maxRecDepth 100000 in
theorem impl_advance (A0 A1 A2 : Option Addr) (c0 c1 c2 n c b : Nat) (p : PProb) (xs : List Int) (w0 w : World) (hp : ProbV w0 A0 A1 A2 c0 c1 c2 p) (hB : Below w0.heap.size w0 w) (hb : w0.heap.size ≤ b) (hx : OwnI w b xs) (hI : ∀ v ∈ xs, I64 v) (hxl : xs.length = n) (hn : n = p.uppers.length) (h1000 : n ≤ 1000) :
    Calls Try.prog 56 #[.agg #[.slice A0 p.costs.length c0, .slice A1 p.uppers.length c1, .slice A2 p.rows.length c2], .slice (some ⟨b, 0, none⟩) n c] w (NextEnd p.uppers xs b w) := by
  have HP := Lib.hid hp; clear hp
  have E := Lib.hid (back_adv (us := p.uppers) (x := xs) (by omega))
  have HU := Lib.hid HP.out.i1.2.1
  have zb := hx.1
  have HX := Lib.hid hx; clear hx
  have HB := Lib.hid hB
  have zB := hB.size
  clear hB
  have HI := Lib.hid hI; clear hI
  have HL := Lib.hid hxl; clear hxl
  have HN := Lib.hid hn
  have hn1 : n ≤ p.uppers.length := by omega
  clear hn
  go_enter Try.func56, Try.ntmps56
  go_wp2_with fail
  go_loopw [5] (fun s5 wr => ∃ (k : Nat) (ys : List Int), k ≤ n ∧ s5 = .int .i64 ((k : Int) - 1) ∧ Hid (ys.length = n) ∧ Hid (∀ v ∈ ys, I64 v) ∧ Hid (back p.uppers k ys = adv p.uppers xs) ∧ Hid (OwnI wr b ys) ∧ Hid (Box wr w.heap.size #[.slice A0 p.costs.length c0, .slice A1 p.uppers.length c1, .slice A2 p.rows.length c2]) ∧ Hid (One b w wr)) (fun s5 _ => (intOf s5 + 1).toNat)
  case atStart => exact ⟨n, xs, by omega, by go_num, HL, HI, Lib.hid (by rw [← E.out, HN.out]), Lib.hid (HX.out.alloc _), Lib.hid (by (repeat' (first | (with_reducible exact Box.new _ _ _ (by first | omega | (simp; done) | (simp; omega) | (simp only [World.size_alloc, World.size_setCell, World.size_drew] at *; omega))) | (with_reducible refine Box.far ?_ (by first | omega | (simp; done) | (simp; omega) | (simp only [World.size_alloc, World.size_setCell, World.size_drew] at *; omega)) _) | (apply Box.put3_0) | (apply Box.put3_1) | (apply Box.put3_2) | (apply Box.put2_0) | (apply Box.put2_1) | (with_reducible refine Box.alloc ?_ _) | (with_reducible refine Box.drewN ?_ _) | (with_reducible refine Box.drew ?_) | (with_reducible assumption) | (refine Hid.out ?_; with_reducible assumption) | (apply Box.only; (with_reducible assumption); exact (by first | omega | (simp; done) | (simp; omega) | (simp only [World.size_alloc, World.size_setCell, World.size_drew] at *; omega))) | (apply Box.belowD; (with_reducible assumption))))), Lib.hid ((Turn.refl _ _ _).alloc _)⟩
  case round =>
    obtain ⟨k, ys, hk, rfl, hyl, hyI, hbk, hown, hbox, hone⟩ := hrel
    have z0 := hbox.out.1
    obtain ⟨x0, x1, x2⟩ := Box.facts3 hbox.out
    have hBW : Hid (Below w0.heap.size w0 wr) := Lib.hid (Below.turn HB.out hone.out hb zB)
    by_cases hlt : 1 ≤ k
    · obtain ⟨j, rfl⟩ : ∃ j, k = j + 1 := ⟨k - 1, by omega⟩
      have hj : ((j + 1 : Nat) : Int) - 1 = (j : Int) := by omega
      have hwk : IntKind.i64.wrap ((j : Int) - 1) = (j : Int) - 1 := IntWalk.i64_in _ ⟨by omega, by omega⟩
      rw [hj]
      obtain ⟨b', off', u, rfl, hb2, hu, hlo', hhi', hc'⟩ := (HP.out.i1.below hBW.out).at_ (show j < p.uppers.length by omega)
      have hy := hown.out.at_ (k := j) (by have := hyl.out; omega)
      have hyj : I64 (ys.getD j 0) := by
        rw [List.getD_eq_getElem?_getD, List.getElem?_eq_getElem (by have := hyl.out; omega)]
        exact hyI.out _ (List.getElem_mem (show j < ys.length by have := hyl.out; omega))
      obtain ⟨hyc, hyf⟩ := hy
      have hud := Lib.hid (getD_of hu); clear hu
      obtain ⟨y, hyd⟩ : ∃ y, ys.getD j 0 = y := ⟨_, rfl⟩
      rw [hyd] at hyc hyj
      have HYD := Lib.hid hyd; clear hyd
      have hsome : Hid (ys[j]? = some y) := Lib.hid (by
        have h1 : j < ys.length := by have := hyl.out; omega
        have := HYD.out
        rw [List.getD_eq_getElem?_getD, List.getElem?_eq_getElem h1] at this
        rw [List.getElem?_eq_getElem h1]; exact congrArg some this)
      unfold I64 at hyj
      by_cases hlt2 : y < u
      · have hwy : IntKind.i64.wrap (y + 1) = y + 1 := IntWalk.i64_in _ ⟨by omega, by omega⟩
        have NX := Lib.hid (back_yes (us := p.uppers) (x := ys) (k := j) (by rw [HYD.out, hud.out]; exact hlt2))
        go_wp2_with fail
        go_quiet (fail)
        go_wp2_with fail
        all_goals
          go_ret
          refine ⟨?_, ?_, ?_⟩
          · rw [← hbk.out, NX.out]; rfl
          · rw [← hbk.out, NX.out, HYD.out]; exact (OwnI.set_ (by (repeat' (first | (with_reducible exact OwnI.madeAt _ _ _ (by first | omega | (simp; done) | (simp; omega) | (simp only [World.size_alloc, World.size_setCell, World.size_drew] at *; omega))) | (with_reducible refine OwnI.far ?_ (by first | omega | (simp; done) | (simp; omega) | (simp only [World.size_alloc, World.size_setCell, World.size_drew] at *; omega)) _) | (with_reducible refine OwnI.alloc ?_ _) | (with_reducible refine OwnI.drewN ?_ _) | (with_reducible refine OwnI.drew ?_) | (with_reducible assumption) | (refine Hid.out ?_; with_reducible assumption) | (apply OwnI.turn; (with_reducible assumption); exact (by first | omega | (simp; done) | (simp; omega) | (simp only [World.size_alloc, World.size_setCell, World.size_drew] at *; omega))) | (apply OwnI.only; (with_reducible assumption); exact (by first | omega | (simp; done) | (simp; omega) | (simp only [World.size_alloc, World.size_setCell, World.size_drew] at *; omega))) | (apply OwnI.belowD; (with_reducible assumption))))) hsome.out (y + 1))
          · refine One.set ?_ _
            first | exact hone.out | exact hone.out.drewN _
      · have NX := Lib.hid (back_no (us := p.uppers) (x := ys) (k := j) (by rw [HYD.out, hud.out]; exact hlt2))
        go_wp2_with fail
        go_quiet (fail)
        all_goals
          go_wp2_with fail
          go_roundw
          case rel => exact ⟨j, ys.set j 0, by omega, by go_num, Lib.hid (by rw [List.length_set]; exact hyl.out), Lib.hid (fun v hv => (List.mem_or_eq_of_mem_set hv).elim (hyI.out v) (fun e => by subst e; unfold I64; omega)), Lib.hid (by rw [← NX.out]; exact hbk.out), Lib.hid (OwnI.set_ (by (repeat' (first | (with_reducible exact OwnI.madeAt _ _ _ (by first | omega | (simp; done) | (simp; omega) | (simp only [World.size_alloc, World.size_setCell, World.size_drew] at *; omega))) | (with_reducible refine OwnI.far ?_ (by first | omega | (simp; done) | (simp; omega) | (simp only [World.size_alloc, World.size_setCell, World.size_drew] at *; omega)) _) | (with_reducible refine OwnI.alloc ?_ _) | (with_reducible refine OwnI.drewN ?_ _) | (with_reducible refine OwnI.drew ?_) | (with_reducible assumption) | (refine Hid.out ?_; with_reducible assumption) | (apply OwnI.turn; (with_reducible assumption); exact (by first | omega | (simp; done) | (simp; omega) | (simp only [World.size_alloc, World.size_setCell, World.size_drew] at *; omega))) | (apply OwnI.only; (with_reducible assumption); exact (by first | omega | (simp; done) | (simp; omega) | (simp only [World.size_alloc, World.size_setCell, World.size_drew] at *; omega))) | (apply OwnI.belowD; (with_reducible assumption))))) hsome.out 0), Lib.hid (by (repeat' (first | (with_reducible exact Box.new _ _ _ (by first | omega | (simp; done) | (simp; omega) | (simp only [World.size_alloc, World.size_setCell, World.size_drew] at *; omega))) | (with_reducible refine Box.far ?_ (by first | omega | (simp; done) | (simp; omega) | (simp only [World.size_alloc, World.size_setCell, World.size_drew] at *; omega)) _) | (apply Box.put3_0) | (apply Box.put3_1) | (apply Box.put3_2) | (apply Box.put2_0) | (apply Box.put2_1) | (with_reducible refine Box.alloc ?_ _) | (with_reducible refine Box.drewN ?_ _) | (with_reducible refine Box.drew ?_) | (with_reducible assumption) | (refine Hid.out ?_; with_reducible assumption) | (apply Box.only; (with_reducible assumption); exact (by first | omega | (simp; done) | (simp; omega) | (simp only [World.size_alloc, World.size_setCell, World.size_drew] at *; omega))) | (apply Box.belowD; (with_reducible assumption))))), Lib.hid (by refine One.set ?_ _; first | exact hone.out | exact hone.out.drewN _)⟩
          case measure => first | (simp [intOf]; done) | (simp [intOf]; omega)
    · obtain rfl : k = 0 := by omega
      go_wp2_with fail
      go_ret
      exact ⟨by rw [← hbk.out]; rfl, by rw [← hbk.out]; exact hown.out, hone.out⟩
end Go.Proofs.Ytangfmmjpomlgaa
