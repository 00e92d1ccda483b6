
/-
  Violated rows, feasibility and costs: what the program's functions and the model's return.
-/
import Derived.Test.YtejcloanmfkglabPd
set_option linter.unusedSimpArgs false
set_option linter.unusedVariables false
namespace Go.Proofs.Ytejcloanmfkglab
open Go.RowKit

theorem feas_1 {p : PProb} {xs : List Int} (h : vProb p = false) : feas p xs = false := by simp [feas, h]
theorem feas_2 {p : PProb} {xs : List Int} (h : isPt p.uppers xs = false) : feas p xs = false := by simp [feas, h]
theorem feas_3 {p : PProb} {xs : List Int} (h1 : vProb p = true) (h2 : isPt p.uppers xs = true) : feas p xs = allRows p xs := by simp [feas, h1, h2, allRows]
theorem costW_1 {p : PProb} {xs : List Int} (h : vProb p = false) : costW p xs = -1 := by simp [costW, h]
theorem costW_2 {p : PProb} {xs : List Int} (h : isPt p.uppers xs = false) : costW p xs = -1 := by simp [costW, h]
theorem costW_3 {p : PProb} {xs : List Int} (h1 : vProb p = true) (h2 : isPt p.uppers xs = true) : costW p xs = dotW p.costs xs := by simp [costW, h1, h2]
theorem vProb_ul {p : PProb} (h : vProb p = true) : p.uppers.length = p.costs.length := by
  simp only [vProb, Bool.and_eq_true, decide_eq_true_eq] at h
  exact h.2.1

theorem vProb_r6 {p : PProb} (h : vProb p = true) : p.rows.length ≤ 6 := by
  simp only [vProb, Bool.and_eq_true, decide_eq_true_eq] at h
  exact h.2.2.1

def holdsAt (p : PProb) (xs : List Int) (i : Nat) : Bool := match p.rows[i]? with | some r => holdsW r xs | none => false
theorem holdsAt_of {p : PProb} {xs : List Int} {i : Nat} {r : PRow} (h : p.rows[i]? = some r) : holdsAt p xs i = holdsW r xs := by simp [holdsAt, h]
def viol (p : PProb) (xs : List Int) : List Int := idxs (fun i => !holdsAt p xs i) p.rows.length
theorem viol_none (p : PProb) (xs : List Int) : allRows p xs = (((idxs (fun i => !holdsAt p xs i) p.rows.length).length : Int) == 0) := by
  rw [Bool.eq_iff_iff]
  have h1 : ((((idxs (fun i => !holdsAt p xs i) p.rows.length).length : Int) == 0) = true) ↔ idxs (fun i => !holdsAt p xs i) p.rows.length = [] := by
    rw [beq_iff_eq, ← List.length_eq_zero_iff]; omega
  rw [h1, idxs_empty]
  unfold allRows
  rw [List.all_eq_true]
  constructor
  · intro h i hi
    have hr : p.rows[i]? = some p.rows[i] := List.getElem?_eq_getElem hi
    rw [holdsAt_of hr, h _ (List.getElem_mem hi)]; rfl
  · intro h r hr
    obtain ⟨i, hi⟩ := List.mem_iff_getElem?.1 hr
    have hlt : i < p.rows.length := (List.getElem?_eq_some_iff.1 hi).1
    have := h i hlt
    rw [holdsAt_of hi] at this
    simpa using this

set_option maxHeartbeats 2000000 in
set_option maxRecDepth 100000 in
theorem spec_violated (A0 A1 A2 A : Option Addr) (c0 c1 c2 n c : Nat) (p : PProb) (xs : List Int) (w : World) (hp : ProbV w A0 A1 A2 c0 c1 c2 p) (hx : Ints w A n xs) (hn : n ≤ maxLen) (hf : Fits p n) (hr6 : p.rows.length ≤ 6) :
    Calls Try.prog 70 #[.agg #[.slice A0 p.costs.length c0, .slice A1 p.uppers.length c1, .slice A2 p.rows.length c2], .slice A n c] w fun e w' => ∃ v, e = .returned v ∧ Grow w' w.heap.size 3 v (viol p xs) ∧ Below w.heap.size w w' := by
  obtain ⟨i0, hi0, hz0, hz1, hz2⟩ := info_parts info_int
  have HP := Lib.hid hp
  have m0 := hp.small.2.2
  clear hp
  have HX := Lib.hid hx; clear hx
  have HF := Lib.hid hf; clear hf
  have m0' := m0
  unfold maxLen at m0
  go_enter Try.func70, Try.ntmps70
  go_wp2_with fail
  go_loopw [5, 6] (fun s5 s6 wr => ∃ (k : Nat) (v : Value), k ≤ p.rows.length ∧ v = s5 ∧ s6 = .int .i64 k ∧ Hid (Grow wr (w.heap.size + 1) 3 v (idxs (fun i => !holdsAt p xs i) k)) ∧ Hid (Box wr w.heap.size #[.slice A0 p.costs.length c0, .slice A1 p.uppers.length c1, .slice A2 p.rows.length c2]) ∧ Hid (Below w.heap.size w wr)) (fun _ s6 _ => p.rows.length - (intOf s6).toNat)
  case atStart => exact ⟨0, _, by omega, rfl, rfl, Lib.hid (by simpa [idxs] using Grow.lit0 (B := w.heap.size + 1) (w.alloc (.cells #[.slice A0 p.costs.length c0, .slice A1 p.uppers.length c1, .slice A2 p.rows.length c2] 50)) (by simp) 3), by (refine Lib.hid ?_; (repeat' (first | (with_reducible exact Box.new _ _ _ (by first | omega | (simp; done) | (simp; omega) | (simp only [World.size_alloc, World.size_setCell, World.size_drew] at *; omega))) | (with_reducible refine Box.far ?_ (by first | omega | (simp; done) | (simp; omega) | (simp only [World.size_alloc, World.size_setCell, World.size_drew] at *; omega)) _) | (with_reducible refine Box.alloc ?_ _) | (with_reducible refine Box.drewN ?_ _) | (with_reducible refine Box.drew ?_) | (with_reducible assumption) | (refine Hid.out ?_; with_reducible assumption) | (apply Box.belowD; (with_reducible assumption))))), by (refine Lib.hid ?_; (repeat' (first | (with_reducible exact Below.refl _ _) | (with_reducible refine belS ?_ (by first | omega | (simp; done) | (simp; omega) | (simp only [World.size_alloc, World.size_setCell, World.size_drew] at *; omega))) | (with_reducible refine belA ?_ (by first | omega | (simp; done) | (simp; omega) | (simp only [World.size_alloc, World.size_setCell, World.size_drew] at *; omega))) | (with_reducible refine bel_drewN ?_ _) | (with_reducible refine Below.drew ?_) | (with_reducible assumption) | (refine Hid.out ?_; with_reducible assumption) | (apply belV; (with_reducible assumption); exact (by first | omega | (simp; done) | (simp; omega) | (simp only [World.size_alloc, World.size_setCell, World.size_drew] at *; omega))))))⟩
  case round =>
    obtain ⟨k, v, hk, rfl, rfl, hgr, hbox, hbel⟩ := hrel
    have z0 := hbox.out.1
    obtain ⟨x0, x1, x2⟩ := Box.facts3 hbox.out
    by_cases hlt : k < p.rows.length
    · obtain ⟨b, off, r, A', c', rfl, hb, hr, hrv, k0, k1, k2⟩ := (HP.out.rs.below hbel.out).at_ hlt
      have hfl := HF.out r (List.mem_of_getElem? hr)
      have HA := Lib.hid (holdsAt_of (xs := xs) hr)
      have HX1 := Lib.hid hr; clear hr
      have HW := Lib.hid hrv; clear hrv
      cases hin : holdsW r xs
      · go_wp2_with fail
        refine (spec_rowHolds _ _ _ _ _ r xs _ (HW.out.below (by (repeat' (first | (with_reducible exact Below.refl _ _) | (with_reducible refine belS ?_ (by first | omega | (simp; done) | (simp; omega) | (simp only [World.size_alloc, World.size_setCell, World.size_drew] at *; omega))) | (with_reducible refine belA ?_ (by first | omega | (simp; done) | (simp; omega) | (simp only [World.size_alloc, World.size_setCell, World.size_drew] at *; omega))) | (with_reducible refine bel_drewN ?_ _) | (with_reducible refine Below.drew ?_) | (with_reducible assumption) | (refine Hid.out ?_; with_reducible assumption) | (apply belV; (with_reducible assumption); exact (by first | omega | (simp; done) | (simp; omega) | (simp only [World.size_alloc, World.size_setCell, World.size_drew] at *; omega))))))) (HX.out.below (by (repeat' (first | (with_reducible exact Below.refl _ _) | (with_reducible refine belS ?_ (by first | omega | (simp; done) | (simp; omega) | (simp only [World.size_alloc, World.size_setCell, World.size_drew] at *; omega))) | (with_reducible refine belA ?_ (by first | omega | (simp; done) | (simp; omega) | (simp only [World.size_alloc, World.size_setCell, World.size_drew] at *; omega))) | (with_reducible refine bel_drewN ?_ _) | (with_reducible refine Below.drew ?_) | (with_reducible assumption) | (refine Hid.out ?_; with_reducible assumption) | (apply belV; (with_reducible assumption); exact (by first | omega | (simp; done) | (simp; omega) | (simp only [World.size_alloc, World.size_setCell, World.size_drew] at *; omega))))))) hfl hn).mono ?_
        rintro e w1 ⟨rfl, hb1⟩
        have G1 : Hid (Below w.heap.size w w1) := belU hb1 (by (repeat' (first | (with_reducible exact Below.refl _ _) | (with_reducible refine belS ?_ (by first | omega | (simp; done) | (simp; omega) | (simp only [World.size_alloc, World.size_setCell, World.size_drew] at *; omega))) | (with_reducible refine belA ?_ (by first | omega | (simp; done) | (simp; omega) | (simp only [World.size_alloc, World.size_setCell, World.size_drew] at *; omega))) | (with_reducible refine bel_drewN ?_ _) | (with_reducible refine Below.drew ?_) | (with_reducible assumption) | (refine Hid.out ?_; with_reducible assumption) | (apply belV; (with_reducible assumption); exact (by first | omega | (simp; done) | (simp; omega) | (simp only [World.size_alloc, World.size_setCell, World.size_drew] at *; omega)))))) (by first | omega | (simp; done) | (simp; omega) | (simp only [World.size_alloc, World.size_setCell, World.size_drew] at *; omega))
        have B1 : Hid (Box w1 w.heap.size _) := hbox.out.below hb1
        have R1 : Hid (Grow w1 (w.heap.size + 1) 3 v (idxs (fun i => !holdsAt p xs i) k)) := hgr.out.below hb1
        have z1 := B1.out.1
        have hil := idxs_len (fun i => !holdsAt p xs i) k
        clear hb1
        go_wp2_with (
          at_builtin
          refine wpList_append_own _ rfl (.tmp 23) (.tmp 25) 35 rfl (w.heap.size + 1) 3 i0 (.int .i64 0) 1 8 Try.underlying35 hi0 hz0 hz1 hz2 rfl (by decide) v _ _ rfl (R1.out.alloc _).own ⟨w1.heap.size, 0, none⟩ 1 1 [.int .i64 k] rfl rfl ?c1 ?c2 ?c3 ?c4 ?c5 ?_
          case c1 => intro j u hj; (rcases j with _ | j <;> simp at hj); subst hj; simp [go_sem]
          case c2 => intro u hu; simp at hu; subst hu; rfl
          case c3 => unfold maxLen; omega
          case c4 => omega
          case c5 => simp; omega
          intro v' w2 hown' hgrow _
          have R2 : Hid (Grow w2 (w.heap.size + 1) 3 v' (idxs (fun i => !holdsAt p xs i) (k + 1))) := Lib.hid (by rw [idxs_yes (by rw [HA.out, hin]; rfl)]; exact Grow.snoc hown')
          have B2 : Hid (Box w2 w.heap.size _) := (B1.out.alloc _).grown hgrow (fun j hj => by have := R1.out.row j hj; omega)
          have G2 : Hid (Below w.heap.size w w2) := (G1.out.alloc (by omega) _).grown hgrow (by simp; omega) (fun j hj => by have := R1.out.row j hj; omega)
          clear hown' hgrow)
        go_roundw
        case rel => exact ⟨k + 1, _, by omega, rfl, by go_num, R2, B2, G2⟩
        case measure => simp [intOf]; omega
      · go_wp2_with fail
        refine (spec_rowHolds _ _ _ _ _ r xs _ (HW.out.below (by (repeat' (first | (with_reducible exact Below.refl _ _) | (with_reducible refine belS ?_ (by first | omega | (simp; done) | (simp; omega) | (simp only [World.size_alloc, World.size_setCell, World.size_drew] at *; omega))) | (with_reducible refine belA ?_ (by first | omega | (simp; done) | (simp; omega) | (simp only [World.size_alloc, World.size_setCell, World.size_drew] at *; omega))) | (with_reducible refine bel_drewN ?_ _) | (with_reducible refine Below.drew ?_) | (with_reducible assumption) | (refine Hid.out ?_; with_reducible assumption) | (apply belV; (with_reducible assumption); exact (by first | omega | (simp; done) | (simp; omega) | (simp only [World.size_alloc, World.size_setCell, World.size_drew] at *; omega))))))) (HX.out.below (by (repeat' (first | (with_reducible exact Below.refl _ _) | (with_reducible refine belS ?_ (by first | omega | (simp; done) | (simp; omega) | (simp only [World.size_alloc, World.size_setCell, World.size_drew] at *; omega))) | (with_reducible refine belA ?_ (by first | omega | (simp; done) | (simp; omega) | (simp only [World.size_alloc, World.size_setCell, World.size_drew] at *; omega))) | (with_reducible refine bel_drewN ?_ _) | (with_reducible refine Below.drew ?_) | (with_reducible assumption) | (refine Hid.out ?_; with_reducible assumption) | (apply belV; (with_reducible assumption); exact (by first | omega | (simp; done) | (simp; omega) | (simp only [World.size_alloc, World.size_setCell, World.size_drew] at *; omega))))))) hfl hn).mono ?_
        rintro e w1 ⟨rfl, hb1⟩
        have G1 : Hid (Below w.heap.size w w1) := belU hb1 (by (repeat' (first | (with_reducible exact Below.refl _ _) | (with_reducible refine belS ?_ (by first | omega | (simp; done) | (simp; omega) | (simp only [World.size_alloc, World.size_setCell, World.size_drew] at *; omega))) | (with_reducible refine belA ?_ (by first | omega | (simp; done) | (simp; omega) | (simp only [World.size_alloc, World.size_setCell, World.size_drew] at *; omega))) | (with_reducible refine bel_drewN ?_ _) | (with_reducible refine Below.drew ?_) | (with_reducible assumption) | (refine Hid.out ?_; with_reducible assumption) | (apply belV; (with_reducible assumption); exact (by first | omega | (simp; done) | (simp; omega) | (simp only [World.size_alloc, World.size_setCell, World.size_drew] at *; omega)))))) (by first | omega | (simp; done) | (simp; omega) | (simp only [World.size_alloc, World.size_setCell, World.size_drew] at *; omega))
        have B1 : Hid (Box w1 w.heap.size _) := hbox.out.below hb1
        have R1 : Hid (Grow w1 (w.heap.size + 1) 3 v (idxs (fun i => !holdsAt p xs i) (k + 1))) := Lib.hid (by rw [idxs_no (by rw [HA.out, hin]; rfl)]; exact hgr.out.below hb1)
        clear hb1
        go_wp2_with fail
        go_roundw
        case rel => exact ⟨k + 1, _, by omega, rfl, by go_num, R1, B1, G1⟩
        case measure => simp [intOf]; omega
    · have hke : k = p.rows.length := by omega
      subst hke
      have hbel' := hbel.out
      go_wp2_with fail
      go_ret
      exact ⟨v, rfl, hgr.out.mono (by omega), by (repeat' (first | (with_reducible exact Below.refl _ _) | (with_reducible refine belS ?_ (by first | omega | (simp; done) | (simp; omega) | (simp only [World.size_alloc, World.size_setCell, World.size_drew] at *; omega))) | (with_reducible refine belA ?_ (by first | omega | (simp; done) | (simp; omega) | (simp only [World.size_alloc, World.size_setCell, World.size_drew] at *; omega))) | (with_reducible refine bel_drewN ?_ _) | (with_reducible refine Below.drew ?_) | (with_reducible assumption) | (refine Hid.out ?_; with_reducible assumption) | (apply belV; (with_reducible assumption); exact (by first | omega | (simp; done) | (simp; omega) | (simp only [World.size_alloc, World.size_setCell, World.size_drew] at *; omega)))))⟩

end Go.Proofs.Ytejcloanmfkglab
