
/-
  The model's way through all points: nextPoint, countFeasible.
-/
import Derived.Test.YtangfmmjpomlgaaNe
set_option linter.unusedSimpArgs false
set_option linter.unusedVariables false
namespace Go.Proofs.Ytangfmmjpomlgaa
open Go.RowKit

set_option maxHeartbeats 2000000 in
set_option maxRecDepth 100000 in
theorem spec_nextPoint (A2 : Option Addr) (n c c1 c2 b g : Nat) (us xs : List Int) (w0 w : World) (hp : Ints w0 A2 n us) (hB : Below w0.heap.size w0 w) (hb : w0.heap.size ≤ b) (hx : OwnI w b xs) (hg : OwnI w g (List.replicate n 0)) (hgb : ¬ g = b) (hI : ∀ v ∈ xs, I64 v) (hxl : xs.length = n) (h1000 : n ≤ 1000) :
    Calls Try.prog 38 #[.slice (some ⟨b, 0, none⟩) n c, .slice (some ⟨g, 0, none⟩) n c1, .slice A2 n c2] w (NextEnd us xs b w) := by
  have hul := hp.len
  have HP := Lib.hid hp; clear hp
  have E := Lib.hid (back_adv (us := us) (x := xs) (by omega))
  have HU := Lib.hid HP.out.2.1
  have zb := hx.1
  have HX := Lib.hid hx; clear hx
  have HG := Lib.hid hg; clear hg
  have HB := Lib.hid hB
  have zB := hB.size
  clear hB
  have HI := Lib.hid hI; clear hI
  have HL := Lib.hid hxl; clear hxl
  have HUL := Lib.hid hul; clear hul
  have hbg : ¬ b = g := fun h => hgb h.symm
  go_enter Try.func38, Try.ntmps38
  go_wp2_with fail
  go_loopw [7] (fun s7 wr => ∃ (k : Nat) (ys : List Int), k ≤ n ∧ s7 = .int .i64 ((k : Int) - 1) ∧ Hid (ys.length = n) ∧ Hid (∀ v ∈ ys, I64 v) ∧ Hid (back us k ys = adv us xs) ∧ Hid (OwnI wr b ys) ∧ Hid (One b w wr)) (fun s7 _ => (intOf s7 + 1).toNat)
  case atStart => exact ⟨n, xs, by omega, by go_num, HL, HI, Lib.hid (by rw [← E.out, HUL.out]), HX, Lib.hid (Turn.refl _ _ _)⟩
  case round =>
    obtain ⟨k, ys, hk, rfl, hyl, hyI, hbk, hown, hone⟩ := hrel
    have hBW : Hid (Below w0.heap.size w0 wr) := Lib.hid (Below.turn HB.out hone.out hb zB)
    have hGW : Hid (OwnI wr g (List.replicate n 0)) := Lib.hid (OwnI.turn hone (by omega) HG.out)
    by_cases hlt : 1 ≤ k
    · obtain ⟨j, rfl⟩ : ∃ j, k = j + 1 := ⟨k - 1, by omega⟩
      have hj : ((j + 1 : Nat) : Int) - 1 = (j : Int) := by omega
      have hwk : IntKind.i64.wrap ((j : Int) - 1) = (j : Int) - 1 := IntWalk.i64_in _ ⟨by omega, by omega⟩
      rw [hj]
      obtain ⟨b', off', u, rfl, hb2, hu, hlo', hhi', hc'⟩ := (HP.out.below hBW.out).at_ (show j < n by omega)
      have hgc := (hGW.out.2 j 0 (by rw [List.getElem?_replicate, if_pos (by omega)])).1
      have hy := hown.out.at_ (k := j) (by have := hyl.out; omega)
      have hyj : I64 (ys.getD j 0) := by
        rw [List.getD_eq_getElem?_getD, List.getElem?_eq_getElem (by have := hyl.out; omega)]
        exact hyI.out _ (List.getElem_mem (show j < ys.length by have := hyl.out; omega))
      obtain ⟨hyc, hyf⟩ := hy
      have hud := Lib.hid (getD_of hu); clear hu
      obtain ⟨y, hyd⟩ : ∃ y, ys.getD j 0 = y := ⟨_, rfl⟩
      rw [hyd] at hyc hyj
      have HYD := Lib.hid hyd; clear hyd
      have hsome : Hid (ys[j]? = some y) := Lib.hid (by
        have h1 : j < ys.length := by have := hyl.out; omega
        have := HYD.out
        rw [List.getD_eq_getElem?_getD, List.getElem?_eq_getElem h1] at this
        rw [List.getElem?_eq_getElem h1]; exact congrArg some this)
      unfold I64 at hyj
      by_cases hlt2 : y < u
      · have hwy : IntKind.i64.wrap (y + 1) = y + 1 := IntWalk.i64_in _ ⟨by omega, by omega⟩
        have NX := Lib.hid (back_yes (us := us) (x := ys) (k := j) (by rw [HYD.out, hud.out]; exact hlt2))
        go_wp2_with fail
        go_quiet (fail)
        go_wp2_with fail
        all_goals
          go_ret
          refine ⟨?_, ?_, ?_⟩
          · rw [← hbk.out, NX.out]; rfl
          · rw [← hbk.out, NX.out, HYD.out]; exact (OwnI.set_ (by (repeat' (first | (with_reducible exact OwnI.madeAt _ _ _ (by first | omega | (simp; done) | (simp; omega) | (simp only [World.size_alloc, World.size_setCell, World.size_drew] at *; omega))) | (with_reducible refine OwnI.far ?_ (by first | omega | (simp; done) | (simp; omega) | (simp only [World.size_alloc, World.size_setCell, World.size_drew] at *; omega)) _) | (with_reducible refine OwnI.alloc ?_ _) | (with_reducible refine OwnI.drewN ?_ _) | (with_reducible refine OwnI.drew ?_) | (with_reducible assumption) | (refine Hid.out ?_; with_reducible assumption) | (apply OwnI.turn; (with_reducible assumption); exact (by first | omega | (simp; done) | (simp; omega) | (simp only [World.size_alloc, World.size_setCell, World.size_drew] at *; omega))) | (apply OwnI.only; (with_reducible assumption); exact (by first | omega | (simp; done) | (simp; omega) | (simp only [World.size_alloc, World.size_setCell, World.size_drew] at *; omega))) | (apply OwnI.belowD; (with_reducible assumption))))) hsome.out (y + 1))
          · refine One.set ?_ _
            first | exact hone.out | exact hone.out.drewN _
      · have NX := Lib.hid (back_no (us := us) (x := ys) (k := j) (by rw [HYD.out, hud.out]; exact hlt2))
        go_wp2_with fail
        go_quiet (fail)
        all_goals
          go_wp2_with fail
          go_roundw
          case rel => exact ⟨j, ys.set j 0, by omega, by go_num, Lib.hid (by rw [List.length_set]; exact hyl.out), Lib.hid (fun v hv => (List.mem_or_eq_of_mem_set hv).elim (hyI.out v) (fun e => by subst e; unfold I64; omega)), Lib.hid (by rw [← NX.out]; exact hbk.out), Lib.hid (OwnI.set_ (by (repeat' (first | (with_reducible exact OwnI.madeAt _ _ _ (by first | omega | (simp; done) | (simp; omega) | (simp only [World.size_alloc, World.size_setCell, World.size_drew] at *; omega))) | (with_reducible refine OwnI.far ?_ (by first | omega | (simp; done) | (simp; omega) | (simp only [World.size_alloc, World.size_setCell, World.size_drew] at *; omega)) _) | (with_reducible refine OwnI.alloc ?_ _) | (with_reducible refine OwnI.drewN ?_ _) | (with_reducible refine OwnI.drew ?_) | (with_reducible assumption) | (refine Hid.out ?_; with_reducible assumption) | (apply OwnI.turn; (with_reducible assumption); exact (by first | omega | (simp; done) | (simp; omega) | (simp only [World.size_alloc, World.size_setCell, World.size_drew] at *; omega))) | (apply OwnI.only; (with_reducible assumption); exact (by first | omega | (simp; done) | (simp; omega) | (simp only [World.size_alloc, World.size_setCell, World.size_drew] at *; omega))) | (apply OwnI.belowD; (with_reducible assumption))))) hsome.out 0), Lib.hid (by refine One.set ?_ _; first | exact hone.out | exact hone.out.drewN _)⟩
          case measure => first | (simp [intOf]; done) | (simp [intOf]; omega)
    · obtain rfl : k = 0 := by omega
      go_wp2_with fail
      go_ret
      exact ⟨by rw [← hbk.out]; rfl, by rw [← hbk.out]; exact hown.out, hone.out⟩

/-- As spec_violated, said in one word. -/
theorem spec_violatedN (A0 A1 A2 A : Option Addr) (c0 c1 c2 n c : Nat) (p : PProb) (xs : List Int) (w : World) (hp : ProbV w A0 A1 A2 c0 c1 c2 p) (hx : Ints w A n xs) (hn : n ≤ maxLen) (hf : Fits p n) (hr6 : p.rows.length ≤ 6) :
    Calls Try.prog 40 #[.agg #[.slice A0 p.costs.length c0, .slice A1 p.uppers.length c1, .slice A2 p.rows.length c2], .slice A n c] w fun e w' => ∃ (A : Option Addr) (k c : Nat), e = .returned (.slice A k c) ∧ k ≤ 6 ∧ ((k : Int) == 0) = allB p.rows xs ∧ Below w.heap.size w w' := by
  refine (spec_violated _ _ _ _ _ _ _ _ _ p xs _ hp hx hn hf hr6).mono ?_
  rintro e w3 ⟨v, rfl, hgr, hb3⟩
  obtain ⟨Av, cv, rfl, _, _⟩ := hgr.shape
  have hlen := idxs_len (fun i => !holdsAt p xs i) p.rows.length
  exact ⟨Av, _, cv, rfl, Nat.le_trans hlen hr6, (viol_none p xs).symm, hb3⟩

def boolOf : Value → Bool
  | .bool b => b
  | _ => false

set_option maxHeartbeats 4000000 in
set_option maxRecDepth 100000 in
theorem spec_countFeasible (A0 A1 A2 : Option Addr) (c0 c1 c2 : Nat) (p : PProb) (w : World) (hp : ProbV w A0 A1 A2 c0 c1 c2 p) (hv : vProb p = true) :
    Calls Try.prog 41 #[.agg #[.slice A0 p.costs.length c0, .slice A1 p.uppers.length c1, .slice A2 p.rows.length c2]] w fun e w' => e = .returned (.int .i64 (cnt (allB p.rows) (pts p.uppers))) ∧ Below w.heap.size w w' := by
  obtain ⟨i0, hi0, hz0, hz1, hz2⟩ := info_parts info_int
  have hul0 := vProb_ul hv
  have h50 := (vProb_N5 hv).1
  obtain ⟨N, hN⟩ : ∃ N, p.uppers.length = N := ⟨_, rfl⟩
  have hNc : p.costs.length = N := by omega
  have h5 : N ≤ 5 := by omega
  have HN := Lib.hid hN
  have HNC := Lib.hid hNc
  have HP := Lib.hid hp; clear hp
  have HV := Lib.hid hv; clear hv
  have hN5 : N ≤ maxLen := by unfold maxLen; omega
  have HU1 : Hid (Ints w A1 N p.uppers) := Lib.hid (by have := HP.out.i1; rwa [HN.out] at this)
  have hmk := fun W => run_makeN (P := Try.prog) 23 3 i0 (.int .i64 0) Try.underlying23 hi0 hz0 N (by rw [hz2]; omega) (by omega) W
  simp only [hz1, Nat.mul_one] at hmk
  clear hul0 h50
  have HU := Lib.hid (fun u h => (vProb_us HV.out u h).1)
  obtain ⟨T, hT⟩ := pts_first HU.out
  rw [HN.out] at hT
  have HT := Lib.hid hT; clear hT
  go_enter Try.func41, Try.ntmps41
  rw [hN, hNc]
  clear hN hNc
  go_wp2_with fail
  go_loopw [3, 6] (fun s3 s6 wr => ∃ (m : Bool) (pre : List (List Int)) (x : List Int), s3 = .int .i64 (cnt (allB p.rows) pre) ∧ s6 = .bool m ∧ Hid (m = true → ∃ rest, pts p.uppers = pre ++ x :: rest) ∧ Hid (m = false → pre = pts p.uppers) ∧ Hid (OwnI wr (w.heap.size + 2) x) ∧ Hid (OwnI wr (w.heap.size + 1) (List.replicate N 0)) ∧ Hid (Box wr w.heap.size #[.slice A0 N c0, .slice A1 N c1, .slice A2 p.rows.length c2]) ∧ Hid (Below w.heap.size w wr)) (fun _ s6 wr => if boolOf s6 then restN p.uppers (rdB wr (w.heap.size + 2) N) else 0)
  case atStart => exact ⟨true, [], List.replicate N 0, rfl, rfl, Lib.hid (fun _ => ⟨T, HT.out⟩), Lib.hid (fun h => by cases h), Lib.hid (by (repeat' (first | (with_reducible exact OwnI.madeAt _ _ _ (by first | omega | (simp; done) | (simp; omega) | (simp only [World.size_alloc, World.size_setCell, World.size_drew] at *; omega))) | (with_reducible refine OwnI.far ?_ (by first | omega | (simp; done) | (simp; omega) | (simp only [World.size_alloc, World.size_setCell, World.size_drew] at *; omega)) _) | (with_reducible refine OwnI.alloc ?_ _) | (with_reducible refine OwnI.drewN ?_ _) | (with_reducible refine OwnI.drew ?_) | (with_reducible assumption) | (refine Hid.out ?_; with_reducible assumption) | (apply OwnI.turn; (with_reducible assumption); exact (by first | omega | (simp; done) | (simp; omega) | (simp only [World.size_alloc, World.size_setCell, World.size_drew] at *; omega))) | (apply OwnI.only; (with_reducible assumption); exact (by first | omega | (simp; done) | (simp; omega) | (simp only [World.size_alloc, World.size_setCell, World.size_drew] at *; omega))) | (apply OwnI.belowD; (with_reducible assumption))))), Lib.hid (by (repeat' (first | (with_reducible exact OwnI.madeAt _ _ _ (by first | omega | (simp; done) | (simp; omega) | (simp only [World.size_alloc, World.size_setCell, World.size_drew] at *; omega))) | (with_reducible refine OwnI.far ?_ (by first | omega | (simp; done) | (simp; omega) | (simp only [World.size_alloc, World.size_setCell, World.size_drew] at *; omega)) _) | (with_reducible refine OwnI.alloc ?_ _) | (with_reducible refine OwnI.drewN ?_ _) | (with_reducible refine OwnI.drew ?_) | (with_reducible assumption) | (refine Hid.out ?_; with_reducible assumption) | (apply OwnI.turn; (with_reducible assumption); exact (by first | omega | (simp; done) | (simp; omega) | (simp only [World.size_alloc, World.size_setCell, World.size_drew] at *; omega))) | (apply OwnI.only; (with_reducible assumption); exact (by first | omega | (simp; done) | (simp; omega) | (simp only [World.size_alloc, World.size_setCell, World.size_drew] at *; omega))) | (apply OwnI.belowD; (with_reducible assumption))))), Lib.hid (by (repeat' (first | (with_reducible exact Box.new _ _ _ (by first | omega | (simp; done) | (simp; omega) | (simp only [World.size_alloc, World.size_setCell, World.size_drew] at *; omega))) | (with_reducible refine Box.far ?_ (by first | omega | (simp; done) | (simp; omega) | (simp only [World.size_alloc, World.size_setCell, World.size_drew] at *; omega)) _) | (apply Box.put3_0) | (apply Box.put3_1) | (apply Box.put3_2) | (apply Box.put2_0) | (apply Box.put2_1) | (with_reducible refine Box.alloc ?_ _) | (with_reducible refine Box.drewN ?_ _) | (with_reducible refine Box.drew ?_) | (with_reducible assumption) | (refine Hid.out ?_; with_reducible assumption) | (apply Box.only; (with_reducible assumption); exact (by first | omega | (simp; done) | (simp; omega) | (simp only [World.size_alloc, World.size_setCell, World.size_drew] at *; omega))) | (apply Box.belowD; (with_reducible assumption))))), Lib.hid (by (repeat' (first | (with_reducible exact Below.refl _ _) | (with_reducible refine belS ?_ (by first | omega | (simp; done) | (simp; omega) | (simp only [World.size_alloc, World.size_setCell, World.size_drew] at *; omega))) | (with_reducible refine belA ?_ (by first | omega | (simp; done) | (simp; omega) | (simp only [World.size_alloc, World.size_setCell, World.size_drew] at *; omega))) | (with_reducible refine bel_drewN ?_ _) | (with_reducible refine Below.drew ?_) | (with_reducible assumption) | (refine Hid.out ?_; with_reducible assumption) | (apply belV; (with_reducible assumption); exact (by first | omega | (simp; done) | (simp; omega) | (simp only [World.size_alloc, World.size_setCell, World.size_drew] at *; omega))))))⟩
  case round =>
    obtain ⟨m, pre, x, rfl, rfl, hmore, hend, hown, hlow, hX, hbel⟩ := hrel
    cases m
    · have E := Lib.hid (hend.out rfl)
      go_wp2_with fail
      go_ret
      exact ⟨ret_i (by rw [E.out]), by (repeat' (first | (with_reducible exact Below.refl _ _) | (with_reducible refine belS ?_ (by first | omega | (simp; done) | (simp; omega) | (simp only [World.size_alloc, World.size_setCell, World.size_drew] at *; omega))) | (with_reducible refine belA ?_ (by first | omega | (simp; done) | (simp; omega) | (simp only [World.size_alloc, World.size_setCell, World.size_drew] at *; omega))) | (with_reducible refine bel_drewN ?_ _) | (with_reducible refine Below.drew ?_) | (with_reducible assumption) | (refine Hid.out ?_; with_reducible assumption) | (apply belV; (with_reducible assumption); exact (by first | omega | (simp; done) | (simp; omega) | (simp only [World.size_alloc, World.size_setCell, World.size_drew] at *; omega)))))⟩
    · obtain ⟨rest, hpts⟩ := hmore.out rfl
      clear hmore hend
      have hmem := Lib.hid (ppu_len hpts)
      have HS := Lib.hid (cnt_small HV.out (f := allB p.rows) (pre := pre) ⟨x :: rest, hpts.symm⟩)
      have HPT := Lib.hid hpts; clear hpts
      have HXL : Hid (x.length = N) := Lib.hid (by rw [pts_len (vProb_us HV.out) hmem.out, HN.out])
      have HXB := Lib.hid (pts_bd (vProb_us HV.out) hmem.out)
      have HX : Hid (Ints wr (some ⟨w.heap.size + 2, 0, none⟩) N x) := Lib.hid (by have := hown.out.ints HXB.out; rwa [HXL.out] at this)
      have HF : Hid (Fits p N) := Lib.hid (by have := pt_fits HV.out hmem.out; rwa [HXL.out] at this)
      have hrun := Lib.hid (pts_split HU.out HPT.out)
      have HM := Lib.hid (restN_at HPT.out)
      have HRD := Lib.hid (rdB_of (n := N) hown.out HXL.out)
      have hs := HS.out
      have hwk : IntKind.i64.wrap ((cnt (allB p.rows) pre : Int) + 1) = (cnt (allB p.rows) pre : Int) + 1 := IntWalk.i64_in _ ⟨by omega, by omega⟩
      obtain ⟨x0, x1, x2⟩ := Box.facts3 hX.out
      have y0 := hX.out.1
      have yb := hown.out.1
      have hvi := fun (W : World) => spec_violatedN A0 A1 A2 (some ⟨w.heap.size + 2, 0, none⟩) c0 c1 c2 N N p x W
      simp only [HN.out, HNC.out] at hvi
      have VI := Lib.hid hvi; clear hvi
      go_wp2_with fail
      refine (VI.out _ (HP.out.below (by (repeat' (first | (with_reducible exact Below.refl _ _) | (with_reducible refine belS ?_ (by first | omega | (simp; done) | (simp; omega) | (simp only [World.size_alloc, World.size_setCell, World.size_drew] at *; omega))) | (with_reducible refine belA ?_ (by first | omega | (simp; done) | (simp; omega) | (simp only [World.size_alloc, World.size_setCell, World.size_drew] at *; omega))) | (with_reducible refine bel_drewN ?_ _) | (with_reducible refine Below.drew ?_) | (with_reducible assumption) | (refine Hid.out ?_; with_reducible assumption) | (apply belV; (with_reducible assumption); exact (by first | omega | (simp; done) | (simp; omega) | (simp only [World.size_alloc, World.size_setCell, World.size_drew] at *; omega))))))) (HX.out.below (by (repeat' (first | (with_reducible exact Below.refl _ _) | (with_reducible refine belS ?_ (by first | omega | (simp; done) | (simp; omega) | (simp only [World.size_alloc, World.size_setCell, World.size_drew] at *; omega))) | (with_reducible refine belA ?_ (by first | omega | (simp; done) | (simp; omega) | (simp only [World.size_alloc, World.size_setCell, World.size_drew] at *; omega))) | (with_reducible refine bel_drewN ?_ _) | (with_reducible refine Below.drew ?_) | (with_reducible assumption) | (refine Hid.out ?_; with_reducible assumption) | (apply belV; (with_reducible assumption); exact (by first | omega | (simp; done) | (simp; omega) | (simp only [World.size_alloc, World.size_setCell, World.size_drew] at *; omega))))))) hN5 HF.out (vProb_r6 HV.out)).mono ?_
      rintro e w1 ⟨Av, k, cv, rfl, hk6, hko, hb⟩
      have G1 : Hid (Below w.heap.size w w1) := belU hb (by (repeat' (first | (with_reducible exact Below.refl _ _) | (with_reducible refine belS ?_ (by first | omega | (simp; done) | (simp; omega) | (simp only [World.size_alloc, World.size_setCell, World.size_drew] at *; omega))) | (with_reducible refine belA ?_ (by first | omega | (simp; done) | (simp; omega) | (simp only [World.size_alloc, World.size_setCell, World.size_drew] at *; omega))) | (with_reducible refine bel_drewN ?_ _) | (with_reducible refine Below.drew ?_) | (with_reducible assumption) | (refine Hid.out ?_; with_reducible assumption) | (apply belV; (with_reducible assumption); exact (by first | omega | (simp; done) | (simp; omega) | (simp only [World.size_alloc, World.size_setCell, World.size_drew] at *; omega)))))) (by first | omega | (simp; done) | (simp; omega) | (simp only [World.size_alloc, World.size_setCell, World.size_drew] at *; omega))
      have X_1 : Hid (Box w1 (w.heap.size) #[.slice A0 N c0, .slice A1 N c1, .slice A2 p.rows.length c2]) := Lib.hid (Box.below (by (repeat' (first | (with_reducible exact Box.new _ _ _ (by first | omega | (simp; done) | (simp; omega) | (simp only [World.size_alloc, World.size_setCell, World.size_drew] at *; omega))) | (with_reducible refine Box.far ?_ (by first | omega | (simp; done) | (simp; omega) | (simp only [World.size_alloc, World.size_setCell, World.size_drew] at *; omega)) _) | (apply Box.put3_0) | (apply Box.put3_1) | (apply Box.put3_2) | (apply Box.put2_0) | (apply Box.put2_1) | (with_reducible refine Box.alloc ?_ _) | (with_reducible refine Box.drewN ?_ _) | (with_reducible refine Box.drew ?_) | (with_reducible assumption) | (refine Hid.out ?_; with_reducible assumption) | (apply Box.only; (with_reducible assumption); exact (by first | omega | (simp; done) | (simp; omega) | (simp only [World.size_alloc, World.size_setCell, World.size_drew] at *; omega))) | (apply Box.belowD; (with_reducible assumption))))) hb)
      have yX_1 : w.heap.size < w1.heap.size := X_1.out.1
      obtain ⟨X_1c0, X_1c1, X_1c2⟩ := Box.facts3 X_1.out
      have z1 := hb.size
      (try simp at z1)
      have D1 := Lib.hid hb; clear hb
      have HKO := Lib.hid hko; clear hko
      cases hok : allB p.rows x
      · have CN := Lib.hid (cnt_no (L := pre) hok)
        rw [hok] at HKO
        have hk0 := HKO.out
        go_wp2_with fail
        refine (spec_nextPoint _ _ _ _ _ (w.heap.size + 2) (w.heap.size + 1) p.uppers x w _ HU1.out (by (repeat' (first | (with_reducible exact Below.refl _ _) | (with_reducible refine belS ?_ (by first | omega | (simp; done) | (simp; omega) | (simp only [World.size_alloc, World.size_setCell, World.size_drew] at *; omega))) | (with_reducible refine belA ?_ (by first | omega | (simp; done) | (simp; omega) | (simp only [World.size_alloc, World.size_setCell, World.size_drew] at *; omega))) | (with_reducible refine bel_drewN ?_ _) | (with_reducible refine Below.drew ?_) | (with_reducible assumption) | (refine Hid.out ?_; with_reducible assumption) | (apply belV; (with_reducible assumption); exact (by first | omega | (simp; done) | (simp; omega) | (simp only [World.size_alloc, World.size_setCell, World.size_drew] at *; omega)))))) (by omega) (by (repeat' (first | (with_reducible exact OwnI.madeAt _ _ _ (by first | omega | (simp; done) | (simp; omega) | (simp only [World.size_alloc, World.size_setCell, World.size_drew] at *; omega))) | (with_reducible refine OwnI.far ?_ (by first | omega | (simp; done) | (simp; omega) | (simp only [World.size_alloc, World.size_setCell, World.size_drew] at *; omega)) _) | (with_reducible refine OwnI.alloc ?_ _) | (with_reducible refine OwnI.drewN ?_ _) | (with_reducible refine OwnI.drew ?_) | (with_reducible assumption) | (refine Hid.out ?_; with_reducible assumption) | (apply OwnI.turn; (with_reducible assumption); exact (by first | omega | (simp; done) | (simp; omega) | (simp only [World.size_alloc, World.size_setCell, World.size_drew] at *; omega))) | (apply OwnI.only; (with_reducible assumption); exact (by first | omega | (simp; done) | (simp; omega) | (simp only [World.size_alloc, World.size_setCell, World.size_drew] at *; omega))) | (apply OwnI.belowD; (with_reducible assumption))))) (by (repeat' (first | (with_reducible exact OwnI.madeAt _ _ _ (by first | omega | (simp; done) | (simp; omega) | (simp only [World.size_alloc, World.size_setCell, World.size_drew] at *; omega))) | (with_reducible refine OwnI.far ?_ (by first | omega | (simp; done) | (simp; omega) | (simp only [World.size_alloc, World.size_setCell, World.size_drew] at *; omega)) _) | (with_reducible refine OwnI.alloc ?_ _) | (with_reducible refine OwnI.drewN ?_ _) | (with_reducible refine OwnI.drew ?_) | (with_reducible assumption) | (refine Hid.out ?_; with_reducible assumption) | (apply OwnI.turn; (with_reducible assumption); exact (by first | omega | (simp; done) | (simp; omega) | (simp only [World.size_alloc, World.size_setCell, World.size_drew] at *; omega))) | (apply OwnI.only; (with_reducible assumption); exact (by first | omega | (simp; done) | (simp; omega) | (simp only [World.size_alloc, World.size_setCell, World.size_drew] at *; omega))) | (apply OwnI.belowD; (with_reducible assumption))))) (by omega) HXB.out HXL.out (by omega)).mono ?_
        rintro e w2 ⟨rfl, ho, ht⟩
        have z2 := ht.size
        (try simp at z2)
        have T2 := Lib.hid ht; clear ht
        have G2 : Hid (Below w.heap.size w w2) := Lib.hid (Below.turn (by (repeat' (first | (with_reducible exact Below.refl _ _) | (with_reducible refine belS ?_ (by first | omega | (simp; done) | (simp; omega) | (simp only [World.size_alloc, World.size_setCell, World.size_drew] at *; omega))) | (with_reducible refine belA ?_ (by first | omega | (simp; done) | (simp; omega) | (simp only [World.size_alloc, World.size_setCell, World.size_drew] at *; omega))) | (with_reducible refine bel_drewN ?_ _) | (with_reducible refine Below.drew ?_) | (with_reducible assumption) | (refine Hid.out ?_; with_reducible assumption) | (apply belV; (with_reducible assumption); exact (by first | omega | (simp; done) | (simp; omega) | (simp only [World.size_alloc, World.size_setCell, World.size_drew] at *; omega)))))) T2.out (by first | omega | (simp; done) | (simp; omega) | (simp only [World.size_alloc, World.size_setCell, World.size_drew] at *; omega)) (by first | omega | (simp; done) | (simp; omega) | (simp only [World.size_alloc, World.size_setCell, World.size_drew] at *; omega)))
        have O2 := Lib.hid ho; clear ho
        have X_2 : Hid (Box w2 (w.heap.size) #[.slice A0 N c0, .slice A1 N c1, .slice A2 p.rows.length c2]) := Lib.hid (Box.turn T2 (by first | omega | (simp; done) | (simp; omega) | (simp only [World.size_alloc, World.size_setCell, World.size_drew] at *; omega)) (by (repeat' (first | (with_reducible exact Box.new _ _ _ (by first | omega | (simp; done) | (simp; omega) | (simp only [World.size_alloc, World.size_setCell, World.size_drew] at *; omega))) | (with_reducible refine Box.far ?_ (by first | omega | (simp; done) | (simp; omega) | (simp only [World.size_alloc, World.size_setCell, World.size_drew] at *; omega)) _) | (apply Box.put3_0) | (apply Box.put3_1) | (apply Box.put3_2) | (apply Box.put2_0) | (apply Box.put2_1) | (with_reducible refine Box.alloc ?_ _) | (with_reducible refine Box.drewN ?_ _) | (with_reducible refine Box.drew ?_) | (with_reducible assumption) | (refine Hid.out ?_; with_reducible assumption) | (apply Box.only; (with_reducible assumption); exact (by first | omega | (simp; done) | (simp; omega) | (simp only [World.size_alloc, World.size_setCell, World.size_drew] at *; omega))) | (apply Box.belowD; (with_reducible assumption))))))
        have yX_2 : w.heap.size < w2.heap.size := X_2.out.1
        obtain ⟨X_2c0, X_2c1, X_2c2⟩ := Box.facts3 X_2.out
        have L2 : Hid (OwnI w2 (w.heap.size + 1) (List.replicate N 0)) := Lib.hid (OwnI.turn T2 (by omega) (by (repeat' (first | (with_reducible exact OwnI.madeAt _ _ _ (by first | omega | (simp; done) | (simp; omega) | (simp only [World.size_alloc, World.size_setCell, World.size_drew] at *; omega))) | (with_reducible refine OwnI.far ?_ (by first | omega | (simp; done) | (simp; omega) | (simp only [World.size_alloc, World.size_setCell, World.size_drew] at *; omega)) _) | (with_reducible refine OwnI.alloc ?_ _) | (with_reducible refine OwnI.drewN ?_ _) | (with_reducible refine OwnI.drew ?_) | (with_reducible assumption) | (refine Hid.out ?_; with_reducible assumption) | (apply OwnI.turn; (with_reducible assumption); exact (by first | omega | (simp; done) | (simp; omega) | (simp only [World.size_alloc, World.size_setCell, World.size_drew] at *; omega))) | (apply OwnI.only; (with_reducible assumption); exact (by first | omega | (simp; done) | (simp; omega) | (simp only [World.size_alloc, World.size_setCell, World.size_drew] at *; omega))) | (apply OwnI.belowD; (with_reducible assumption))))))
        cases rest with
        | nil =>
          have E := Lib.hid (runs_no hrun.out)
          rw [E.out]
          go_wp2_with fail
          go_roundw
          case rel => exact ⟨false, pre ++ [x], _, by rw [CN.out], rfl, Lib.hid (fun h => by cases h), Lib.hid (fun _ => HPT.out.symm), O2, L2, X_2, G2⟩
          case measure => rw [if_neg (by simp [boolOf]), if_pos (by simp [boolOf]), HRD.out, HM.out]; omega
        | cons y T' =>
          have E := Lib.hid (runs_yes hrun.out)
          have hxy : Hid (pts p.uppers = (pre ++ [x]) ++ y :: T') := Lib.hid (by rw [HPT.out]; simp)
          have HM2 := Lib.hid (restN_at hxy.out)
          have O3 := O2.out
          rw [E.out] at O3
          have O4 := Lib.hid O3; clear O3 O2
          have hyl := pts_len (vProb_us HV.out) (ppu_len hxy.out)
          rw [HN.out] at hyl
          have HYL := Lib.hid hyl; clear hyl
          rw [E.out]
          go_wp2_with fail
          go_roundw
          case rel => exact ⟨true, pre ++ [x], y, by rw [CN.out], rfl, Lib.hid (fun _ => ⟨T', hxy.out⟩), Lib.hid (fun h => by cases h), O4, L2, X_2, G2⟩
          case measure => rw [if_pos (by simp [boolOf]), if_pos (by simp [boolOf]), rdB_of (n := N) O4.out HYL.out, HRD.out, HM.out, HM2.out]; simp
      · have CN := Lib.hid (cnt_yes (L := pre) hok)
        rw [hok] at HKO
        have hk0 := HKO.out
        go_wp2_with fail
        refine (spec_nextPoint _ _ _ _ _ (w.heap.size + 2) (w.heap.size + 1) p.uppers x w _ HU1.out (by (repeat' (first | (with_reducible exact Below.refl _ _) | (with_reducible refine belS ?_ (by first | omega | (simp; done) | (simp; omega) | (simp only [World.size_alloc, World.size_setCell, World.size_drew] at *; omega))) | (with_reducible refine belA ?_ (by first | omega | (simp; done) | (simp; omega) | (simp only [World.size_alloc, World.size_setCell, World.size_drew] at *; omega))) | (with_reducible refine bel_drewN ?_ _) | (with_reducible refine Below.drew ?_) | (with_reducible assumption) | (refine Hid.out ?_; with_reducible assumption) | (apply belV; (with_reducible assumption); exact (by first | omega | (simp; done) | (simp; omega) | (simp only [World.size_alloc, World.size_setCell, World.size_drew] at *; omega)))))) (by omega) (by (repeat' (first | (with_reducible exact OwnI.madeAt _ _ _ (by first | omega | (simp; done) | (simp; omega) | (simp only [World.size_alloc, World.size_setCell, World.size_drew] at *; omega))) | (with_reducible refine OwnI.far ?_ (by first | omega | (simp; done) | (simp; omega) | (simp only [World.size_alloc, World.size_setCell, World.size_drew] at *; omega)) _) | (with_reducible refine OwnI.alloc ?_ _) | (with_reducible refine OwnI.drewN ?_ _) | (with_reducible refine OwnI.drew ?_) | (with_reducible assumption) | (refine Hid.out ?_; with_reducible assumption) | (apply OwnI.turn; (with_reducible assumption); exact (by first | omega | (simp; done) | (simp; omega) | (simp only [World.size_alloc, World.size_setCell, World.size_drew] at *; omega))) | (apply OwnI.only; (with_reducible assumption); exact (by first | omega | (simp; done) | (simp; omega) | (simp only [World.size_alloc, World.size_setCell, World.size_drew] at *; omega))) | (apply OwnI.belowD; (with_reducible assumption))))) (by (repeat' (first | (with_reducible exact OwnI.madeAt _ _ _ (by first | omega | (simp; done) | (simp; omega) | (simp only [World.size_alloc, World.size_setCell, World.size_drew] at *; omega))) | (with_reducible refine OwnI.far ?_ (by first | omega | (simp; done) | (simp; omega) | (simp only [World.size_alloc, World.size_setCell, World.size_drew] at *; omega)) _) | (with_reducible refine OwnI.alloc ?_ _) | (with_reducible refine OwnI.drewN ?_ _) | (with_reducible refine OwnI.drew ?_) | (with_reducible assumption) | (refine Hid.out ?_; with_reducible assumption) | (apply OwnI.turn; (with_reducible assumption); exact (by first | omega | (simp; done) | (simp; omega) | (simp only [World.size_alloc, World.size_setCell, World.size_drew] at *; omega))) | (apply OwnI.only; (with_reducible assumption); exact (by first | omega | (simp; done) | (simp; omega) | (simp only [World.size_alloc, World.size_setCell, World.size_drew] at *; omega))) | (apply OwnI.belowD; (with_reducible assumption))))) (by omega) HXB.out HXL.out (by omega)).mono ?_
        rintro e w2 ⟨rfl, ho, ht⟩
        have z2 := ht.size
        (try simp at z2)
        have T2 := Lib.hid ht; clear ht
        have G2 : Hid (Below w.heap.size w w2) := Lib.hid (Below.turn (by (repeat' (first | (with_reducible exact Below.refl _ _) | (with_reducible refine belS ?_ (by first | omega | (simp; done) | (simp; omega) | (simp only [World.size_alloc, World.size_setCell, World.size_drew] at *; omega))) | (with_reducible refine belA ?_ (by first | omega | (simp; done) | (simp; omega) | (simp only [World.size_alloc, World.size_setCell, World.size_drew] at *; omega))) | (with_reducible refine bel_drewN ?_ _) | (with_reducible refine Below.drew ?_) | (with_reducible assumption) | (refine Hid.out ?_; with_reducible assumption) | (apply belV; (with_reducible assumption); exact (by first | omega | (simp; done) | (simp; omega) | (simp only [World.size_alloc, World.size_setCell, World.size_drew] at *; omega)))))) T2.out (by first | omega | (simp; done) | (simp; omega) | (simp only [World.size_alloc, World.size_setCell, World.size_drew] at *; omega)) (by first | omega | (simp; done) | (simp; omega) | (simp only [World.size_alloc, World.size_setCell, World.size_drew] at *; omega)))
        have O2 := Lib.hid ho; clear ho
        have X_2 : Hid (Box w2 (w.heap.size) #[.slice A0 N c0, .slice A1 N c1, .slice A2 p.rows.length c2]) := Lib.hid (Box.turn T2 (by first | omega | (simp; done) | (simp; omega) | (simp only [World.size_alloc, World.size_setCell, World.size_drew] at *; omega)) (by (repeat' (first | (with_reducible exact Box.new _ _ _ (by first | omega | (simp; done) | (simp; omega) | (simp only [World.size_alloc, World.size_setCell, World.size_drew] at *; omega))) | (with_reducible refine Box.far ?_ (by first | omega | (simp; done) | (simp; omega) | (simp only [World.size_alloc, World.size_setCell, World.size_drew] at *; omega)) _) | (apply Box.put3_0) | (apply Box.put3_1) | (apply Box.put3_2) | (apply Box.put2_0) | (apply Box.put2_1) | (with_reducible refine Box.alloc ?_ _) | (with_reducible refine Box.drewN ?_ _) | (with_reducible refine Box.drew ?_) | (with_reducible assumption) | (refine Hid.out ?_; with_reducible assumption) | (apply Box.only; (with_reducible assumption); exact (by first | omega | (simp; done) | (simp; omega) | (simp only [World.size_alloc, World.size_setCell, World.size_drew] at *; omega))) | (apply Box.belowD; (with_reducible assumption))))))
        have yX_2 : w.heap.size < w2.heap.size := X_2.out.1
        obtain ⟨X_2c0, X_2c1, X_2c2⟩ := Box.facts3 X_2.out
        have L2 : Hid (OwnI w2 (w.heap.size + 1) (List.replicate N 0)) := Lib.hid (OwnI.turn T2 (by omega) (by (repeat' (first | (with_reducible exact OwnI.madeAt _ _ _ (by first | omega | (simp; done) | (simp; omega) | (simp only [World.size_alloc, World.size_setCell, World.size_drew] at *; omega))) | (with_reducible refine OwnI.far ?_ (by first | omega | (simp; done) | (simp; omega) | (simp only [World.size_alloc, World.size_setCell, World.size_drew] at *; omega)) _) | (with_reducible refine OwnI.alloc ?_ _) | (with_reducible refine OwnI.drewN ?_ _) | (with_reducible refine OwnI.drew ?_) | (with_reducible assumption) | (refine Hid.out ?_; with_reducible assumption) | (apply OwnI.turn; (with_reducible assumption); exact (by first | omega | (simp; done) | (simp; omega) | (simp only [World.size_alloc, World.size_setCell, World.size_drew] at *; omega))) | (apply OwnI.only; (with_reducible assumption); exact (by first | omega | (simp; done) | (simp; omega) | (simp only [World.size_alloc, World.size_setCell, World.size_drew] at *; omega))) | (apply OwnI.belowD; (with_reducible assumption))))))
        cases rest with
        | nil =>
          have E := Lib.hid (runs_no hrun.out)
          rw [E.out]
          go_wp2_with fail
          go_roundw
          case rel => exact ⟨false, pre ++ [x], _, by rw [CN.out]; rfl, rfl, Lib.hid (fun h => by cases h), Lib.hid (fun _ => HPT.out.symm), O2, L2, X_2, G2⟩
          case measure => rw [if_neg (by simp [boolOf]), if_pos (by simp [boolOf]), HRD.out, HM.out]; omega
        | cons y T' =>
          have E := Lib.hid (runs_yes hrun.out)
          have hxy : Hid (pts p.uppers = (pre ++ [x]) ++ y :: T') := Lib.hid (by rw [HPT.out]; simp)
          have HM2 := Lib.hid (restN_at hxy.out)
          have O3 := O2.out
          rw [E.out] at O3
          have O4 := Lib.hid O3; clear O3 O2
          have hyl := pts_len (vProb_us HV.out) (ppu_len hxy.out)
          rw [HN.out] at hyl
          have HYL := Lib.hid hyl; clear hyl
          rw [E.out]
          go_wp2_with fail
          go_roundw
          case rel => exact ⟨true, pre ++ [x], y, by rw [CN.out]; rfl, rfl, Lib.hid (fun _ => ⟨T', hxy.out⟩), Lib.hid (fun h => by cases h), O4, L2, X_2, G2⟩
          case measure => rw [if_pos (by simp [boolOf]), if_pos (by simp [boolOf]), rdB_of (n := N) O4.out HYL.out, HRD.out, HM.out, HM2.out]; simp

set_option maxHeartbeats 1000000 in
theorem spec_CountFeasible (A0 A1 A2 : Option Addr) (c0 c1 c2 : Nat) (p : PProb) (w : World) (hp : ProbV w A0 A1 A2 c0 c1 c2 p) :
    Calls Try.prog 19 #[.agg #[.slice A0 p.costs.length c0, .slice A1 p.uppers.length c1, .slice A2 p.rows.length c2]] w fun e w' => e = .returned (.int .i64 (cntF p)) ∧ Below w.heap.size w w' := by
  have HP := Lib.hid hp; clear hp
  cases hv : vProb p
  · have E := Lib.hid (cntF_1 hv)
    go_enter Try.func19, Try.ntmps19
    go_wp2_with fail
    refine (spec_validProblem _ _ _ _ _ _ p _ (HP.out.below (by (repeat' (first | (with_reducible exact Below.refl _ _) | (with_reducible refine belS ?_ (by first | omega | (simp; done) | (simp; omega) | (simp only [World.size_alloc, World.size_setCell, World.size_drew] at *; omega))) | (with_reducible refine belA ?_ (by first | omega | (simp; done) | (simp; omega) | (simp only [World.size_alloc, World.size_setCell, World.size_drew] at *; omega))) | (with_reducible refine bel_drewN ?_ _) | (with_reducible refine Below.drew ?_) | (with_reducible assumption) | (refine Hid.out ?_; with_reducible assumption) | (apply belV; (with_reducible assumption); exact (by first | omega | (simp; done) | (simp; omega) | (simp only [World.size_alloc, World.size_setCell, World.size_drew] at *; omega)))))))).mono ?_
    rintro e w1 ⟨rfl, hb⟩
    have G1 : Hid (Below w.heap.size w w1) := belU hb (by (repeat' (first | (with_reducible exact Below.refl _ _) | (with_reducible refine belS ?_ (by first | omega | (simp; done) | (simp; omega) | (simp only [World.size_alloc, World.size_setCell, World.size_drew] at *; omega))) | (with_reducible refine belA ?_ (by first | omega | (simp; done) | (simp; omega) | (simp only [World.size_alloc, World.size_setCell, World.size_drew] at *; omega))) | (with_reducible refine bel_drewN ?_ _) | (with_reducible refine Below.drew ?_) | (with_reducible assumption) | (refine Hid.out ?_; with_reducible assumption) | (apply belV; (with_reducible assumption); exact (by first | omega | (simp; done) | (simp; omega) | (simp only [World.size_alloc, World.size_setCell, World.size_drew] at *; omega)))))) (by first | omega | (simp; done) | (simp; omega) | (simp only [World.size_alloc, World.size_setCell, World.size_drew] at *; omega))
    have X_1 : Hid (Box w1 (w.heap.size) #[.slice A0 p.costs.length c0, .slice A1 p.uppers.length c1, .slice A2 p.rows.length c2]) := Lib.hid (Box.below (by (repeat' (first | (with_reducible exact Box.new _ _ _ (by first | omega | (simp; done) | (simp; omega) | (simp only [World.size_alloc, World.size_setCell, World.size_drew] at *; omega))) | (with_reducible refine Box.far ?_ (by first | omega | (simp; done) | (simp; omega) | (simp only [World.size_alloc, World.size_setCell, World.size_drew] at *; omega)) _) | (apply Box.put3_0) | (apply Box.put3_1) | (apply Box.put3_2) | (apply Box.put2_0) | (apply Box.put2_1) | (with_reducible refine Box.alloc ?_ _) | (with_reducible refine Box.drewN ?_ _) | (with_reducible refine Box.drew ?_) | (with_reducible assumption) | (refine Hid.out ?_; with_reducible assumption) | (apply Box.only; (with_reducible assumption); exact (by first | omega | (simp; done) | (simp; omega) | (simp only [World.size_alloc, World.size_setCell, World.size_drew] at *; omega))) | (apply Box.belowD; (with_reducible assumption))))) hb)
    have yX_1 : w.heap.size < w1.heap.size := X_1.out.1
    obtain ⟨X_1c0, X_1c1, X_1c2⟩ := Box.facts3 X_1.out
    have z1 := hb.size
    (try simp at z1)
    have D1 := Lib.hid hb; clear hb
    rw [hv]
    go_wp2_with fail
    go_ret
    exact ⟨ret_i E.out.symm, by (repeat' (first | (with_reducible exact Below.refl _ _) | (with_reducible refine belS ?_ (by first | omega | (simp; done) | (simp; omega) | (simp only [World.size_alloc, World.size_setCell, World.size_drew] at *; omega))) | (with_reducible refine belA ?_ (by first | omega | (simp; done) | (simp; omega) | (simp only [World.size_alloc, World.size_setCell, World.size_drew] at *; omega))) | (with_reducible refine bel_drewN ?_ _) | (with_reducible refine Below.drew ?_) | (with_reducible assumption) | (refine Hid.out ?_; with_reducible assumption) | (apply belV; (with_reducible assumption); exact (by first | omega | (simp; done) | (simp; omega) | (simp only [World.size_alloc, World.size_setCell, World.size_drew] at *; omega)))))⟩
  · have E := Lib.hid (cntF_2 hv)
    go_enter Try.func19, Try.ntmps19
    go_wp2_with fail
    refine (spec_validProblem _ _ _ _ _ _ p _ (HP.out.below (by (repeat' (first | (with_reducible exact Below.refl _ _) | (with_reducible refine belS ?_ (by first | omega | (simp; done) | (simp; omega) | (simp only [World.size_alloc, World.size_setCell, World.size_drew] at *; omega))) | (with_reducible refine belA ?_ (by first | omega | (simp; done) | (simp; omega) | (simp only [World.size_alloc, World.size_setCell, World.size_drew] at *; omega))) | (with_reducible refine bel_drewN ?_ _) | (with_reducible refine Below.drew ?_) | (with_reducible assumption) | (refine Hid.out ?_; with_reducible assumption) | (apply belV; (with_reducible assumption); exact (by first | omega | (simp; done) | (simp; omega) | (simp only [World.size_alloc, World.size_setCell, World.size_drew] at *; omega)))))))).mono ?_
    rintro e w1 ⟨rfl, hb⟩
    have G1 : Hid (Below w.heap.size w w1) := belU hb (by (repeat' (first | (with_reducible exact Below.refl _ _) | (with_reducible refine belS ?_ (by first | omega | (simp; done) | (simp; omega) | (simp only [World.size_alloc, World.size_setCell, World.size_drew] at *; omega))) | (with_reducible refine belA ?_ (by first | omega | (simp; done) | (simp; omega) | (simp only [World.size_alloc, World.size_setCell, World.size_drew] at *; omega))) | (with_reducible refine bel_drewN ?_ _) | (with_reducible refine Below.drew ?_) | (with_reducible assumption) | (refine Hid.out ?_; with_reducible assumption) | (apply belV; (with_reducible assumption); exact (by first | omega | (simp; done) | (simp; omega) | (simp only [World.size_alloc, World.size_setCell, World.size_drew] at *; omega)))))) (by first | omega | (simp; done) | (simp; omega) | (simp only [World.size_alloc, World.size_setCell, World.size_drew] at *; omega))
    have X_1 : Hid (Box w1 (w.heap.size) #[.slice A0 p.costs.length c0, .slice A1 p.uppers.length c1, .slice A2 p.rows.length c2]) := Lib.hid (Box.below (by (repeat' (first | (with_reducible exact Box.new _ _ _ (by first | omega | (simp; done) | (simp; omega) | (simp only [World.size_alloc, World.size_setCell, World.size_drew] at *; omega))) | (with_reducible refine Box.far ?_ (by first | omega | (simp; done) | (simp; omega) | (simp only [World.size_alloc, World.size_setCell, World.size_drew] at *; omega)) _) | (apply Box.put3_0) | (apply Box.put3_1) | (apply Box.put3_2) | (apply Box.put2_0) | (apply Box.put2_1) | (with_reducible refine Box.alloc ?_ _) | (with_reducible refine Box.drewN ?_ _) | (with_reducible refine Box.drew ?_) | (with_reducible assumption) | (refine Hid.out ?_; with_reducible assumption) | (apply Box.only; (with_reducible assumption); exact (by first | omega | (simp; done) | (simp; omega) | (simp only [World.size_alloc, World.size_setCell, World.size_drew] at *; omega))) | (apply Box.belowD; (with_reducible assumption))))) hb)
    have yX_1 : w.heap.size < w1.heap.size := X_1.out.1
    obtain ⟨X_1c0, X_1c1, X_1c2⟩ := Box.facts3 X_1.out
    have z1 := hb.size
    (try simp at z1)
    have D1 := Lib.hid hb; clear hb
    rw [hv]
    go_wp2_with fail
    refine (spec_countFeasible _ _ _ _ _ _ p _ (HP.out.below (by (repeat' (first | (with_reducible exact Below.refl _ _) | (with_reducible refine belS ?_ (by first | omega | (simp; done) | (simp; omega) | (simp only [World.size_alloc, World.size_setCell, World.size_drew] at *; omega))) | (with_reducible refine belA ?_ (by first | omega | (simp; done) | (simp; omega) | (simp only [World.size_alloc, World.size_setCell, World.size_drew] at *; omega))) | (with_reducible refine bel_drewN ?_ _) | (with_reducible refine Below.drew ?_) | (with_reducible assumption) | (refine Hid.out ?_; with_reducible assumption) | (apply belV; (with_reducible assumption); exact (by first | omega | (simp; done) | (simp; omega) | (simp only [World.size_alloc, World.size_setCell, World.size_drew] at *; omega))))))) hv).mono ?_
    rintro e w2 ⟨rfl, hb⟩
    have G2 : Hid (Below w.heap.size w w2) := belU hb (by (repeat' (first | (with_reducible exact Below.refl _ _) | (with_reducible refine belS ?_ (by first | omega | (simp; done) | (simp; omega) | (simp only [World.size_alloc, World.size_setCell, World.size_drew] at *; omega))) | (with_reducible refine belA ?_ (by first | omega | (simp; done) | (simp; omega) | (simp only [World.size_alloc, World.size_setCell, World.size_drew] at *; omega))) | (with_reducible refine bel_drewN ?_ _) | (with_reducible refine Below.drew ?_) | (with_reducible assumption) | (refine Hid.out ?_; with_reducible assumption) | (apply belV; (with_reducible assumption); exact (by first | omega | (simp; done) | (simp; omega) | (simp only [World.size_alloc, World.size_setCell, World.size_drew] at *; omega)))))) (by first | omega | (simp; done) | (simp; omega) | (simp only [World.size_alloc, World.size_setCell, World.size_drew] at *; omega))
    have X_2 : Hid (Box w2 (w.heap.size) #[.slice A0 p.costs.length c0, .slice A1 p.uppers.length c1, .slice A2 p.rows.length c2]) := Lib.hid (Box.below (by (repeat' (first | (with_reducible exact Box.new _ _ _ (by first | omega | (simp; done) | (simp; omega) | (simp only [World.size_alloc, World.size_setCell, World.size_drew] at *; omega))) | (with_reducible refine Box.far ?_ (by first | omega | (simp; done) | (simp; omega) | (simp only [World.size_alloc, World.size_setCell, World.size_drew] at *; omega)) _) | (apply Box.put3_0) | (apply Box.put3_1) | (apply Box.put3_2) | (apply Box.put2_0) | (apply Box.put2_1) | (with_reducible refine Box.alloc ?_ _) | (with_reducible refine Box.drewN ?_ _) | (with_reducible refine Box.drew ?_) | (with_reducible assumption) | (refine Hid.out ?_; with_reducible assumption) | (apply Box.only; (with_reducible assumption); exact (by first | omega | (simp; done) | (simp; omega) | (simp only [World.size_alloc, World.size_setCell, World.size_drew] at *; omega))) | (apply Box.belowD; (with_reducible assumption))))) hb)
    have yX_2 : w.heap.size < w2.heap.size := X_2.out.1
    obtain ⟨X_2c0, X_2c1, X_2c2⟩ := Box.facts3 X_2.out
    have z2 := hb.size
    (try simp at z2)
    have D2 := Lib.hid hb; clear hb
    go_wp2_with fail
    go_ret
    exact ⟨ret_i E.out.symm, by (repeat' (first | (with_reducible exact Below.refl _ _) | (with_reducible refine belS ?_ (by first | omega | (simp; done) | (simp; omega) | (simp only [World.size_alloc, World.size_setCell, World.size_drew] at *; omega))) | (with_reducible refine belA ?_ (by first | omega | (simp; done) | (simp; omega) | (simp only [World.size_alloc, World.size_setCell, World.size_drew] at *; omega))) | (with_reducible refine bel_drewN ?_ _) | (with_reducible refine Below.drew ?_) | (with_reducible assumption) | (refine Hid.out ?_; with_reducible assumption) | (apply belV; (with_reducible assumption); exact (by first | omega | (simp; done) | (simp; omega) | (simp only [World.size_alloc, World.size_setCell, World.size_drew] at *; omega)))))⟩
end Go.Proofs.Ytangfmmjpomlgaa
