
/-
  How many points are cheapest: the model's CountBest.
-/
import Derived.Test.YtangfmmjpomlgaaNl
set_option linter.unusedSimpArgs false
set_option linter.unusedVariables false
namespace Go.Proofs.Ytangfmmjpomlgaa
open Go.RowKit

theorem solC_bd {p : PProb} (hv : vProb p = true) : -1 ≤ solC p ∧ solC p ≤ 5000 := by
  rw [solC_2 hv]
  exact slv_cb hv (pre := pts p.uppers) (rest := []) (by simp)
theorem bestB_ne {p : PProb} {x : List Int} (h : ¬ dotW p.costs x = solC p) : bestB p x = false := by simp [bestB, h]
theorem bestB_no {p : PProb} {x : List Int} (h : allB p.rows x = false) : bestB p x = false := by simp [bestB, h]
theorem bestB_yes {p : PProb} {x : List Int} (h1 : dotW p.costs x = solC p) (h : allB p.rows x = true) : bestB p x = true := by simp [bestB, h, h1]

set_option maxHeartbeats 8000000 in
set_option maxRecDepth 100000 in
theorem spec_CountBest (A0 A1 A2 : Option Addr) (c0 c1 c2 : Nat) (p : PProb) (w : World) (hp : ProbV w A0 A1 A2 c0 c1 c2 p) :
    Calls Try.prog 16 #[.agg #[.slice A0 p.costs.length c0, .slice A1 p.uppers.length c1, .slice A2 p.rows.length c2]] w fun e w' => e = .returned (.int .i64 (cntB p)) ∧ Below w.heap.size w w' := by
  have HP := Lib.hid hp; clear hp
  cases hv : vProb p
  · have E := Lib.hid (cntB_1 hv)
    go_enter Try.func16, Try.ntmps16
    go_wp2_with fail
    refine (spec_validProblem _ _ _ _ _ _ p _ (HP.out.below (by (repeat' (first | (with_reducible exact Below.refl _ _) | (with_reducible refine belS ?_ (by first | omega | (simp; done) | (simp; omega) | (simp only [World.size_alloc, World.size_setCell, World.size_drew] at *; omega))) | (with_reducible refine belA ?_ (by first | omega | (simp; done) | (simp; omega) | (simp only [World.size_alloc, World.size_setCell, World.size_drew] at *; omega))) | (with_reducible refine bel_drewN ?_ _) | (with_reducible refine Below.drew ?_) | (with_reducible assumption) | (refine Hid.out ?_; with_reducible assumption) | (apply belV; (with_reducible assumption); exact (by first | omega | (simp; done) | (simp; omega) | (simp only [World.size_alloc, World.size_setCell, World.size_drew] at *; omega)))))))).mono ?_
    rintro e w1 ⟨rfl, hb⟩
    have G1 : Hid (Below w.heap.size w w1) := belU hb (by (repeat' (first | (with_reducible exact Below.refl _ _) | (with_reducible refine belS ?_ (by first | omega | (simp; done) | (simp; omega) | (simp only [World.size_alloc, World.size_setCell, World.size_drew] at *; omega))) | (with_reducible refine belA ?_ (by first | omega | (simp; done) | (simp; omega) | (simp only [World.size_alloc, World.size_setCell, World.size_drew] at *; omega))) | (with_reducible refine bel_drewN ?_ _) | (with_reducible refine Below.drew ?_) | (with_reducible assumption) | (refine Hid.out ?_; with_reducible assumption) | (apply belV; (with_reducible assumption); exact (by first | omega | (simp; done) | (simp; omega) | (simp only [World.size_alloc, World.size_setCell, World.size_drew] at *; omega)))))) (by first | omega | (simp; done) | (simp; omega) | (simp only [World.size_alloc, World.size_setCell, World.size_drew] at *; omega))
    have X_1 : Hid (Box w1 (w.heap.size) #[.slice A0 p.costs.length c0, .slice A1 p.uppers.length c1, .slice A2 p.rows.length c2]) := Lib.hid (Box.below (by (repeat' (first | (with_reducible exact Box.new _ _ _ (by first | omega | (simp; done) | (simp; omega) | (simp only [World.size_alloc, World.size_setCell, World.size_drew] at *; omega))) | (with_reducible refine Box.far ?_ (by first | omega | (simp; done) | (simp; omega) | (simp only [World.size_alloc, World.size_setCell, World.size_drew] at *; omega)) _) | (apply Box.put3_0) | (apply Box.put3_1) | (apply Box.put3_2) | (apply Box.put2_0) | (apply Box.put2_1) | (with_reducible refine Box.alloc ?_ _) | (with_reducible refine Box.drewN ?_ _) | (with_reducible refine Box.drew ?_) | (with_reducible assumption) | (refine Hid.out ?_; with_reducible assumption) | (apply Box.only; (with_reducible assumption); exact (by first | omega | (simp; done) | (simp; omega) | (simp only [World.size_alloc, World.size_setCell, World.size_drew] at *; omega))) | (apply Box.belowD; (with_reducible assumption))))) hb)
    have yX_1 : w.heap.size < w1.heap.size := X_1.out.1
    obtain ⟨X_1c0, X_1c1, X_1c2⟩ := Box.facts3 X_1.out
    have z1 := hb.size
    (try simp at z1)
    have D1 := Lib.hid hb; clear hb
    rw [hv]
    go_wp2_with fail
    go_ret
    exact ⟨ret_i E.out.symm, by (repeat' (first | (with_reducible exact Below.refl _ _) | (with_reducible refine belS ?_ (by first | omega | (simp; done) | (simp; omega) | (simp only [World.size_alloc, World.size_setCell, World.size_drew] at *; omega))) | (with_reducible refine belA ?_ (by first | omega | (simp; done) | (simp; omega) | (simp only [World.size_alloc, World.size_setCell, World.size_drew] at *; omega))) | (with_reducible refine bel_drewN ?_ _) | (with_reducible refine Below.drew ?_) | (with_reducible assumption) | (refine Hid.out ?_; with_reducible assumption) | (apply belV; (with_reducible assumption); exact (by first | omega | (simp; done) | (simp; omega) | (simp only [World.size_alloc, World.size_setCell, World.size_drew] at *; omega)))))⟩
  obtain ⟨i0, hi0, hz0, hz1, hz2⟩ := info_parts info_int
  have EN := Lib.hid (cntB_2 hv)
  have hul0 := vProb_ul hv
  have h50 := (vProb_N5 hv).1
  obtain ⟨N, hN⟩ : ∃ N, p.uppers.length = N := ⟨_, rfl⟩
  have hNc : p.costs.length = N := by omega
  have h5 : N ≤ 5 := by omega
  have HN := Lib.hid hN
  have HNC := Lib.hid hNc
  have HV := Lib.hid hv
  have hN5 : N ≤ maxLen := by unfold maxLen; omega
  have HU1 : Hid (Ints w A1 N p.uppers) := Lib.hid (by have := HP.out.i1; rwa [HN.out] at this)
  have HC1 : Hid (Ints w A0 N p.costs) := Lib.hid (by have := HP.out.i0; rwa [HNC.out] at this)
  have hmk := fun W => run_makeN (P := Try.prog) 23 3 i0 (.int .i64 0) Try.underlying23 hi0 hz0 N (by rw [hz2]; omega) (by omega) W
  simp only [hz1, Nat.mul_one] at hmk
  clear hul0 h50
  have HU := Lib.hid (fun u h => (vProb_us HV.out u h).1)
  obtain ⟨T, hT⟩ := pts_first HU.out
  rw [HN.out] at hT
  have HT := Lib.hid hT; clear hT
  have hvp := fun (W : World) => spec_validProblem A0 A1 A2 c0 c1 c2 p W
  have hse := fun (W : World) => spec_solveExact A0 A1 A2 c0 c1 c2 p W
  simp only [HN.out, HNC.out] at hvp hse
  have VP := Lib.hid hvp; clear hvp
  have SE := Lib.hid hse; clear hse
  obtain ⟨least, hle⟩ : ∃ c, solC p = c := ⟨_, rfl⟩
  have HLB := Lib.hid (solC_bd hv)
  rw [hle] at HLB
  have HLE := Lib.hid hle; clear hle
  have hlb := HLB.out
  go_enter Try.func16, Try.ntmps16
  rw [hN, hNc]
  clear hN hNc
  go_wp2_with fail
  refine (VP.out _ (HP.out.below (by (repeat' (first | (with_reducible exact Below.refl _ _) | (with_reducible refine belS ?_ (by first | omega | (simp; done) | (simp; omega) | (simp only [World.size_alloc, World.size_setCell, World.size_drew] at *; omega))) | (with_reducible refine belA ?_ (by first | omega | (simp; done) | (simp; omega) | (simp only [World.size_alloc, World.size_setCell, World.size_drew] at *; omega))) | (with_reducible refine bel_drewN ?_ _) | (with_reducible refine Below.drew ?_) | (with_reducible assumption) | (refine Hid.out ?_; with_reducible assumption) | (apply belV; (with_reducible assumption); exact (by first | omega | (simp; done) | (simp; omega) | (simp only [World.size_alloc, World.size_setCell, World.size_drew] at *; omega)))))))).mono ?_
  rintro e w1 ⟨rfl, hb⟩
  have G1 : Hid (Below w.heap.size w w1) := belU hb (by (repeat' (first | (with_reducible exact Below.refl _ _) | (with_reducible refine belS ?_ (by first | omega | (simp; done) | (simp; omega) | (simp only [World.size_alloc, World.size_setCell, World.size_drew] at *; omega))) | (with_reducible refine belA ?_ (by first | omega | (simp; done) | (simp; omega) | (simp only [World.size_alloc, World.size_setCell, World.size_drew] at *; omega))) | (with_reducible refine bel_drewN ?_ _) | (with_reducible refine Below.drew ?_) | (with_reducible assumption) | (refine Hid.out ?_; with_reducible assumption) | (apply belV; (with_reducible assumption); exact (by first | omega | (simp; done) | (simp; omega) | (simp only [World.size_alloc, World.size_setCell, World.size_drew] at *; omega)))))) (by first | omega | (simp; done) | (simp; omega) | (simp only [World.size_alloc, World.size_setCell, World.size_drew] at *; omega))
  have X_1 : Hid (Box w1 (w.heap.size) #[.slice A0 N c0, .slice A1 N c1, .slice A2 p.rows.length c2]) := Lib.hid (Box.below (by (repeat' (first | (with_reducible exact Box.new _ _ _ (by first | omega | (simp; done) | (simp; omega) | (simp only [World.size_alloc, World.size_setCell, World.size_drew] at *; omega))) | (with_reducible refine Box.far ?_ (by first | omega | (simp; done) | (simp; omega) | (simp only [World.size_alloc, World.size_setCell, World.size_drew] at *; omega)) _) | (apply Box.put3_0) | (apply Box.put3_1) | (apply Box.put3_2) | (apply Box.put2_0) | (apply Box.put2_1) | (with_reducible refine Box.alloc ?_ _) | (with_reducible refine Box.drewN ?_ _) | (with_reducible refine Box.drew ?_) | (with_reducible assumption) | (refine Hid.out ?_; with_reducible assumption) | (apply Box.only; (with_reducible assumption); exact (by first | omega | (simp; done) | (simp; omega) | (simp only [World.size_alloc, World.size_setCell, World.size_drew] at *; omega))) | (apply Box.belowD; (with_reducible assumption))))) hb)
  have yX_1 : w.heap.size < w1.heap.size := X_1.out.1
  obtain ⟨X_1c0, X_1c1, X_1c2⟩ := Box.facts3 X_1.out
  have z1 := hb.size
  (try simp at z1)
  have D1 := Lib.hid hb; clear hb
  rw [hv]
  clear hv
  go_wp2_with fail
  refine (SE.out _ (HP.out.below (by (repeat' (first | (with_reducible exact Below.refl _ _) | (with_reducible refine belS ?_ (by first | omega | (simp; done) | (simp; omega) | (simp only [World.size_alloc, World.size_setCell, World.size_drew] at *; omega))) | (with_reducible refine belA ?_ (by first | omega | (simp; done) | (simp; omega) | (simp only [World.size_alloc, World.size_setCell, World.size_drew] at *; omega))) | (with_reducible refine bel_drewN ?_ _) | (with_reducible refine Below.drew ?_) | (with_reducible assumption) | (refine Hid.out ?_; with_reducible assumption) | (apply belV; (with_reducible assumption); exact (by first | omega | (simp; done) | (simp; omega) | (simp only [World.size_alloc, World.size_setCell, World.size_drew] at *; omega))))))) HV.out).mono ?_
  rintro e w2 ⟨As, cs, rfl, ho, hb⟩
  have G2 : Hid (Below w.heap.size w w2) := belU hb (by (repeat' (first | (with_reducible exact Below.refl _ _) | (with_reducible refine belS ?_ (by first | omega | (simp; done) | (simp; omega) | (simp only [World.size_alloc, World.size_setCell, World.size_drew] at *; omega))) | (with_reducible refine belA ?_ (by first | omega | (simp; done) | (simp; omega) | (simp only [World.size_alloc, World.size_setCell, World.size_drew] at *; omega))) | (with_reducible refine bel_drewN ?_ _) | (with_reducible refine Below.drew ?_) | (with_reducible assumption) | (refine Hid.out ?_; with_reducible assumption) | (apply belV; (with_reducible assumption); exact (by first | omega | (simp; done) | (simp; omega) | (simp only [World.size_alloc, World.size_setCell, World.size_drew] at *; omega)))))) (by first | omega | (simp; done) | (simp; omega) | (simp only [World.size_alloc, World.size_setCell, World.size_drew] at *; omega))
  (try simp only [World.size_alloc, World.size_setCell, World.size_drew, World.heap_drewN] at ho)
  have OS := Lib.hid ho; clear ho
  have X_2 : Hid (Box w2 (w.heap.size) #[.slice A0 N c0, .slice A1 N c1, .slice A2 p.rows.length c2]) := Lib.hid (Box.below (by (repeat' (first | (with_reducible exact Box.new _ _ _ (by first | omega | (simp; done) | (simp; omega) | (simp only [World.size_alloc, World.size_setCell, World.size_drew] at *; omega))) | (with_reducible refine Box.far ?_ (by first | omega | (simp; done) | (simp; omega) | (simp only [World.size_alloc, World.size_setCell, World.size_drew] at *; omega)) _) | (apply Box.put3_0) | (apply Box.put3_1) | (apply Box.put3_2) | (apply Box.put2_0) | (apply Box.put2_1) | (with_reducible refine Box.alloc ?_ _) | (with_reducible refine Box.drewN ?_ _) | (with_reducible refine Box.drew ?_) | (with_reducible assumption) | (refine Hid.out ?_; with_reducible assumption) | (apply Box.only; (with_reducible assumption); exact (by first | omega | (simp; done) | (simp; omega) | (simp only [World.size_alloc, World.size_setCell, World.size_drew] at *; omega))) | (apply Box.belowD; (with_reducible assumption))))) hb)
  have yX_2 : w.heap.size < w2.heap.size := X_2.out.1
  obtain ⟨X_2c0, X_2c1, X_2c2⟩ := Box.facts3 X_2.out
  have z2 := hb.size
  (try simp at z2)
  have D2 := Lib.hid hb; clear hb
  rw [HLE.out]
  go_wp2_with fail
  go_loopw [3, 8] (fun s3 s8 wr => ∃ (m : Bool) (pre : List (List Int)) (x : List Int), s3 = .int .i64 (cnt (bestB p) pre) ∧ s8 = .bool m ∧ Hid (m = true → ∃ rest, pts p.uppers = pre ++ x :: rest) ∧ Hid (m = false → pre = pts p.uppers) ∧ Hid (OwnI wr (w2.heap.size + 1) x) ∧ Hid (OwnI wr w2.heap.size (List.replicate N 0)) ∧ Hid (Box wr w.heap.size #[.slice A0 N c0, .slice A1 N c1, .slice A2 p.rows.length c2]) ∧ Hid (Below w.heap.size w wr)) (fun _ s8 wr => if boolOf s8 then restN p.uppers (rdB wr (w2.heap.size + 1) N) else 0)
  case atStart => exact ⟨true, [], List.replicate N 0, rfl, rfl, Lib.hid (fun _ => ⟨T, HT.out⟩), Lib.hid (fun h => by cases h), Lib.hid (by (repeat' (first | (with_reducible exact OwnI.madeAt _ _ _ (by first | omega | (simp; done) | (simp; omega) | (simp only [World.size_alloc, World.size_setCell, World.size_drew] at *; omega))) | (with_reducible refine OwnI.far ?_ (by first | omega | (simp; done) | (simp; omega) | (simp only [World.size_alloc, World.size_setCell, World.size_drew] at *; omega)) _) | (with_reducible refine OwnI.alloc ?_ _) | (with_reducible refine OwnI.drewN ?_ _) | (with_reducible refine OwnI.drew ?_) | (with_reducible assumption) | (refine Hid.out ?_; with_reducible assumption) | (apply OwnI.turn; (with_reducible assumption); exact (by first | omega | (simp; done) | (simp; omega) | (simp only [World.size_alloc, World.size_setCell, World.size_drew] at *; omega))) | (apply OwnI.only; (with_reducible assumption); exact (by first | omega | (simp; done) | (simp; omega) | (simp only [World.size_alloc, World.size_setCell, World.size_drew] at *; omega))) | (apply OwnI.belowD; (with_reducible assumption))))), Lib.hid (by (repeat' (first | (with_reducible exact OwnI.madeAt _ _ _ (by first | omega | (simp; done) | (simp; omega) | (simp only [World.size_alloc, World.size_setCell, World.size_drew] at *; omega))) | (with_reducible refine OwnI.far ?_ (by first | omega | (simp; done) | (simp; omega) | (simp only [World.size_alloc, World.size_setCell, World.size_drew] at *; omega)) _) | (with_reducible refine OwnI.alloc ?_ _) | (with_reducible refine OwnI.drewN ?_ _) | (with_reducible refine OwnI.drew ?_) | (with_reducible assumption) | (refine Hid.out ?_; with_reducible assumption) | (apply OwnI.turn; (with_reducible assumption); exact (by first | omega | (simp; done) | (simp; omega) | (simp only [World.size_alloc, World.size_setCell, World.size_drew] at *; omega))) | (apply OwnI.only; (with_reducible assumption); exact (by first | omega | (simp; done) | (simp; omega) | (simp only [World.size_alloc, World.size_setCell, World.size_drew] at *; omega))) | (apply OwnI.belowD; (with_reducible assumption))))), Lib.hid (by (repeat' (first | (with_reducible exact Box.new _ _ _ (by first | omega | (simp; done) | (simp; omega) | (simp only [World.size_alloc, World.size_setCell, World.size_drew] at *; omega))) | (with_reducible refine Box.far ?_ (by first | omega | (simp; done) | (simp; omega) | (simp only [World.size_alloc, World.size_setCell, World.size_drew] at *; omega)) _) | (apply Box.put3_0) | (apply Box.put3_1) | (apply Box.put3_2) | (apply Box.put2_0) | (apply Box.put2_1) | (with_reducible refine Box.alloc ?_ _) | (with_reducible refine Box.drewN ?_ _) | (with_reducible refine Box.drew ?_) | (with_reducible assumption) | (refine Hid.out ?_; with_reducible assumption) | (apply Box.only; (with_reducible assumption); exact (by first | omega | (simp; done) | (simp; omega) | (simp only [World.size_alloc, World.size_setCell, World.size_drew] at *; omega))) | (apply Box.belowD; (with_reducible assumption))))), Lib.hid (by (repeat' (first | (with_reducible exact Below.refl _ _) | (with_reducible refine belS ?_ (by first | omega | (simp; done) | (simp; omega) | (simp only [World.size_alloc, World.size_setCell, World.size_drew] at *; omega))) | (with_reducible refine belA ?_ (by first | omega | (simp; done) | (simp; omega) | (simp only [World.size_alloc, World.size_setCell, World.size_drew] at *; omega))) | (with_reducible refine bel_drewN ?_ _) | (with_reducible refine Below.drew ?_) | (with_reducible assumption) | (refine Hid.out ?_; with_reducible assumption) | (apply belV; (with_reducible assumption); exact (by first | omega | (simp; done) | (simp; omega) | (simp only [World.size_alloc, World.size_setCell, World.size_drew] at *; omega))))))⟩
  case round =>
    obtain ⟨m, pre, x, rfl, rfl, hmore, hend, hown, hlow, hX, hbel⟩ := hrel
    cases m
    · have E := Lib.hid (hend.out rfl)
      go_wp2_with fail
      go_ret
      exact ⟨ret_i (by rw [E.out, EN.out]), by (repeat' (first | (with_reducible exact Below.refl _ _) | (with_reducible refine belS ?_ (by first | omega | (simp; done) | (simp; omega) | (simp only [World.size_alloc, World.size_setCell, World.size_drew] at *; omega))) | (with_reducible refine belA ?_ (by first | omega | (simp; done) | (simp; omega) | (simp only [World.size_alloc, World.size_setCell, World.size_drew] at *; omega))) | (with_reducible refine bel_drewN ?_ _) | (with_reducible refine Below.drew ?_) | (with_reducible assumption) | (refine Hid.out ?_; with_reducible assumption) | (apply belV; (with_reducible assumption); exact (by first | omega | (simp; done) | (simp; omega) | (simp only [World.size_alloc, World.size_setCell, World.size_drew] at *; omega)))))⟩
    · obtain ⟨rest, hpts⟩ := hmore.out rfl
      clear hmore hend
      have hmem := Lib.hid (ppu_len hpts)
      have HCO := Lib.hid (pt_cost HV.out hmem.out)
      have HS := Lib.hid (cnt_small HV.out (f := bestB p) (pre := pre) ⟨x :: rest, hpts.symm⟩)
      have HPT := Lib.hid hpts; clear hpts
      have HXL : Hid (x.length = N) := Lib.hid (by rw [pts_len (vProb_us HV.out) hmem.out, HN.out])
      have HXB := Lib.hid (pts_bd (vProb_us HV.out) hmem.out)
      have HX : Hid (Ints wr (some ⟨w2.heap.size + 1, 0, none⟩) N x) := Lib.hid (by have := hown.out.ints HXB.out; rwa [HXL.out] at this)
      have HF : Hid (Fits p N) := Lib.hid (by have := pt_fits HV.out hmem.out; rwa [HXL.out] at this)
      have hrun := Lib.hid (pts_split HU.out HPT.out)
      have HM := Lib.hid (restN_at HPT.out)
      have HRD := Lib.hid (rdB_of (n := N) hown.out HXL.out)
      obtain ⟨cost, hco⟩ : ∃ c, dotW p.costs x = c := ⟨_, rfl⟩
      have HC := Lib.hid hco
      rw [hco] at HCO
      clear hco
      have hco := HCO.out
      have hs := HS.out
      have hwk : IntKind.i64.wrap ((cnt (bestB p) pre : Int) + 1) = (cnt (bestB p) pre : Int) + 1 := IntWalk.i64_in _ ⟨by omega, by omega⟩
      obtain ⟨x0, x1, x2⟩ := Box.facts3 hX.out
      have y0 := hX.out.1
      have yb := hown.out.1
      have zw2 := z2
      have hvi := fun (W : World) => spec_violatedN A0 A1 A2 (some ⟨w2.heap.size + 1, 0, none⟩) c0 c1 c2 N N p x W
      simp only [HN.out, HNC.out] at hvi
      have VI := Lib.hid hvi; clear hvi
      go_wp2_with fail
      refine (spec_dotC _ _ _ _ _ _ p.costs x _ (HC1.out.below (by (repeat' (first | (with_reducible exact Below.refl _ _) | (with_reducible refine belS ?_ (by first | omega | (simp; done) | (simp; omega) | (simp only [World.size_alloc, World.size_setCell, World.size_drew] at *; omega))) | (with_reducible refine belA ?_ (by first | omega | (simp; done) | (simp; omega) | (simp only [World.size_alloc, World.size_setCell, World.size_drew] at *; omega))) | (with_reducible refine bel_drewN ?_ _) | (with_reducible refine Below.drew ?_) | (with_reducible assumption) | (refine Hid.out ?_; with_reducible assumption) | (apply belV; (with_reducible assumption); exact (by first | omega | (simp; done) | (simp; omega) | (simp only [World.size_alloc, World.size_setCell, World.size_drew] at *; omega))))))) (HX.out.below (by (repeat' (first | (with_reducible exact Below.refl _ _) | (with_reducible refine belS ?_ (by first | omega | (simp; done) | (simp; omega) | (simp only [World.size_alloc, World.size_setCell, World.size_drew] at *; omega))) | (with_reducible refine belA ?_ (by first | omega | (simp; done) | (simp; omega) | (simp only [World.size_alloc, World.size_setCell, World.size_drew] at *; omega))) | (with_reducible refine bel_drewN ?_ _) | (with_reducible refine Below.drew ?_) | (with_reducible assumption) | (refine Hid.out ?_; with_reducible assumption) | (apply belV; (with_reducible assumption); exact (by first | omega | (simp; done) | (simp; omega) | (simp only [World.size_alloc, World.size_setCell, World.size_drew] at *; omega))))))) hN5 (Nat.le_refl _) hN5).mono ?_
      rintro e w4 ⟨rfl, hb⟩
      have G4 : Hid (Below w.heap.size w w4) := belU hb (by (repeat' (first | (with_reducible exact Below.refl _ _) | (with_reducible refine belS ?_ (by first | omega | (simp; done) | (simp; omega) | (simp only [World.size_alloc, World.size_setCell, World.size_drew] at *; omega))) | (with_reducible refine belA ?_ (by first | omega | (simp; done) | (simp; omega) | (simp only [World.size_alloc, World.size_setCell, World.size_drew] at *; omega))) | (with_reducible refine bel_drewN ?_ _) | (with_reducible refine Below.drew ?_) | (with_reducible assumption) | (refine Hid.out ?_; with_reducible assumption) | (apply belV; (with_reducible assumption); exact (by first | omega | (simp; done) | (simp; omega) | (simp only [World.size_alloc, World.size_setCell, World.size_drew] at *; omega)))))) (by first | omega | (simp; done) | (simp; omega) | (simp only [World.size_alloc, World.size_setCell, World.size_drew] at *; omega))
      have X_4 : Hid (Box w4 (w.heap.size) #[.slice A0 N c0, .slice A1 N c1, .slice A2 p.rows.length c2]) := Lib.hid (Box.below (by (repeat' (first | (with_reducible exact Box.new _ _ _ (by first | omega | (simp; done) | (simp; omega) | (simp only [World.size_alloc, World.size_setCell, World.size_drew] at *; omega))) | (with_reducible refine Box.far ?_ (by first | omega | (simp; done) | (simp; omega) | (simp only [World.size_alloc, World.size_setCell, World.size_drew] at *; omega)) _) | (apply Box.put3_0) | (apply Box.put3_1) | (apply Box.put3_2) | (apply Box.put2_0) | (apply Box.put2_1) | (with_reducible refine Box.alloc ?_ _) | (with_reducible refine Box.drewN ?_ _) | (with_reducible refine Box.drew ?_) | (with_reducible assumption) | (refine Hid.out ?_; with_reducible assumption) | (apply Box.only; (with_reducible assumption); exact (by first | omega | (simp; done) | (simp; omega) | (simp only [World.size_alloc, World.size_setCell, World.size_drew] at *; omega))) | (apply Box.belowD; (with_reducible assumption))))) hb)
      have yX_4 : w.heap.size < w4.heap.size := X_4.out.1
      obtain ⟨X_4c0, X_4c1, X_4c2⟩ := Box.facts3 X_4.out
      have z4 := hb.size
      (try simp at z4)
      have D4 := Lib.hid hb; clear hb
      rw [HC.out]
      by_cases h1 : cost = least
      · have h1b : (cost == least) = true := by simp [h1]
        go_wp2_with fail
        refine (VI.out _ (HP.out.below (by (repeat' (first | (with_reducible exact Below.refl _ _) | (with_reducible refine belS ?_ (by first | omega | (simp; done) | (simp; omega) | (simp only [World.size_alloc, World.size_setCell, World.size_drew] at *; omega))) | (with_reducible refine belA ?_ (by first | omega | (simp; done) | (simp; omega) | (simp only [World.size_alloc, World.size_setCell, World.size_drew] at *; omega))) | (with_reducible refine bel_drewN ?_ _) | (with_reducible refine Below.drew ?_) | (with_reducible assumption) | (refine Hid.out ?_; with_reducible assumption) | (apply belV; (with_reducible assumption); exact (by first | omega | (simp; done) | (simp; omega) | (simp only [World.size_alloc, World.size_setCell, World.size_drew] at *; omega))))))) (HX.out.below (by (repeat' (first | (with_reducible exact Below.refl _ _) | (with_reducible refine belS ?_ (by first | omega | (simp; done) | (simp; omega) | (simp only [World.size_alloc, World.size_setCell, World.size_drew] at *; omega))) | (with_reducible refine belA ?_ (by first | omega | (simp; done) | (simp; omega) | (simp only [World.size_alloc, World.size_setCell, World.size_drew] at *; omega))) | (with_reducible refine bel_drewN ?_ _) | (with_reducible refine Below.drew ?_) | (with_reducible assumption) | (refine Hid.out ?_; with_reducible assumption) | (apply belV; (with_reducible assumption); exact (by first | omega | (simp; done) | (simp; omega) | (simp only [World.size_alloc, World.size_setCell, World.size_drew] at *; omega))))))) hN5 HF.out (vProb_r6 HV.out)).mono ?_
        rintro e w1 ⟨Av, k, cv, rfl, hk6, hko, hb⟩
        have G1 : Hid (Below w.heap.size w w1) := belU hb (by (repeat' (first | (with_reducible exact Below.refl _ _) | (with_reducible refine belS ?_ (by first | omega | (simp; done) | (simp; omega) | (simp only [World.size_alloc, World.size_setCell, World.size_drew] at *; omega))) | (with_reducible refine belA ?_ (by first | omega | (simp; done) | (simp; omega) | (simp only [World.size_alloc, World.size_setCell, World.size_drew] at *; omega))) | (with_reducible refine bel_drewN ?_ _) | (with_reducible refine Below.drew ?_) | (with_reducible assumption) | (refine Hid.out ?_; with_reducible assumption) | (apply belV; (with_reducible assumption); exact (by first | omega | (simp; done) | (simp; omega) | (simp only [World.size_alloc, World.size_setCell, World.size_drew] at *; omega)))))) (by first | omega | (simp; done) | (simp; omega) | (simp only [World.size_alloc, World.size_setCell, World.size_drew] at *; omega))
        have X_1 : Hid (Box w1 (w.heap.size) #[.slice A0 N c0, .slice A1 N c1, .slice A2 p.rows.length c2]) := Lib.hid (Box.below (by (repeat' (first | (with_reducible exact Box.new _ _ _ (by first | omega | (simp; done) | (simp; omega) | (simp only [World.size_alloc, World.size_setCell, World.size_drew] at *; omega))) | (with_reducible refine Box.far ?_ (by first | omega | (simp; done) | (simp; omega) | (simp only [World.size_alloc, World.size_setCell, World.size_drew] at *; omega)) _) | (apply Box.put3_0) | (apply Box.put3_1) | (apply Box.put3_2) | (apply Box.put2_0) | (apply Box.put2_1) | (with_reducible refine Box.alloc ?_ _) | (with_reducible refine Box.drewN ?_ _) | (with_reducible refine Box.drew ?_) | (with_reducible assumption) | (refine Hid.out ?_; with_reducible assumption) | (apply Box.only; (with_reducible assumption); exact (by first | omega | (simp; done) | (simp; omega) | (simp only [World.size_alloc, World.size_setCell, World.size_drew] at *; omega))) | (apply Box.belowD; (with_reducible assumption))))) hb)
        have yX_1 : w.heap.size < w1.heap.size := X_1.out.1
        obtain ⟨X_1c0, X_1c1, X_1c2⟩ := Box.facts3 X_1.out
        have z1 := hb.size
        (try simp at z1)
        have D1 := Lib.hid hb; clear hb
        have HKO := Lib.hid hko; clear hko
        cases hok : allB p.rows x
        · have CN := Lib.hid (cnt_no (L := pre) (bestB_no (p := p) hok))
          rw [hok] at HKO
          have hk0 := HKO.out
          go_wp2_with fail
          refine (spec_nextPoint _ _ _ _ _ (w2.heap.size + 1) w2.heap.size p.uppers x w _ HU1.out (by (repeat' (first | (with_reducible exact Below.refl _ _) | (with_reducible refine belS ?_ (by first | omega | (simp; done) | (simp; omega) | (simp only [World.size_alloc, World.size_setCell, World.size_drew] at *; omega))) | (with_reducible refine belA ?_ (by first | omega | (simp; done) | (simp; omega) | (simp only [World.size_alloc, World.size_setCell, World.size_drew] at *; omega))) | (with_reducible refine bel_drewN ?_ _) | (with_reducible refine Below.drew ?_) | (with_reducible assumption) | (refine Hid.out ?_; with_reducible assumption) | (apply belV; (with_reducible assumption); exact (by first | omega | (simp; done) | (simp; omega) | (simp only [World.size_alloc, World.size_setCell, World.size_drew] at *; omega)))))) (by omega) (by (repeat' (first | (with_reducible exact OwnI.madeAt _ _ _ (by first | omega | (simp; done) | (simp; omega) | (simp only [World.size_alloc, World.size_setCell, World.size_drew] at *; omega))) | (with_reducible refine OwnI.far ?_ (by first | omega | (simp; done) | (simp; omega) | (simp only [World.size_alloc, World.size_setCell, World.size_drew] at *; omega)) _) | (with_reducible refine OwnI.alloc ?_ _) | (with_reducible refine OwnI.drewN ?_ _) | (with_reducible refine OwnI.drew ?_) | (with_reducible assumption) | (refine Hid.out ?_; with_reducible assumption) | (apply OwnI.turn; (with_reducible assumption); exact (by first | omega | (simp; done) | (simp; omega) | (simp only [World.size_alloc, World.size_setCell, World.size_drew] at *; omega))) | (apply OwnI.only; (with_reducible assumption); exact (by first | omega | (simp; done) | (simp; omega) | (simp only [World.size_alloc, World.size_setCell, World.size_drew] at *; omega))) | (apply OwnI.belowD; (with_reducible assumption))))) (by (repeat' (first | (with_reducible exact OwnI.madeAt _ _ _ (by first | omega | (simp; done) | (simp; omega) | (simp only [World.size_alloc, World.size_setCell, World.size_drew] at *; omega))) | (with_reducible refine OwnI.far ?_ (by first | omega | (simp; done) | (simp; omega) | (simp only [World.size_alloc, World.size_setCell, World.size_drew] at *; omega)) _) | (with_reducible refine OwnI.alloc ?_ _) | (with_reducible refine OwnI.drewN ?_ _) | (with_reducible refine OwnI.drew ?_) | (with_reducible assumption) | (refine Hid.out ?_; with_reducible assumption) | (apply OwnI.turn; (with_reducible assumption); exact (by first | omega | (simp; done) | (simp; omega) | (simp only [World.size_alloc, World.size_setCell, World.size_drew] at *; omega))) | (apply OwnI.only; (with_reducible assumption); exact (by first | omega | (simp; done) | (simp; omega) | (simp only [World.size_alloc, World.size_setCell, World.size_drew] at *; omega))) | (apply OwnI.belowD; (with_reducible assumption))))) (by omega) HXB.out HXL.out (by omega)).mono ?_
          rintro e w9 ⟨rfl, ho, ht⟩
          have z9 := ht.size
          (try simp at z9)
          have T9 := Lib.hid ht; clear ht
          have G9 : Hid (Below w.heap.size w w9) := Lib.hid (Below.turn (by (repeat' (first | (with_reducible exact Below.refl _ _) | (with_reducible refine belS ?_ (by first | omega | (simp; done) | (simp; omega) | (simp only [World.size_alloc, World.size_setCell, World.size_drew] at *; omega))) | (with_reducible refine belA ?_ (by first | omega | (simp; done) | (simp; omega) | (simp only [World.size_alloc, World.size_setCell, World.size_drew] at *; omega))) | (with_reducible refine bel_drewN ?_ _) | (with_reducible refine Below.drew ?_) | (with_reducible assumption) | (refine Hid.out ?_; with_reducible assumption) | (apply belV; (with_reducible assumption); exact (by first | omega | (simp; done) | (simp; omega) | (simp only [World.size_alloc, World.size_setCell, World.size_drew] at *; omega)))))) T9.out (by first | omega | (simp; done) | (simp; omega) | (simp only [World.size_alloc, World.size_setCell, World.size_drew] at *; omega)) (by first | omega | (simp; done) | (simp; omega) | (simp only [World.size_alloc, World.size_setCell, World.size_drew] at *; omega)))
          have O2 := Lib.hid ho; clear ho
          have X_9 : Hid (Box w9 (w.heap.size) #[.slice A0 N c0, .slice A1 N c1, .slice A2 p.rows.length c2]) := Lib.hid (Box.turn T9 (by first | omega | (simp; done) | (simp; omega) | (simp only [World.size_alloc, World.size_setCell, World.size_drew] at *; omega)) (by (repeat' (first | (with_reducible exact Box.new _ _ _ (by first | omega | (simp; done) | (simp; omega) | (simp only [World.size_alloc, World.size_setCell, World.size_drew] at *; omega))) | (with_reducible refine Box.far ?_ (by first | omega | (simp; done) | (simp; omega) | (simp only [World.size_alloc, World.size_setCell, World.size_drew] at *; omega)) _) | (apply Box.put3_0) | (apply Box.put3_1) | (apply Box.put3_2) | (apply Box.put2_0) | (apply Box.put2_1) | (with_reducible refine Box.alloc ?_ _) | (with_reducible refine Box.drewN ?_ _) | (with_reducible refine Box.drew ?_) | (with_reducible assumption) | (refine Hid.out ?_; with_reducible assumption) | (apply Box.only; (with_reducible assumption); exact (by first | omega | (simp; done) | (simp; omega) | (simp only [World.size_alloc, World.size_setCell, World.size_drew] at *; omega))) | (apply Box.belowD; (with_reducible assumption))))))
          have yX_9 : w.heap.size < w9.heap.size := X_9.out.1
          obtain ⟨X_9c0, X_9c1, X_9c2⟩ := Box.facts3 X_9.out
          have L2 : Hid (OwnI w9 w2.heap.size (List.replicate N 0)) := Lib.hid (OwnI.turn T9 (by omega) (by (repeat' (first | (with_reducible exact OwnI.madeAt _ _ _ (by first | omega | (simp; done) | (simp; omega) | (simp only [World.size_alloc, World.size_setCell, World.size_drew] at *; omega))) | (with_reducible refine OwnI.far ?_ (by first | omega | (simp; done) | (simp; omega) | (simp only [World.size_alloc, World.size_setCell, World.size_drew] at *; omega)) _) | (with_reducible refine OwnI.alloc ?_ _) | (with_reducible refine OwnI.drewN ?_ _) | (with_reducible refine OwnI.drew ?_) | (with_reducible assumption) | (refine Hid.out ?_; with_reducible assumption) | (apply OwnI.turn; (with_reducible assumption); exact (by first | omega | (simp; done) | (simp; omega) | (simp only [World.size_alloc, World.size_setCell, World.size_drew] at *; omega))) | (apply OwnI.only; (with_reducible assumption); exact (by first | omega | (simp; done) | (simp; omega) | (simp only [World.size_alloc, World.size_setCell, World.size_drew] at *; omega))) | (apply OwnI.belowD; (with_reducible assumption))))))
          cases rest with
          | nil =>
            have E := Lib.hid (runs_no hrun.out)
            rw [E.out]
            go_wp2_with fail
            go_roundw
            case rel => exact ⟨false, pre ++ [x], _, by rw [CN.out], rfl, Lib.hid (fun h => by cases h), Lib.hid (fun _ => HPT.out.symm), O2, L2, X_9, G9⟩
            case measure => rw [if_neg (by simp [boolOf]), if_pos (by simp [boolOf]), HRD.out, HM.out]; omega
          | cons y T' =>
            have E := Lib.hid (runs_yes hrun.out)
            have hxy : Hid (pts p.uppers = (pre ++ [x]) ++ y :: T') := Lib.hid (by rw [HPT.out]; simp)
            have HM2 := Lib.hid (restN_at hxy.out)
            have O3 := O2.out
            rw [E.out] at O3
            have O4 := Lib.hid O3; clear O3 O2
            have hyl := pts_len (vProb_us HV.out) (ppu_len hxy.out)
            rw [HN.out] at hyl
            have HYL := Lib.hid hyl; clear hyl
            rw [E.out]
            go_wp2_with fail
            go_roundw
            case rel => exact ⟨true, pre ++ [x], y, by rw [CN.out], rfl, Lib.hid (fun _ => ⟨T', hxy.out⟩), Lib.hid (fun h => by cases h), O4, L2, X_9, G9⟩
            case measure => rw [if_pos (by simp [boolOf]), if_pos (by simp [boolOf]), rdB_of (n := N) O4.out HYL.out, HRD.out, HM.out, HM2.out]; simp
        · have CN := Lib.hid (cnt_yes (L := pre) (bestB_yes (p := p) (by rw [HC.out, HLE.out]; exact h1) hok))
          rw [hok] at HKO
          have hk0 := HKO.out
          go_wp2_with fail
          refine (spec_nextPoint _ _ _ _ _ (w2.heap.size + 1) w2.heap.size p.uppers x w _ HU1.out (by (repeat' (first | (with_reducible exact Below.refl _ _) | (with_reducible refine belS ?_ (by first | omega | (simp; done) | (simp; omega) | (simp only [World.size_alloc, World.size_setCell, World.size_drew] at *; omega))) | (with_reducible refine belA ?_ (by first | omega | (simp; done) | (simp; omega) | (simp only [World.size_alloc, World.size_setCell, World.size_drew] at *; omega))) | (with_reducible refine bel_drewN ?_ _) | (with_reducible refine Below.drew ?_) | (with_reducible assumption) | (refine Hid.out ?_; with_reducible assumption) | (apply belV; (with_reducible assumption); exact (by first | omega | (simp; done) | (simp; omega) | (simp only [World.size_alloc, World.size_setCell, World.size_drew] at *; omega)))))) (by omega) (by (repeat' (first | (with_reducible exact OwnI.madeAt _ _ _ (by first | omega | (simp; done) | (simp; omega) | (simp only [World.size_alloc, World.size_setCell, World.size_drew] at *; omega))) | (with_reducible refine OwnI.far ?_ (by first | omega | (simp; done) | (simp; omega) | (simp only [World.size_alloc, World.size_setCell, World.size_drew] at *; omega)) _) | (with_reducible refine OwnI.alloc ?_ _) | (with_reducible refine OwnI.drewN ?_ _) | (with_reducible refine OwnI.drew ?_) | (with_reducible assumption) | (refine Hid.out ?_; with_reducible assumption) | (apply OwnI.turn; (with_reducible assumption); exact (by first | omega | (simp; done) | (simp; omega) | (simp only [World.size_alloc, World.size_setCell, World.size_drew] at *; omega))) | (apply OwnI.only; (with_reducible assumption); exact (by first | omega | (simp; done) | (simp; omega) | (simp only [World.size_alloc, World.size_setCell, World.size_drew] at *; omega))) | (apply OwnI.belowD; (with_reducible assumption))))) (by (repeat' (first | (with_reducible exact OwnI.madeAt _ _ _ (by first | omega | (simp; done) | (simp; omega) | (simp only [World.size_alloc, World.size_setCell, World.size_drew] at *; omega))) | (with_reducible refine OwnI.far ?_ (by first | omega | (simp; done) | (simp; omega) | (simp only [World.size_alloc, World.size_setCell, World.size_drew] at *; omega)) _) | (with_reducible refine OwnI.alloc ?_ _) | (with_reducible refine OwnI.drewN ?_ _) | (with_reducible refine OwnI.drew ?_) | (with_reducible assumption) | (refine Hid.out ?_; with_reducible assumption) | (apply OwnI.turn; (with_reducible assumption); exact (by first | omega | (simp; done) | (simp; omega) | (simp only [World.size_alloc, World.size_setCell, World.size_drew] at *; omega))) | (apply OwnI.only; (with_reducible assumption); exact (by first | omega | (simp; done) | (simp; omega) | (simp only [World.size_alloc, World.size_setCell, World.size_drew] at *; omega))) | (apply OwnI.belowD; (with_reducible assumption))))) (by omega) HXB.out HXL.out (by omega)).mono ?_
          rintro e w9 ⟨rfl, ho, ht⟩
          have z9 := ht.size
          (try simp at z9)
          have T9 := Lib.hid ht; clear ht
          have G9 : Hid (Below w.heap.size w w9) := Lib.hid (Below.turn (by (repeat' (first | (with_reducible exact Below.refl _ _) | (with_reducible refine belS ?_ (by first | omega | (simp; done) | (simp; omega) | (simp only [World.size_alloc, World.size_setCell, World.size_drew] at *; omega))) | (with_reducible refine belA ?_ (by first | omega | (simp; done) | (simp; omega) | (simp only [World.size_alloc, World.size_setCell, World.size_drew] at *; omega))) | (with_reducible refine bel_drewN ?_ _) | (with_reducible refine Below.drew ?_) | (with_reducible assumption) | (refine Hid.out ?_; with_reducible assumption) | (apply belV; (with_reducible assumption); exact (by first | omega | (simp; done) | (simp; omega) | (simp only [World.size_alloc, World.size_setCell, World.size_drew] at *; omega)))))) T9.out (by first | omega | (simp; done) | (simp; omega) | (simp only [World.size_alloc, World.size_setCell, World.size_drew] at *; omega)) (by first | omega | (simp; done) | (simp; omega) | (simp only [World.size_alloc, World.size_setCell, World.size_drew] at *; omega)))
          have O2 := Lib.hid ho; clear ho
          have X_9 : Hid (Box w9 (w.heap.size) #[.slice A0 N c0, .slice A1 N c1, .slice A2 p.rows.length c2]) := Lib.hid (Box.turn T9 (by first | omega | (simp; done) | (simp; omega) | (simp only [World.size_alloc, World.size_setCell, World.size_drew] at *; omega)) (by (repeat' (first | (with_reducible exact Box.new _ _ _ (by first | omega | (simp; done) | (simp; omega) | (simp only [World.size_alloc, World.size_setCell, World.size_drew] at *; omega))) | (with_reducible refine Box.far ?_ (by first | omega | (simp; done) | (simp; omega) | (simp only [World.size_alloc, World.size_setCell, World.size_drew] at *; omega)) _) | (apply Box.put3_0) | (apply Box.put3_1) | (apply Box.put3_2) | (apply Box.put2_0) | (apply Box.put2_1) | (with_reducible refine Box.alloc ?_ _) | (with_reducible refine Box.drewN ?_ _) | (with_reducible refine Box.drew ?_) | (with_reducible assumption) | (refine Hid.out ?_; with_reducible assumption) | (apply Box.only; (with_reducible assumption); exact (by first | omega | (simp; done) | (simp; omega) | (simp only [World.size_alloc, World.size_setCell, World.size_drew] at *; omega))) | (apply Box.belowD; (with_reducible assumption))))))
          have yX_9 : w.heap.size < w9.heap.size := X_9.out.1
          obtain ⟨X_9c0, X_9c1, X_9c2⟩ := Box.facts3 X_9.out
          have L2 : Hid (OwnI w9 w2.heap.size (List.replicate N 0)) := Lib.hid (OwnI.turn T9 (by omega) (by (repeat' (first | (with_reducible exact OwnI.madeAt _ _ _ (by first | omega | (simp; done) | (simp; omega) | (simp only [World.size_alloc, World.size_setCell, World.size_drew] at *; omega))) | (with_reducible refine OwnI.far ?_ (by first | omega | (simp; done) | (simp; omega) | (simp only [World.size_alloc, World.size_setCell, World.size_drew] at *; omega)) _) | (with_reducible refine OwnI.alloc ?_ _) | (with_reducible refine OwnI.drewN ?_ _) | (with_reducible refine OwnI.drew ?_) | (with_reducible assumption) | (refine Hid.out ?_; with_reducible assumption) | (apply OwnI.turn; (with_reducible assumption); exact (by first | omega | (simp; done) | (simp; omega) | (simp only [World.size_alloc, World.size_setCell, World.size_drew] at *; omega))) | (apply OwnI.only; (with_reducible assumption); exact (by first | omega | (simp; done) | (simp; omega) | (simp only [World.size_alloc, World.size_setCell, World.size_drew] at *; omega))) | (apply OwnI.belowD; (with_reducible assumption))))))
          cases rest with
          | nil =>
            have E := Lib.hid (runs_no hrun.out)
            rw [E.out]
            go_wp2_with fail
            go_roundw
            case rel => exact ⟨false, pre ++ [x], _, by rw [CN.out]; rfl, rfl, Lib.hid (fun h => by cases h), Lib.hid (fun _ => HPT.out.symm), O2, L2, X_9, G9⟩
            case measure => rw [if_neg (by simp [boolOf]), if_pos (by simp [boolOf]), HRD.out, HM.out]; omega
          | cons y T' =>
            have E := Lib.hid (runs_yes hrun.out)
            have hxy : Hid (pts p.uppers = (pre ++ [x]) ++ y :: T') := Lib.hid (by rw [HPT.out]; simp)
            have HM2 := Lib.hid (restN_at hxy.out)
            have O3 := O2.out
            rw [E.out] at O3
            have O4 := Lib.hid O3; clear O3 O2
            have hyl := pts_len (vProb_us HV.out) (ppu_len hxy.out)
            rw [HN.out] at hyl
            have HYL := Lib.hid hyl; clear hyl
            rw [E.out]
            go_wp2_with fail
            go_roundw
            case rel => exact ⟨true, pre ++ [x], y, by rw [CN.out]; rfl, rfl, Lib.hid (fun _ => ⟨T', hxy.out⟩), Lib.hid (fun h => by cases h), O4, L2, X_9, G9⟩
            case measure => rw [if_pos (by simp [boolOf]), if_pos (by simp [boolOf]), rdB_of (n := N) O4.out HYL.out, HRD.out, HM.out, HM2.out]; simp
      · have h1b : (cost == least) = false := by simp [h1]
        have CN := Lib.hid (cnt_no (L := pre) (bestB_ne (p := p) (x := x) (by rw [HC.out, HLE.out]; exact h1)))
        go_wp2_with fail
        refine (spec_nextPoint _ _ _ _ _ (w2.heap.size + 1) w2.heap.size p.uppers x w _ HU1.out (by (repeat' (first | (with_reducible exact Below.refl _ _) | (with_reducible refine belS ?_ (by first | omega | (simp; done) | (simp; omega) | (simp only [World.size_alloc, World.size_setCell, World.size_drew] at *; omega))) | (with_reducible refine belA ?_ (by first | omega | (simp; done) | (simp; omega) | (simp only [World.size_alloc, World.size_setCell, World.size_drew] at *; omega))) | (with_reducible refine bel_drewN ?_ _) | (with_reducible refine Below.drew ?_) | (with_reducible assumption) | (refine Hid.out ?_; with_reducible assumption) | (apply belV; (with_reducible assumption); exact (by first | omega | (simp; done) | (simp; omega) | (simp only [World.size_alloc, World.size_setCell, World.size_drew] at *; omega)))))) (by omega) (by (repeat' (first | (with_reducible exact OwnI.madeAt _ _ _ (by first | omega | (simp; done) | (simp; omega) | (simp only [World.size_alloc, World.size_setCell, World.size_drew] at *; omega))) | (with_reducible refine OwnI.far ?_ (by first | omega | (simp; done) | (simp; omega) | (simp only [World.size_alloc, World.size_setCell, World.size_drew] at *; omega)) _) | (with_reducible refine OwnI.alloc ?_ _) | (with_reducible refine OwnI.drewN ?_ _) | (with_reducible refine OwnI.drew ?_) | (with_reducible assumption) | (refine Hid.out ?_; with_reducible assumption) | (apply OwnI.turn; (with_reducible assumption); exact (by first | omega | (simp; done) | (simp; omega) | (simp only [World.size_alloc, World.size_setCell, World.size_drew] at *; omega))) | (apply OwnI.only; (with_reducible assumption); exact (by first | omega | (simp; done) | (simp; omega) | (simp only [World.size_alloc, World.size_setCell, World.size_drew] at *; omega))) | (apply OwnI.belowD; (with_reducible assumption))))) (by (repeat' (first | (with_reducible exact OwnI.madeAt _ _ _ (by first | omega | (simp; done) | (simp; omega) | (simp only [World.size_alloc, World.size_setCell, World.size_drew] at *; omega))) | (with_reducible refine OwnI.far ?_ (by first | omega | (simp; done) | (simp; omega) | (simp only [World.size_alloc, World.size_setCell, World.size_drew] at *; omega)) _) | (with_reducible refine OwnI.alloc ?_ _) | (with_reducible refine OwnI.drewN ?_ _) | (with_reducible refine OwnI.drew ?_) | (with_reducible assumption) | (refine Hid.out ?_; with_reducible assumption) | (apply OwnI.turn; (with_reducible assumption); exact (by first | omega | (simp; done) | (simp; omega) | (simp only [World.size_alloc, World.size_setCell, World.size_drew] at *; omega))) | (apply OwnI.only; (with_reducible assumption); exact (by first | omega | (simp; done) | (simp; omega) | (simp only [World.size_alloc, World.size_setCell, World.size_drew] at *; omega))) | (apply OwnI.belowD; (with_reducible assumption))))) (by omega) HXB.out HXL.out (by omega)).mono ?_
        rintro e w9 ⟨rfl, ho, ht⟩
        have z9 := ht.size
        (try simp at z9)
        have T9 := Lib.hid ht; clear ht
        have G9 : Hid (Below w.heap.size w w9) := Lib.hid (Below.turn (by (repeat' (first | (with_reducible exact Below.refl _ _) | (with_reducible refine belS ?_ (by first | omega | (simp; done) | (simp; omega) | (simp only [World.size_alloc, World.size_setCell, World.size_drew] at *; omega))) | (with_reducible refine belA ?_ (by first | omega | (simp; done) | (simp; omega) | (simp only [World.size_alloc, World.size_setCell, World.size_drew] at *; omega))) | (with_reducible refine bel_drewN ?_ _) | (with_reducible refine Below.drew ?_) | (with_reducible assumption) | (refine Hid.out ?_; with_reducible assumption) | (apply belV; (with_reducible assumption); exact (by first | omega | (simp; done) | (simp; omega) | (simp only [World.size_alloc, World.size_setCell, World.size_drew] at *; omega)))))) T9.out (by first | omega | (simp; done) | (simp; omega) | (simp only [World.size_alloc, World.size_setCell, World.size_drew] at *; omega)) (by first | omega | (simp; done) | (simp; omega) | (simp only [World.size_alloc, World.size_setCell, World.size_drew] at *; omega)))
        have O2 := Lib.hid ho; clear ho
        have X_9 : Hid (Box w9 (w.heap.size) #[.slice A0 N c0, .slice A1 N c1, .slice A2 p.rows.length c2]) := Lib.hid (Box.turn T9 (by first | omega | (simp; done) | (simp; omega) | (simp only [World.size_alloc, World.size_setCell, World.size_drew] at *; omega)) (by (repeat' (first | (with_reducible exact Box.new _ _ _ (by first | omega | (simp; done) | (simp; omega) | (simp only [World.size_alloc, World.size_setCell, World.size_drew] at *; omega))) | (with_reducible refine Box.far ?_ (by first | omega | (simp; done) | (simp; omega) | (simp only [World.size_alloc, World.size_setCell, World.size_drew] at *; omega)) _) | (apply Box.put3_0) | (apply Box.put3_1) | (apply Box.put3_2) | (apply Box.put2_0) | (apply Box.put2_1) | (with_reducible refine Box.alloc ?_ _) | (with_reducible refine Box.drewN ?_ _) | (with_reducible refine Box.drew ?_) | (with_reducible assumption) | (refine Hid.out ?_; with_reducible assumption) | (apply Box.only; (with_reducible assumption); exact (by first | omega | (simp; done) | (simp; omega) | (simp only [World.size_alloc, World.size_setCell, World.size_drew] at *; omega))) | (apply Box.belowD; (with_reducible assumption))))))
        have yX_9 : w.heap.size < w9.heap.size := X_9.out.1
        obtain ⟨X_9c0, X_9c1, X_9c2⟩ := Box.facts3 X_9.out
        have L2 : Hid (OwnI w9 w2.heap.size (List.replicate N 0)) := Lib.hid (OwnI.turn T9 (by omega) (by (repeat' (first | (with_reducible exact OwnI.madeAt _ _ _ (by first | omega | (simp; done) | (simp; omega) | (simp only [World.size_alloc, World.size_setCell, World.size_drew] at *; omega))) | (with_reducible refine OwnI.far ?_ (by first | omega | (simp; done) | (simp; omega) | (simp only [World.size_alloc, World.size_setCell, World.size_drew] at *; omega)) _) | (with_reducible refine OwnI.alloc ?_ _) | (with_reducible refine OwnI.drewN ?_ _) | (with_reducible refine OwnI.drew ?_) | (with_reducible assumption) | (refine Hid.out ?_; with_reducible assumption) | (apply OwnI.turn; (with_reducible assumption); exact (by first | omega | (simp; done) | (simp; omega) | (simp only [World.size_alloc, World.size_setCell, World.size_drew] at *; omega))) | (apply OwnI.only; (with_reducible assumption); exact (by first | omega | (simp; done) | (simp; omega) | (simp only [World.size_alloc, World.size_setCell, World.size_drew] at *; omega))) | (apply OwnI.belowD; (with_reducible assumption))))))
        cases rest with
        | nil =>
          have E := Lib.hid (runs_no hrun.out)
          rw [E.out]
          go_wp2_with fail
          go_roundw
          case rel => exact ⟨false, pre ++ [x], _, by rw [CN.out], rfl, Lib.hid (fun h => by cases h), Lib.hid (fun _ => HPT.out.symm), O2, L2, X_9, G9⟩
          case measure => rw [if_neg (by simp [boolOf]), if_pos (by simp [boolOf]), HRD.out, HM.out]; omega
        | cons y T' =>
          have E := Lib.hid (runs_yes hrun.out)
          have hxy : Hid (pts p.uppers = (pre ++ [x]) ++ y :: T') := Lib.hid (by rw [HPT.out]; simp)
          have HM2 := Lib.hid (restN_at hxy.out)
          have O3 := O2.out
          rw [E.out] at O3
          have O4 := Lib.hid O3; clear O3 O2
          have hyl := pts_len (vProb_us HV.out) (ppu_len hxy.out)
          rw [HN.out] at hyl
          have HYL := Lib.hid hyl; clear hyl
          rw [E.out]
          go_wp2_with fail
          go_roundw
          case rel => exact ⟨true, pre ++ [x], y, by rw [CN.out], rfl, Lib.hid (fun _ => ⟨T', hxy.out⟩), Lib.hid (fun h => by cases h), O4, L2, X_9, G9⟩
          case measure => rw [if_pos (by simp [boolOf]), if_pos (by simp [boolOf]), rdB_of (n := N) O4.out HYL.out, HRD.out, HM.out, HM2.out]; simp
end Go.Proofs.Ytangfmmjpomlgaa
