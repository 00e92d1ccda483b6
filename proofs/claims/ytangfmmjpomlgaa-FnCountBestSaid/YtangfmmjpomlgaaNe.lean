
/-
  How many points are feasible: the program's CountFeasible and the model's.
-/
import Derived.Test.YtangfmmjpomlgaaNd
set_option linter.unusedSimpArgs false
set_option linter.unusedVariables false
namespace Go.Proofs.Ytangfmmjpomlgaa
open Go.RowKit
attribute [local go_sem] Oper.semAt_some

theorem pt_fits {p : PProb} {x : List Int} (h : vProb p = true) (hx : x ∈ pts p.uppers) : Fits p x.length := (vProb_fits h (pts_isPt (vProb_us h) hx)).2.2
theorem cnt_small {p : PProb} (h : vProb p = true) {f : List Int → Bool} {pre : List (List Int)} (hp : pre <+: pts p.uppers) : cnt f pre ≤ 100000 := Nat.le_trans cnt_le (Nat.le_trans hp.length_le (pts_small (vProb_us h) (vProb_N5 h).1))
theorem allRows_allB (p : PProb) (x : List Int) : allRows p x = allB p.rows x := rfl

set_option maxHeartbeats 4000000 in
set_option maxRecDepth 100000 in
theorem impl_CountFeasible (A0 A1 A2 : Option Addr) (c0 c1 c2 : Nat) (p : PProb) (w : World) (hp : ProbV w A0 A1 A2 c0 c1 c2 p) :
    Calls Try.prog 17 #[.agg #[.slice A0 p.costs.length c0, .slice A1 p.uppers.length c1, .slice A2 p.rows.length c2]] w fun e w' => e = .returned (.int .i64 (cntF p)) ∧ Below w.heap.size w w' := by
  have HP := Lib.hid hp; clear hp
  cases hv : vProb p
  · have E := Lib.hid (cntF_1 hv)
    go_enter Try.func17, Try.ntmps17
    go_wp2_with fail
    refine (impl_ValidProblem _ _ _ _ _ _ p _ (HP.out.below (by (repeat' (first | (with_reducible exact Below.refl _ _) | (with_reducible refine belS ?_ (by first | omega | (simp; done) | (simp; omega) | (simp only [World.size_alloc, World.size_setCell, World.size_drew] at *; omega))) | (with_reducible refine belA ?_ (by first | omega | (simp; done) | (simp; omega) | (simp only [World.size_alloc, World.size_setCell, World.size_drew] at *; omega))) | (with_reducible refine bel_drewN ?_ _) | (with_reducible refine Below.drew ?_) | (with_reducible assumption) | (refine Hid.out ?_; with_reducible assumption) | (apply belV; (with_reducible assumption); exact (by first | omega | (simp; done) | (simp; omega) | (simp only [World.size_alloc, World.size_setCell, World.size_drew] at *; omega)))))))).mono ?_
    rintro e w1 ⟨rfl, hb⟩
    have G1 : Hid (Below w.heap.size w w1) := belU hb (by (repeat' (first | (with_reducible exact Below.refl _ _) | (with_reducible refine belS ?_ (by first | omega | (simp; done) | (simp; omega) | (simp only [World.size_alloc, World.size_setCell, World.size_drew] at *; omega))) | (with_reducible refine belA ?_ (by first | omega | (simp; done) | (simp; omega) | (simp only [World.size_alloc, World.size_setCell, World.size_drew] at *; omega))) | (with_reducible refine bel_drewN ?_ _) | (with_reducible refine Below.drew ?_) | (with_reducible assumption) | (refine Hid.out ?_; with_reducible assumption) | (apply belV; (with_reducible assumption); exact (by first | omega | (simp; done) | (simp; omega) | (simp only [World.size_alloc, World.size_setCell, World.size_drew] at *; omega)))))) (by first | omega | (simp; done) | (simp; omega) | (simp only [World.size_alloc, World.size_setCell, World.size_drew] at *; omega))
    have X_1 : Hid (Box w1 (w.heap.size) #[.slice A0 p.costs.length c0, .slice A1 p.uppers.length c1, .slice A2 p.rows.length c2]) := Lib.hid (Box.below (by (repeat' (first | (with_reducible exact Box.new _ _ _ (by first | omega | (simp; done) | (simp; omega) | (simp only [World.size_alloc, World.size_setCell, World.size_drew] at *; omega))) | (with_reducible refine Box.far ?_ (by first | omega | (simp; done) | (simp; omega) | (simp only [World.size_alloc, World.size_setCell, World.size_drew] at *; omega)) _) | (apply Box.put3_0) | (apply Box.put3_1) | (apply Box.put3_2) | (apply Box.put2_0) | (apply Box.put2_1) | (with_reducible refine Box.alloc ?_ _) | (with_reducible refine Box.drewN ?_ _) | (with_reducible refine Box.drew ?_) | (with_reducible assumption) | (refine Hid.out ?_; with_reducible assumption) | (apply Box.only; (with_reducible assumption); exact (by first | omega | (simp; done) | (simp; omega) | (simp only [World.size_alloc, World.size_setCell, World.size_drew] at *; omega))) | (apply Box.belowD; (with_reducible assumption))))) hb)
    have yX_1 : w.heap.size < w1.heap.size := X_1.out.1
    obtain ⟨X_1c0, X_1c1, X_1c2⟩ := Box.facts3 X_1.out
    have z1 := hb.size
    (try simp at z1)
    have D1 := Lib.hid hb; clear hb
    rw [hv]
    go_wp2_with fail
    go_ret
    exact ⟨ret_i E.out.symm, by (repeat' (first | (with_reducible exact Below.refl _ _) | (with_reducible refine belS ?_ (by first | omega | (simp; done) | (simp; omega) | (simp only [World.size_alloc, World.size_setCell, World.size_drew] at *; omega))) | (with_reducible refine belA ?_ (by first | omega | (simp; done) | (simp; omega) | (simp only [World.size_alloc, World.size_setCell, World.size_drew] at *; omega))) | (with_reducible refine bel_drewN ?_ _) | (with_reducible refine Below.drew ?_) | (with_reducible assumption) | (refine Hid.out ?_; with_reducible assumption) | (apply belV; (with_reducible assumption); exact (by first | omega | (simp; done) | (simp; omega) | (simp only [World.size_alloc, World.size_setCell, World.size_drew] at *; omega)))))⟩
  · have E := Lib.hid (cntF_2 hv)
    have HV := Lib.hid hv
    obtain ⟨N, hN⟩ : ∃ N, p.uppers.length = N := ⟨_, rfl⟩
    have h5 : N ≤ 5 := by rw [← hN]; exact (vProb_N5 hv).1
    have HN := Lib.hid hN; clear hN
    have hN5 : N ≤ maxLen := by unfold maxLen; omega
    refine (callsIn_wide (n := 6)).1 ?_
    refine callsIn_of_wp_marks Try.func17 rfl trivial ?_ rfl
    simp only [Try.ntmps17, List.size_toArray, List.length_cons, List.length_nil, Nat.reduceAdd, Nat.reduceSub, Array.replicate_succ, Array.replicate_zero, List.push_toArray, List.append_toArray, List.nil_append, List.cons_append]
    gi_wp2
    refine ⟨trivial, (callsIn_wide.2 (impl_ValidProblem _ _ _ _ _ _ p _ (HP.out.below (by (repeat' (first | (with_reducible exact Below.refl _ _) | (with_reducible refine belS ?_ (by first | omega | (simp; done) | (simp; omega) | (simp only [World.size_alloc, World.size_setCell, World.size_drew] at *; omega))) | (with_reducible refine belA ?_ (by first | omega | (simp; done) | (simp; omega) | (simp only [World.size_alloc, World.size_setCell, World.size_drew] at *; omega))) | (with_reducible refine bel_drewN ?_ _) | (with_reducible refine Below.drew ?_) | (with_reducible assumption) | (refine Hid.out ?_; with_reducible assumption) | (apply belV; (with_reducible assumption); exact (by first | omega | (simp; done) | (simp; omega) | (simp only [World.size_alloc, World.size_setCell, World.size_drew] at *; omega))))))))).mono ?_⟩
    rintro e w1 ⟨rfl, hb⟩
    have G1 : Hid (Below w.heap.size w w1) := belU hb (by (repeat' (first | (with_reducible exact Below.refl _ _) | (with_reducible refine belS ?_ (by first | omega | (simp; done) | (simp; omega) | (simp only [World.size_alloc, World.size_setCell, World.size_drew] at *; omega))) | (with_reducible refine belA ?_ (by first | omega | (simp; done) | (simp; omega) | (simp only [World.size_alloc, World.size_setCell, World.size_drew] at *; omega))) | (with_reducible refine bel_drewN ?_ _) | (with_reducible refine Below.drew ?_) | (with_reducible assumption) | (refine Hid.out ?_; with_reducible assumption) | (apply belV; (with_reducible assumption); exact (by first | omega | (simp; done) | (simp; omega) | (simp only [World.size_alloc, World.size_setCell, World.size_drew] at *; omega)))))) (by first | omega | (simp; done) | (simp; omega) | (simp only [World.size_alloc, World.size_setCell, World.size_drew] at *; omega))
    have X_1 : Hid (Box w1 (w.heap.size) #[.slice A0 p.costs.length c0, .slice A1 p.uppers.length c1, .slice A2 p.rows.length c2]) := Lib.hid (Box.below (by (repeat' (first | (with_reducible exact Box.new _ _ _ (by first | omega | (simp; done) | (simp; omega) | (simp only [World.size_alloc, World.size_setCell, World.size_drew] at *; omega))) | (with_reducible refine Box.far ?_ (by first | omega | (simp; done) | (simp; omega) | (simp only [World.size_alloc, World.size_setCell, World.size_drew] at *; omega)) _) | (apply Box.put3_0) | (apply Box.put3_1) | (apply Box.put3_2) | (apply Box.put2_0) | (apply Box.put2_1) | (with_reducible refine Box.alloc ?_ _) | (with_reducible refine Box.drewN ?_ _) | (with_reducible refine Box.drew ?_) | (with_reducible assumption) | (refine Hid.out ?_; with_reducible assumption) | (apply Box.only; (with_reducible assumption); exact (by first | omega | (simp; done) | (simp; omega) | (simp only [World.size_alloc, World.size_setCell, World.size_drew] at *; omega))) | (apply Box.belowD; (with_reducible assumption))))) hb)
    have yX_1 : w.heap.size < w1.heap.size := X_1.out.1
    obtain ⟨X_1c0, X_1c1, X_1c2⟩ := Box.facts3 X_1.out
    have z1 := hb.size
    (try simp at z1)
    have D1 := Lib.hid hb; clear hb
    rw [hv]
    clear hv
    gi_wp2
    refine ⟨trivial, (callsIn_wide.2 (impl_points _ _ _ _ _ _ p _)).mono ?_⟩
    rintro e w2 ⟨rfl, hbp, hb⟩
    have G2 : Hid (Below w.heap.size w w2) := belU hb (by (repeat' (first | (with_reducible exact Below.refl _ _) | (with_reducible refine belS ?_ (by first | omega | (simp; done) | (simp; omega) | (simp only [World.size_alloc, World.size_setCell, World.size_drew] at *; omega))) | (with_reducible refine belA ?_ (by first | omega | (simp; done) | (simp; omega) | (simp only [World.size_alloc, World.size_setCell, World.size_drew] at *; omega))) | (with_reducible refine bel_drewN ?_ _) | (with_reducible refine Below.drew ?_) | (with_reducible assumption) | (refine Hid.out ?_; with_reducible assumption) | (apply belV; (with_reducible assumption); exact (by first | omega | (simp; done) | (simp; omega) | (simp only [World.size_alloc, World.size_setCell, World.size_drew] at *; omega)))))) (by first | omega | (simp; done) | (simp; omega) | (simp only [World.size_alloc, World.size_setCell, World.size_drew] at *; omega))
    (try simp only [World.size_alloc, World.size_setCell, World.size_drew, World.heap_drewN] at hbp)
    have BP := Lib.hid hbp; clear hbp
    have X_2 : Hid (Box w2 (w.heap.size) #[.slice A0 p.costs.length c0, .slice A1 p.uppers.length c1, .slice A2 p.rows.length c2]) := Lib.hid (Box.below (by (repeat' (first | (with_reducible exact Box.new _ _ _ (by first | omega | (simp; done) | (simp; omega) | (simp only [World.size_alloc, World.size_setCell, World.size_drew] at *; omega))) | (with_reducible refine Box.far ?_ (by first | omega | (simp; done) | (simp; omega) | (simp only [World.size_alloc, World.size_setCell, World.size_drew] at *; omega)) _) | (apply Box.put3_0) | (apply Box.put3_1) | (apply Box.put3_2) | (apply Box.put2_0) | (apply Box.put2_1) | (with_reducible refine Box.alloc ?_ _) | (with_reducible refine Box.drewN ?_ _) | (with_reducible refine Box.drew ?_) | (with_reducible assumption) | (refine Hid.out ?_; with_reducible assumption) | (apply Box.only; (with_reducible assumption); exact (by first | omega | (simp; done) | (simp; omega) | (simp only [World.size_alloc, World.size_setCell, World.size_drew] at *; omega))) | (apply Box.belowD; (with_reducible assumption))))) hb)
    have yX_2 : w.heap.size < w2.heap.size := X_2.out.1
    obtain ⟨X_2c0, X_2c1, X_2c2⟩ := Box.facts3 X_2.out
    have C_2 : Hid (Box w2 (w1.heap.size) #[.int .i64 0]) := Lib.hid (Box.below (by (repeat' (first | (with_reducible exact Box.new _ _ _ (by first | omega | (simp; done) | (simp; omega) | (simp only [World.size_alloc, World.size_setCell, World.size_drew] at *; omega))) | (with_reducible refine Box.far ?_ (by first | omega | (simp; done) | (simp; omega) | (simp only [World.size_alloc, World.size_setCell, World.size_drew] at *; omega)) _) | (apply Box.put3_0) | (apply Box.put3_1) | (apply Box.put3_2) | (apply Box.put2_0) | (apply Box.put2_1) | (with_reducible refine Box.alloc ?_ _) | (with_reducible refine Box.drewN ?_ _) | (with_reducible refine Box.drew ?_) | (with_reducible assumption) | (refine Hid.out ?_; with_reducible assumption) | (apply Box.only; (with_reducible assumption); exact (by first | omega | (simp; done) | (simp; omega) | (simp only [World.size_alloc, World.size_setCell, World.size_drew] at *; omega))) | (apply Box.belowD; (with_reducible assumption))))) hb)
    have yC_2 : w1.heap.size < w2.heap.size := C_2.out.1
    have C_2c := Box.facts1 C_2.out
    have C_2f0 := Box.frz C_2.out 0 (by first | decide | simp)
    have z2 := hb.size
    (try simp at z2)
    have D2 := Lib.hid hb; clear hb
    have BP2 := BP.out
    have zbp := BP2.1
    have CN2 := C_2.out
    gi_wp2
    refine wpIn_rangeFunc_at (a := _) (w := _) rfl (by omega) (gf := 55) (lb := #[.pointer (some ⟨w1.heap.size + 1, 0, none⟩)]) rfl trivial (enters_of Try.func55 (by kernel_rfl) rfl)
      (points_at _ _ _ _ _ _ N _ _ p w _ HP.out (by (repeat' (first | (with_reducible exact Below.refl _ _) | (with_reducible refine belS ?_ (by first | omega | (simp; done) | (simp; omega) | (simp only [World.size_alloc, World.size_setCell, World.size_drew] at *; omega))) | (with_reducible refine belA ?_ (by first | omega | (simp; done) | (simp; omega) | (simp only [World.size_alloc, World.size_setCell, World.size_drew] at *; omega))) | (with_reducible refine bel_drewN ?_ _) | (with_reducible refine Below.drew ?_) | (with_reducible assumption) | (refine Hid.out ?_; with_reducible assumption) | (apply belV; (with_reducible assumption); exact (by first | omega | (simp; done) | (simp; omega) | (simp only [World.size_alloc, World.size_setCell, World.size_drew] at *; omega)))))) BP2 (vProb_us HV.out) HN.out.symm h5 (by omega)) (by omega) (fun _ _ => rfl)
      (fun b pre W => Box W w1.heap.size #[.int .i64 (cnt (allB p.rows) pre)] ∧ Box W w.heap.size #[.slice A0 p.costs.length c0, .slice A1 p.uppers.length c1, .slice A2 p.rows.length c2] ∧ Below w.heap.size w W) (fun _ _ _ _ => False)
      ?hI (fun _ _ _ _ _ _ _ h _ _ _ => h) ?hAt ?h0 ?a1 ?assign ?body ?done ?stop
    case assign =>
      intro l b x W K hK
      gi_wp2
      exact hK
    case hI => exact fun b s A B r hb h ho hr hor => ⟨Box.turn (Lib.hid ho) (by omega) h.1, Box.turn (Lib.hid ho) (by omega) h.2.1, Below.turn h.2.2 ho (by omega) h.2.2.size⟩
    case hAt => exact fun b x A B r h ho hr hle => ⟨OwnI.turn (Lib.hid ho) (by omega) h.1, Box.turn (Lib.hid ho) (by omega) h.2⟩
    case h0 => exact fun b hb => ⟨CN2, X_2.out, G2.out⟩
    case body =>
      intro l b pre x rest W hb hpts hI hat
      obtain ⟨hc, hX, hbel⟩ := hI
      obtain ⟨hown, hbox⟩ := hat
      have hmem := Lib.hid (ppu_len hpts)
      have HS := Lib.hid (cnt_small HV.out (f := allB p.rows) (pre := pre) ⟨x :: rest, hpts.symm⟩)
      have HPT := Lib.hid hpts; clear hpts
      have HX : Hid (Ints W (some ⟨b, 0, none⟩) N x) := Lib.hid (by have := hown.ints (pts_bd (vProb_us HV.out) hmem.out); rwa [pts_len (vProb_us HV.out) hmem.out, HN.out] at this)
      have HF : Hid (Fits p N) := Lib.hid (by have := pt_fits HV.out hmem.out; rwa [pts_len (vProb_us HV.out) hmem.out, HN.out] at this)
      obtain ⟨x0, x1, x2⟩ := Box.facts3 hX
      have y0 := hX.1
      have yb := hown.1
      have hown := Lib.hid hown
      have hbox := Lib.hid hbox
      gi_wp2
      refine ⟨trivial, (CallsIn.inRound l (callsIn_wide.2 (impl_allows _ _ _ _ _ _ _ N _ p x _ (HP.out.below (by (repeat' (first | (with_reducible exact Below.refl _ _) | (with_reducible refine belS ?_ (by first | omega | (simp; done) | (simp; omega) | (simp only [World.size_alloc, World.size_setCell, World.size_drew] at *; omega))) | (with_reducible refine belA ?_ (by first | omega | (simp; done) | (simp; omega) | (simp only [World.size_alloc, World.size_setCell, World.size_drew] at *; omega))) | (with_reducible refine bel_drewN ?_ _) | (with_reducible refine Below.drew ?_) | (with_reducible assumption) | (refine Hid.out ?_; with_reducible assumption) | (apply belV; (with_reducible assumption); exact (by first | omega | (simp; done) | (simp; omega) | (simp only [World.size_alloc, World.size_setCell, World.size_drew] at *; omega))))))) HX.out hN5 HF.out))).mono ?_⟩
      rintro e w3 ⟨rfl, hb⟩
      have G3 : Hid (Below w.heap.size w w3) := belU hb (by (repeat' (first | (with_reducible exact Below.refl _ _) | (with_reducible refine belS ?_ (by first | omega | (simp; done) | (simp; omega) | (simp only [World.size_alloc, World.size_setCell, World.size_drew] at *; omega))) | (with_reducible refine belA ?_ (by first | omega | (simp; done) | (simp; omega) | (simp only [World.size_alloc, World.size_setCell, World.size_drew] at *; omega))) | (with_reducible refine bel_drewN ?_ _) | (with_reducible refine Below.drew ?_) | (with_reducible assumption) | (refine Hid.out ?_; with_reducible assumption) | (apply belV; (with_reducible assumption); exact (by first | omega | (simp; done) | (simp; omega) | (simp only [World.size_alloc, World.size_setCell, World.size_drew] at *; omega)))))) (by first | omega | (simp; done) | (simp; omega) | (simp only [World.size_alloc, World.size_setCell, World.size_drew] at *; omega))
      have X_3 : Hid (Box w3 (w.heap.size) #[.slice A0 p.costs.length c0, .slice A1 p.uppers.length c1, .slice A2 p.rows.length c2]) := Lib.hid (Box.below (by (repeat' (first | (with_reducible exact Box.new _ _ _ (by first | omega | (simp; done) | (simp; omega) | (simp only [World.size_alloc, World.size_setCell, World.size_drew] at *; omega))) | (with_reducible refine Box.far ?_ (by first | omega | (simp; done) | (simp; omega) | (simp only [World.size_alloc, World.size_setCell, World.size_drew] at *; omega)) _) | (apply Box.put3_0) | (apply Box.put3_1) | (apply Box.put3_2) | (apply Box.put2_0) | (apply Box.put2_1) | (with_reducible refine Box.alloc ?_ _) | (with_reducible refine Box.drewN ?_ _) | (with_reducible refine Box.drew ?_) | (with_reducible assumption) | (refine Hid.out ?_; with_reducible assumption) | (apply Box.only; (with_reducible assumption); exact (by first | omega | (simp; done) | (simp; omega) | (simp only [World.size_alloc, World.size_setCell, World.size_drew] at *; omega))) | (apply Box.belowD; (with_reducible assumption))))) hb)
      have yX_3 : w.heap.size < w3.heap.size := X_3.out.1
      obtain ⟨X_3c0, X_3c1, X_3c2⟩ := Box.facts3 X_3.out
      have C_3 : Hid (Box w3 (w1.heap.size) #[.int .i64 (cnt (allB p.rows) pre)]) := Lib.hid (Box.below (by (repeat' (first | (with_reducible exact Box.new _ _ _ (by first | omega | (simp; done) | (simp; omega) | (simp only [World.size_alloc, World.size_setCell, World.size_drew] at *; omega))) | (with_reducible refine Box.far ?_ (by first | omega | (simp; done) | (simp; omega) | (simp only [World.size_alloc, World.size_setCell, World.size_drew] at *; omega)) _) | (apply Box.put3_0) | (apply Box.put3_1) | (apply Box.put3_2) | (apply Box.put2_0) | (apply Box.put2_1) | (with_reducible refine Box.alloc ?_ _) | (with_reducible refine Box.drewN ?_ _) | (with_reducible refine Box.drew ?_) | (with_reducible assumption) | (refine Hid.out ?_; with_reducible assumption) | (apply Box.only; (with_reducible assumption); exact (by first | omega | (simp; done) | (simp; omega) | (simp only [World.size_alloc, World.size_setCell, World.size_drew] at *; omega))) | (apply Box.belowD; (with_reducible assumption))))) hb)
      have yC_3 : w1.heap.size < w3.heap.size := C_3.out.1
      have C_3c := Box.facts1 C_3.out
      have C_3f0 := Box.frz C_3.out 0 (by first | decide | simp)
      have z3 := hb.size
      (try simp at z3)
      have D3 := Lib.hid hb; clear hb
      rw [allRows_allB]
      have hs := HS.out
      have hwk : IntKind.i64.wrap ((cnt (allB p.rows) pre : Int) + 1) = (cnt (allB p.rows) pre : Int) + 1 := IntWalk.i64_in _ ⟨by omega, by omega⟩
      cases hok : allB p.rows x
      · gi_wp2
        refine ⟨KeepsOthers.of_below D3.out, D3.out.mono (by omega), ⟨by (repeat' (first | (with_reducible exact OwnI.madeAt _ _ _ (by first | omega | (simp; done) | (simp; omega) | (simp only [World.size_alloc, World.size_setCell, World.size_drew] at *; omega))) | (with_reducible refine OwnI.far ?_ (by first | omega | (simp; done) | (simp; omega) | (simp only [World.size_alloc, World.size_setCell, World.size_drew] at *; omega)) _) | (with_reducible refine OwnI.alloc ?_ _) | (with_reducible refine OwnI.drewN ?_ _) | (with_reducible refine OwnI.drew ?_) | (with_reducible assumption) | (refine Hid.out ?_; with_reducible assumption) | (apply OwnI.turn; (with_reducible assumption); exact (by first | omega | (simp; done) | (simp; omega) | (simp only [World.size_alloc, World.size_setCell, World.size_drew] at *; omega))) | (apply OwnI.only; (with_reducible assumption); exact (by first | omega | (simp; done) | (simp; omega) | (simp only [World.size_alloc, World.size_setCell, World.size_drew] at *; omega))) | (apply OwnI.belowD; (with_reducible assumption)))), by (repeat' (first | (with_reducible exact Box.new _ _ _ (by first | omega | (simp; done) | (simp; omega) | (simp only [World.size_alloc, World.size_setCell, World.size_drew] at *; omega))) | (with_reducible refine Box.far ?_ (by first | omega | (simp; done) | (simp; omega) | (simp only [World.size_alloc, World.size_setCell, World.size_drew] at *; omega)) _) | (apply Box.put3_0) | (apply Box.put3_1) | (apply Box.put3_2) | (apply Box.put2_0) | (apply Box.put2_1) | (with_reducible refine Box.alloc ?_ _) | (with_reducible refine Box.drewN ?_ _) | (with_reducible refine Box.drew ?_) | (with_reducible assumption) | (refine Hid.out ?_; with_reducible assumption) | (apply Box.only; (with_reducible assumption); exact (by first | omega | (simp; done) | (simp; omega) | (simp only [World.size_alloc, World.size_setCell, World.size_drew] at *; omega))) | (apply Box.belowD; (with_reducible assumption))))⟩, ?_, X_3.out, by (repeat' (first | (with_reducible exact Below.refl _ _) | (with_reducible refine belS ?_ (by first | omega | (simp; done) | (simp; omega) | (simp only [World.size_alloc, World.size_setCell, World.size_drew] at *; omega))) | (with_reducible refine belA ?_ (by first | omega | (simp; done) | (simp; omega) | (simp only [World.size_alloc, World.size_setCell, World.size_drew] at *; omega))) | (with_reducible refine bel_drewN ?_ _) | (with_reducible refine Below.drew ?_) | (with_reducible assumption) | (refine Hid.out ?_; with_reducible assumption) | (apply belV; (with_reducible assumption); exact (by first | omega | (simp; done) | (simp; omega) | (simp only [World.size_alloc, World.size_setCell, World.size_drew] at *; omega)))))⟩
        rw [cnt_no hok]
        exact C_3.out
      · gi_wp2
        refine ⟨(KeepsOthers.of_below D3.out).trans (KeepsOthers.setCell _ _ _), belS (D3.out.mono (by omega)) (by omega), ⟨by (repeat' (first | (with_reducible exact OwnI.madeAt _ _ _ (by first | omega | (simp; done) | (simp; omega) | (simp only [World.size_alloc, World.size_setCell, World.size_drew] at *; omega))) | (with_reducible refine OwnI.far ?_ (by first | omega | (simp; done) | (simp; omega) | (simp only [World.size_alloc, World.size_setCell, World.size_drew] at *; omega)) _) | (with_reducible refine OwnI.alloc ?_ _) | (with_reducible refine OwnI.drewN ?_ _) | (with_reducible refine OwnI.drew ?_) | (with_reducible assumption) | (refine Hid.out ?_; with_reducible assumption) | (apply OwnI.turn; (with_reducible assumption); exact (by first | omega | (simp; done) | (simp; omega) | (simp only [World.size_alloc, World.size_setCell, World.size_drew] at *; omega))) | (apply OwnI.only; (with_reducible assumption); exact (by first | omega | (simp; done) | (simp; omega) | (simp only [World.size_alloc, World.size_setCell, World.size_drew] at *; omega))) | (apply OwnI.belowD; (with_reducible assumption)))), by (repeat' (first | (with_reducible exact Box.new _ _ _ (by first | omega | (simp; done) | (simp; omega) | (simp only [World.size_alloc, World.size_setCell, World.size_drew] at *; omega))) | (with_reducible refine Box.far ?_ (by first | omega | (simp; done) | (simp; omega) | (simp only [World.size_alloc, World.size_setCell, World.size_drew] at *; omega)) _) | (apply Box.put3_0) | (apply Box.put3_1) | (apply Box.put3_2) | (apply Box.put2_0) | (apply Box.put2_1) | (with_reducible refine Box.alloc ?_ _) | (with_reducible refine Box.drewN ?_ _) | (with_reducible refine Box.drew ?_) | (with_reducible assumption) | (refine Hid.out ?_; with_reducible assumption) | (apply Box.only; (with_reducible assumption); exact (by first | omega | (simp; done) | (simp; omega) | (simp only [World.size_alloc, World.size_setCell, World.size_drew] at *; omega))) | (apply Box.belowD; (with_reducible assumption))))⟩, ?_, by (repeat' (first | (with_reducible exact Box.new _ _ _ (by first | omega | (simp; done) | (simp; omega) | (simp only [World.size_alloc, World.size_setCell, World.size_drew] at *; omega))) | (with_reducible refine Box.far ?_ (by first | omega | (simp; done) | (simp; omega) | (simp only [World.size_alloc, World.size_setCell, World.size_drew] at *; omega)) _) | (apply Box.put3_0) | (apply Box.put3_1) | (apply Box.put3_2) | (apply Box.put2_0) | (apply Box.put2_1) | (with_reducible refine Box.alloc ?_ _) | (with_reducible refine Box.drewN ?_ _) | (with_reducible refine Box.drew ?_) | (with_reducible assumption) | (refine Hid.out ?_; with_reducible assumption) | (apply Box.only; (with_reducible assumption); exact (by first | omega | (simp; done) | (simp; omega) | (simp only [World.size_alloc, World.size_setCell, World.size_drew] at *; omega))) | (apply Box.belowD; (with_reducible assumption)))), by (repeat' (first | (with_reducible exact Below.refl _ _) | (with_reducible refine belS ?_ (by first | omega | (simp; done) | (simp; omega) | (simp only [World.size_alloc, World.size_setCell, World.size_drew] at *; omega))) | (with_reducible refine belA ?_ (by first | omega | (simp; done) | (simp; omega) | (simp only [World.size_alloc, World.size_setCell, World.size_drew] at *; omega))) | (with_reducible refine bel_drewN ?_ _) | (with_reducible refine Below.drew ?_) | (with_reducible assumption) | (refine Hid.out ?_; with_reducible assumption) | (apply belV; (with_reducible assumption); exact (by first | omega | (simp; done) | (simp; omega) | (simp only [World.size_alloc, World.size_setCell, World.size_drew] at *; omega)))))⟩
        rw [cnt_yes hok]
        exact Box.put (cs := #[_]) C_3.out (i := 0) (by simp) _
    case done =>
      intro D b W hD hb hI hK
      obtain ⟨hc, hX, hbel⟩ := hI
      have c0' := Box.facts1 hc
      gi_wp2
      refine ⟨by simp, .inl ⟨_, _, rfl, run_takeDeferred hK, ?_⟩⟩
      refine ⟨_, results_tmp rfl _ _ _, ?_, ?_⟩
      · exact ret_i E.out.symm
      · exact hbel.trans (belowK_b (w := w) (Nat.le_refl _) W D _ _ (by omega) hK rfl rfl)
    case stop => exact fun _ _ _ _ _ _ _ _ h _ => h.elim
end Go.Proofs.Ytangfmmjpomlgaa
