
/-
  The program's iterator over all points of a problem.
-/
import Derived.Test.YtangfmmjpomlgaaNc
set_option linter.unusedSimpArgs false
set_option linter.unusedVariables false
namespace Go.Proofs.Ytangfmmjpomlgaa
open Go.RowKit
attribute [local go_sem] Oper.semAt_some

theorem vProb_us {p : PProb} (h : vProb p = true) : ∀ u ∈ p.uppers, 0 ≤ u ∧ u ≤ 9 := by
  simp only [vProb, Bool.and_eq_true, decide_eq_true_eq] at h
  intro u hu
  have := h.2.2.2.1.2
  rw [vInts, List.all_eq_true] at this
  exact inB_iff.1 (this u hu)
theorem vProb_N5 {p : PProb} (h : vProb p = true) : p.uppers.length ≤ 5 ∧ 1 ≤ p.uppers.length := by
  simp only [vProb, Bool.and_eq_true, decide_eq_true_eq] at h
  have h1 := inB_iff.1 h.1
  omega
theorem pts_len {us x : List Int} (hu : ∀ u ∈ us, 0 ≤ u ∧ u ≤ 9) (h : x ∈ pts us) : x.length = us.length := under_len ((mem_pts fun u h => (hu u h).1).1 h)
theorem pts_bd {us x : List Int} (hu : ∀ u ∈ us, 0 ≤ u ∧ u ≤ 9) (h : x ∈ pts us) : ∀ v ∈ x, I64 v := by
  intro v hv
  have hx := (mem_pts fun u h => (hu u h).1).1 h
  obtain ⟨i, hi, rfl⟩ := List.getElem_of_mem hv
  have hl := under_len hx
  have := under_at hx i (by omega)
  have h9 := (hu _ (List.getElem_mem (show i < us.length by omega))).2
  simp only [List.getD_eq_getElem?_getD, List.getElem?_eq_getElem hi, List.getElem?_eq_getElem (show i < us.length by omega), Option.getD_some] at this
  unfold I64
  omega
theorem pts_isPt {us x : List Int} (hu : ∀ u ∈ us, 0 ≤ u ∧ u ≤ 9) (h : x ∈ pts us) : isPt us x = true := isPt_under.2 ((mem_pts fun u h => (hu u h).1).1 h)
theorem ppu_len {us pre rest x} (h : pts us = pre ++ x :: rest) : x ∈ pts us := by rw [h]; simp

set_option maxHeartbeats 1000000 in
theorem impl_points (A0 A1 A2 : Option Addr) (c0 c1 c2 : Nat) (p : PProb) (w : World) :
    Calls Try.prog 32 #[.agg #[.slice A0 p.costs.length c0, .slice A1 p.uppers.length c1, .slice A2 p.rows.length c2]] w fun e w' => e = .returned (.func (.func 55) #[] #[.pointer (some ⟨w.heap.size, 0, none⟩)]) ∧
      Box w' w.heap.size #[.slice A0 p.costs.length c0, .slice A1 p.uppers.length c1, .slice A2 p.rows.length c2] ∧ Below w.heap.size w w' := by
  have hmf : ∀ (fn : Fn) (first cap : Array Value) (w : World), (Instr.makeFunc fn first cap).run Try.prog w = .ok (.func fn first cap) w := fun _ _ _ _ => rfl
  go_enter Try.func32, Try.ntmps32
  go_wp2_with fail
  go_ret
  exact ⟨rfl, by (repeat' (first | (with_reducible exact Box.new _ _ _ (by first | omega | (simp; done) | (simp; omega) | (simp only [World.size_alloc, World.size_setCell, World.size_drew] at *; omega))) | (with_reducible refine Box.far ?_ (by first | omega | (simp; done) | (simp; omega) | (simp only [World.size_alloc, World.size_setCell, World.size_drew] at *; omega)) _) | (apply Box.put3_0) | (apply Box.put3_1) | (apply Box.put3_2) | (apply Box.put2_0) | (apply Box.put2_1) | (with_reducible refine Box.alloc ?_ _) | (with_reducible refine Box.drewN ?_ _) | (with_reducible refine Box.drew ?_) | (with_reducible assumption) | (refine Hid.out ?_; with_reducible assumption) | (apply Box.only; (with_reducible assumption); exact (by first | omega | (simp; done) | (simp; omega) | (simp only [World.size_alloc, World.size_setCell, World.size_drew] at *; omega))) | (apply Box.belowD; (with_reducible assumption)))), by (repeat' (first | (with_reducible exact Below.refl _ _) | (with_reducible refine belS ?_ (by first | omega | (simp; done) | (simp; omega) | (simp only [World.size_alloc, World.size_setCell, World.size_drew] at *; omega))) | (with_reducible refine belA ?_ (by first | omega | (simp; done) | (simp; omega) | (simp only [World.size_alloc, World.size_setCell, World.size_drew] at *; omega))) | (with_reducible refine bel_drewN ?_ _) | (with_reducible refine Below.drew ?_) | (with_reducible assumption) | (refine Hid.out ?_; with_reducible assumption) | (apply belV; (with_reducible assumption); exact (by first | omega | (simp; done) | (simp; omega) | (simp only [World.size_alloc, World.size_setCell, World.size_drew] at *; omega)))))⟩

/-- The numbers that block b begins with. -/
def rdB (w : World) (b n : Nat) : List Int := (List.range n).map fun i => intOf ((w.cell? ⟨b, i, none⟩).getD undef)
theorem rdB_of {w : World} {b n : Nat} {x : List Int} (h : OwnI w b x) (hl : x.length = n) : rdB w b n = x := by
  refine List.ext_getElem (by simp [rdB, hl]) fun i h1 h2 => ?_
  have := (h.2 i x[i] (List.getElem?_eq_getElem h2)).1
  simp [rdB, this, intOf]

set_option maxHeartbeats 4000000 in
set_option maxRecDepth 100000 in
theorem points_at (A0 A1 A2 : Option Addr) (c0 c1 c2 n bp m : Nat) (p : PProb) (wb w : World) (hp : ProbV wb A0 A1 A2 c0 c1 c2 p) (hwb : Below wb.heap.size wb w) (hbx : Box w bp #[.slice A0 p.costs.length c0, .slice A1 p.uppers.length c1, .slice A2 p.rows.length c2]) (hu : ∀ u ∈ p.uppers, 0 ≤ u ∧ u ≤ 9) (hn : n = p.uppers.length) (h5 : n ≤ 5) (hm : 1 ≤ m) :
    SeqAt Fence.wide m Try.prog 55 #[.pointer (some ⟨bp, 0, none⟩)] (fun b x => #[.slice (some ⟨b, 0, none⟩) n n]) (fun b x W => OwnI W b x ∧ Box W bp #[.slice A0 p.costs.length c0, .slice A1 p.uppers.length c1, .slice A2 p.rows.length c2]) (pts p.uppers) wb.heap.size w := by
  obtain ⟨i0, hi0, hz0, hz1, hz2⟩ := info_parts info_int
  intro l J Jx W hW hJ hJx hY h0
  have hmk := fun W => run_makeN (P := Try.prog) 23 3 i0 (.int .i64 0) Try.underlying23 hi0 hz0 n (by rw [hz2]; omega) (by omega) W
  simp only [hz1, Nat.mul_one] at hmk
  obtain ⟨x0, x1, x2⟩ := Box.facts3 (Box.keep hbx hW.size (hW.block _ hbx.1))
  have zp : bp < W.heap.size := by have := hbx.1; have := hW.size; omega
  have zW := hW.size
  have HP := Lib.hid hp; clear hp
  have zb := hwb.size
  have HW : Hid (Below wb.heap.size wb W) := Lib.hid (hwb.trans (hW.mono zb))
  have zbW := HW.out.size
  have HB := Lib.hid (Box.keep hbx hW.size (hW.block _ hbx.1))
  clear hbx hW
  have HJ := Lib.hid hJ; clear hJ
  have HJx := Lib.hid hJx; clear hJx
  have HY := Lib.hid hY; clear hY
  have H0 := Lib.hid h0; clear h0
  have HU := Lib.hid hu; clear hu
  have HN := Lib.hid hn
  have hul : p.uppers.length = n := hn.symm
  clear hn
  have HUL := Lib.hid hul
  refine callsIn_of_wp Try.func55 rfl trivial ?_ rfl
  simp only [Try.ntmps55, List.size_toArray, List.length_cons, List.length_nil, Nat.reduceAdd, Nat.reduceSub, Array.replicate_succ, Array.replicate_zero, List.push_toArray, List.append_toArray, List.nil_append, List.cons_append]
  rw [hul] at x1
  clear hul
  obtain ⟨T, hT⟩ := pts_first fun u h => (HU.out u h).1
  rw [HUL.out] at hT
  have HT := Lib.hid hT; clear hT
  gi_wp2
  gi_loopw [8] (fun s8 wr => ∃ (pre rest : List (List Int)) (x : List Int) (v8 : Value), s8 = v8 ∧ Hid (pts p.uppers = pre ++ x :: rest) ∧ Hid (J W.heap.size pre wr) ∧ Hid (OwnI wr W.heap.size x) ∧ Hid (Box wr bp #[.slice A0 p.costs.length c0, .slice A1 p.uppers.length c1, .slice A2 p.rows.length c2]) ∧ Hid (Below wb.heap.size wb wr)) (fun _ wr => restN p.uppers (rdB wr W.heap.size n))
  case atStart =>
    refine ⟨[], T, List.replicate n 0, _, rfl, HT, Lib.hid ?_, Lib.hid (OwnI.made _ _ _), Lib.hid (HB.out.alloc _), Lib.hid (HW.out.alloc zbW _)⟩
    exact HJ.out _ _ _ _ (Nat.le_refl _) (H0.out _ (Nat.le_refl _)) (One.new _ _ _)
  case round =>
    obtain ⟨pre, rest, x, v8, rfl, hpts, hJs, hown, hbox, hbel⟩ := hrel
    have hxl := Lib.hid (pts_len HU.out (ppu_len hpts.out))
    have hxb := Lib.hid (pts_bd HU.out (ppu_len hpts.out))
    have hrun := Lib.hid (pts_split (fun u h => (HU.out u h).1) hpts.out)
    have zo := hown.out.1
    have HM := Lib.hid (restN_at hpts.out)
    have HRD := Lib.hid (rdB_of (n := n) hown.out (by rw [hxl.out, HUL.out]))
    obtain ⟨fn, tmps, assign, body, hy, hR⟩ := HY.out W.heap.size pre x rest wr (Nat.le_refl _) hpts.out hJs.out ⟨hown.out, hbox.out⟩
    gi_wp2
    refine hR.mono ?_
    rintro e W3 (⟨rfl, hJ3, ⟨hat, hbx3⟩, hb3⟩ | ⟨rfl, hx3⟩)
    · have HJ3 := Lib.hid hJ3; clear hJ3
      have HAT := Lib.hid hat
      have G3 : Hid (Below wb.heap.size wb W3) := Lib.hid (hbel.out.trans hb3)
      have zo3 := hat.1
      clear hat hb3 hy hR
      have z3 := G3.out.size
      obtain ⟨y0, y1, y2⟩ := Box.facts3 hbx3
      have zp3 : bp < W3.heap.size := hbx3.1
      have BX3 := Lib.hid hbx3; clear hbx3
      cases rest with
      | nil =>
        have E := Lib.hid (runs_no hrun.out)
        gi_wp2_with (refine ⟨trivial, ?_⟩; gi_at_call 56; refine (callsIn_wide.2 (impl_advance _ _ _ _ _ _ _ _ _ p x wb _ HP.out G3.out (by omega) HAT.out hxb.out (by rw [hxl.out, HUL.out]) HUL.out.symm (by omega))).mono ?_; rintro e W4 ⟨rfl, ho4, h4⟩; rw [E.out])
        go_end0
        refine ⟨⟨_, rfl⟩, W.heap.size, Nat.le_refl _, .inl ?_⟩
        rw [hpts.out]
        exact HJ.out _ _ _ _ (Nat.le_refl _) HJ3.out h4
      | cons y T' =>
        have E := Lib.hid (runs_yes hrun.out)
        gi_wp2_with (refine ⟨trivial, ?_⟩; gi_at_call 56; refine (callsIn_wide.2 (impl_advance _ _ _ _ _ _ _ _ _ p x wb _ HP.out G3.out (by omega) HAT.out hxb.out (by rw [hxl.out, HUL.out]) HUL.out.symm (by omega))).mono ?_; rintro e W4 ⟨rfl, ho4, h4⟩; rw [E.out])
        have hxy : Hid (pts p.uppers = (pre ++ [x]) ++ y :: T') := Lib.hid (by rw [hpts.out]; simp)
        have HM2 := Lib.hid (restN_at hxy.out)
        rw [E.out] at ho4
        have hyl := pts_len HU.out (ppu_len hxy.out)
        go_roundw
        case rel => exact ⟨pre ++ [x], T', y, _, rfl, hxy, Lib.hid (HJ.out _ _ _ _ (Nat.le_refl _) HJ3.out h4), Lib.hid ho4, Lib.hid (Box.turn (Lib.hid h4) (by omega) BX3.out), Lib.hid (Below.turn G3.out h4 (by omega) (by omega))⟩
        case measure => rw [rdB_of (n := n) ho4 (by rw [hyl, HUL.out]), HRD.out, HM.out, HM2.out]; simp
    · gi_wp2
      refine ⟨trivial, ?_⟩
      gi_wp2
      go_end0
      exact ⟨⟨_, rfl⟩, W.heap.size, Nat.le_refl _, .inr ⟨pre ++ [x], ⟨rest, by rw [hpts.out]; simp⟩, hx3⟩⟩
end Go.Proofs.Ytangfmmjpomlgaa
