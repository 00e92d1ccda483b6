
/-
  Values of flows, as the program's function and the model's answer them.
-/
import Derived.Test.YtjbgjljcgdligaaIb
import Derived.Test.YtjbgjljcgdligaaHs
import Derived.Test.YtjbgjljcgdligaaJc
import Derived.Test.YtjbgjljcgdligaaJg
set_option linter.unusedSimpArgs false
set_option linter.unusedVariables false
namespace Go.Proofs.Ytjbgjljcgdligaa
open Go.RowKit

theorem cell_far {w : World} {p : Addr} {b o : Nat} {v u : Value} (h : w.cell? ⟨b, o, none⟩ = some v) (hne : p.block ≠ b) : (w.setCell p u).cell? ⟨b, o, none⟩ = some v := by
  rw [World.cell?_setCell_far _ _ _ _ hne]; exact h
def FlowEnd (n : Int) (ts : List (Int × Int × Int)) (s t : Int) (fs : List Int) (w : World) (e : Ending) (w' : World) : Prop :=
  e = .returned (.tuple #[.int .i64 (flowV n ts s t fs), .bool (flowB n ts s t fs)]) ∧ Below w.heap.size w w'
theorem FlowEnd.no {n s t : Int} {ts : List (Int × Int × Int)} {fs : List Int} {w w' : World} (h : flowB n ts s t fs = false ∧ flowV n ts s t fs = 0) (hb : Below w.heap.size w w') : FlowEnd n ts s t fs w (.returned (.tuple #[.int .i64 0, .bool false])) w' := by
  refine ⟨?_, hb⟩; rw [h.1, h.2]
theorem FlowEnd.yes {n s t v : Int} {ts : List (Int × Int × Int)} {fs : List Int} {w w' : World} (h : flowB n ts s t fs = true ∧ flowV n ts s t fs = v) (hb : Below w.heap.size w w') : FlowEnd n ts s t fs w (.returned (.tuple #[.int .i64 v, .bool true])) w' := by
  refine ⟨?_, hb⟩; rw [h.1, h.2]
theorem sT_len1 (N : Nat) (ts : List (Int × Int × Int)) (fs : List Int) (k i : Nat) (v : Int) : ((sTab N ts fs k).set i v).length = N := by rw [List.length_set, sTab_len]
set_option maxHeartbeats 8000000 in
set_option maxRecDepth 100000 in
theorem impl_FlowValue (A A' : Option Addr) (m c m' c' : Nat) (n s t : Int) (ts : List (Int × Int × Int)) (fs : List Int) (w : World) (hI : TriS w A m ts) (hm : m ≤ maxLen) (hJ : Ints w A' m' fs) (hm' : m' ≤ maxLen) :
    Calls Try.prog 42 #[.int .i64 n, .slice A m c, .int .i64 s, .int .i64 t, .slice A' m' c'] w (FlowEnd n ts s t fs w) := by
  have HL := Lib.hid hI.len
  have HL' := Lib.hid hJ.len
  have HI := Lib.hid hI; clear hI
  have HJ := Lib.hid hJ; clear hJ
  cases h1 : netB n ts s t
  · have E := Lib.hid (flow_1 (fs := fs) h1)
    go_enter Try.func42, Try.ntmps42
    go_wp2_with fail
    refine (impl_validNetwork _ _ _ n s t ts _ (HI.out.below (by (repeat' (first | (with_reducible exact Below.refl _ _) | (with_reducible refine belS ?_ (by first | omega | (simp; done) | (simp; omega) | (simp only [World.size_alloc, World.size_setCell, World.size_drew] at *; omega))) | (with_reducible refine belA ?_ (by first | omega | (simp; done) | (simp; omega) | (simp only [World.size_alloc, World.size_setCell, World.size_drew] at *; omega))) | (with_reducible refine bel_drewN ?_ _) | (with_reducible refine Below.drew ?_) | (with_reducible assumption) | (refine Hid.out ?_; with_reducible assumption) | (apply belV; (with_reducible assumption); exact (by first | omega | (simp; done) | (simp; omega) | (simp only [World.size_alloc, World.size_setCell, World.size_drew] at *; omega))))))) hm).mono ?_
    rintro e wv ⟨rfl, hb⟩
    have Gv : Hid (Below w.heap.size w wv) := belU hb (by (repeat' (first | (with_reducible exact Below.refl _ _) | (with_reducible refine belS ?_ (by first | omega | (simp; done) | (simp; omega) | (simp only [World.size_alloc, World.size_setCell, World.size_drew] at *; omega))) | (with_reducible refine belA ?_ (by first | omega | (simp; done) | (simp; omega) | (simp only [World.size_alloc, World.size_setCell, World.size_drew] at *; omega))) | (with_reducible refine bel_drewN ?_ _) | (with_reducible refine Below.drew ?_) | (with_reducible assumption) | (refine Hid.out ?_; with_reducible assumption) | (apply belV; (with_reducible assumption); exact (by first | omega | (simp; done) | (simp; omega) | (simp only [World.size_alloc, World.size_setCell, World.size_drew] at *; omega)))))) (by first | omega | (simp; done) | (simp; omega) | (simp only [World.size_alloc, World.size_setCell, World.size_drew] at *; omega))
    have zv := hb.size
    (try simp at zv)
    have Dv := Lib.hid hb; clear hb
    rw [h1]
    go_wp2_with fail
    go_ret2
    exact FlowEnd.no E.out (by (repeat' (first | (with_reducible exact Below.refl _ _) | (with_reducible refine belS ?_ (by first | omega | (simp; done) | (simp; omega) | (simp only [World.size_alloc, World.size_setCell, World.size_drew] at *; omega))) | (with_reducible refine belA ?_ (by first | omega | (simp; done) | (simp; omega) | (simp only [World.size_alloc, World.size_setCell, World.size_drew] at *; omega))) | (with_reducible refine bel_drewN ?_ _) | (with_reducible refine Below.drew ?_) | (with_reducible assumption) | (refine Hid.out ?_; with_reducible assumption) | (apply belV; (with_reducible assumption); exact (by first | omega | (simp; done) | (simp; omega) | (simp only [World.size_alloc, World.size_setCell, World.size_drew] at *; omega))))))
  by_cases h2 : m' = m
  rotate_left
  · have E := Lib.hid (flow_2 (n := n) (s := s) (t := t) (ts := ts) (fs := fs) (by rw [HL.out, HL'.out]; exact h2))
    have hd : ((m' : Int) != (m : Int)) = true := by simp; omega
    go_enter Try.func42, Try.ntmps42
    go_wp2_with fail
    refine (impl_validNetwork _ _ _ n s t ts _ (HI.out.below (by (repeat' (first | (with_reducible exact Below.refl _ _) | (with_reducible refine belS ?_ (by first | omega | (simp; done) | (simp; omega) | (simp only [World.size_alloc, World.size_setCell, World.size_drew] at *; omega))) | (with_reducible refine belA ?_ (by first | omega | (simp; done) | (simp; omega) | (simp only [World.size_alloc, World.size_setCell, World.size_drew] at *; omega))) | (with_reducible refine bel_drewN ?_ _) | (with_reducible refine Below.drew ?_) | (with_reducible assumption) | (refine Hid.out ?_; with_reducible assumption) | (apply belV; (with_reducible assumption); exact (by first | omega | (simp; done) | (simp; omega) | (simp only [World.size_alloc, World.size_setCell, World.size_drew] at *; omega))))))) hm).mono ?_
    rintro e wv ⟨rfl, hb⟩
    have Gv : Hid (Below w.heap.size w wv) := belU hb (by (repeat' (first | (with_reducible exact Below.refl _ _) | (with_reducible refine belS ?_ (by first | omega | (simp; done) | (simp; omega) | (simp only [World.size_alloc, World.size_setCell, World.size_drew] at *; omega))) | (with_reducible refine belA ?_ (by first | omega | (simp; done) | (simp; omega) | (simp only [World.size_alloc, World.size_setCell, World.size_drew] at *; omega))) | (with_reducible refine bel_drewN ?_ _) | (with_reducible refine Below.drew ?_) | (with_reducible assumption) | (refine Hid.out ?_; with_reducible assumption) | (apply belV; (with_reducible assumption); exact (by first | omega | (simp; done) | (simp; omega) | (simp only [World.size_alloc, World.size_setCell, World.size_drew] at *; omega)))))) (by first | omega | (simp; done) | (simp; omega) | (simp only [World.size_alloc, World.size_setCell, World.size_drew] at *; omega))
    have zv := hb.size
    (try simp at zv)
    have Dv := Lib.hid hb; clear hb
    rw [h1]
    go_wp2_with fail
    go_ret2
    exact FlowEnd.no E.out (by (repeat' (first | (with_reducible exact Below.refl _ _) | (with_reducible refine belS ?_ (by first | omega | (simp; done) | (simp; omega) | (simp only [World.size_alloc, World.size_setCell, World.size_drew] at *; omega))) | (with_reducible refine belA ?_ (by first | omega | (simp; done) | (simp; omega) | (simp only [World.size_alloc, World.size_setCell, World.size_drew] at *; omega))) | (with_reducible refine bel_drewN ?_ _) | (with_reducible refine Below.drew ?_) | (with_reducible assumption) | (refine Hid.out ?_; with_reducible assumption) | (apply belV; (with_reducible assumption); exact (by first | omega | (simp; done) | (simp; omega) | (simp only [World.size_alloc, World.size_setCell, World.size_drew] at *; omega))))))
  subst h2
  have NF := Lib.hid (netB_facts h1)
  have NB := Lib.hid h1
  obtain ⟨⟨n0, n1⟩, h12, ⟨⟨s0, s1⟩, ⟨t0, t1⟩, hst⟩, -⟩ := NF.out
  rw [HL.out] at h12
  obtain ⟨N, rfl⟩ := Int.eq_ofNat_of_zero_le (show 0 ≤ n by omega)
  obtain ⟨S, rfl⟩ := Int.eq_ofNat_of_zero_le s0
  have N8 : N ≤ 8 := by omega
  have hS : S < N := by omega
  have F3 := Lib.hid (fun k hk h => flow_3 (n := (N : Int)) (s := (S : Int)) (t := t) (ts := ts) (fs := fs) (k := k) hk h)
  have F4 := Lib.hid (fun h => flow_4 (n := (N : Int)) (s := (S : Int)) (t := t) (ts := ts) (fs := fs) h)
  have F5 := Lib.hid (fun h3 h4 => flow_5 (n := (N : Int)) (s := (S : Int)) (t := t) (ts := ts) (fs := fs) h1 (by rw [HL.out, HL'.out]) h3 h4)
  obtain ⟨i0, hi0, hz0, hz1, hz2⟩ := info_parts info_int
  have hmk := fun W => run_makeN (P := Try.prog) 22 3 i0 _ Try.underlying22 hi0 hz0 N (by rw [hz2]; omega) (by omega) W
  simp only [hz1] at hmk
  clear hst
  go_enter Try.func42, Try.ntmps42
  go_wp2_with fail
  refine (impl_validNetwork _ _ _ (N : Int) (S : Int) t ts _ (HI.out.below (by (repeat' (first | (with_reducible exact Below.refl _ _) | (with_reducible refine belS ?_ (by first | omega | (simp; done) | (simp; omega) | (simp only [World.size_alloc, World.size_setCell, World.size_drew] at *; omega))) | (with_reducible refine belA ?_ (by first | omega | (simp; done) | (simp; omega) | (simp only [World.size_alloc, World.size_setCell, World.size_drew] at *; omega))) | (with_reducible refine bel_drewN ?_ _) | (with_reducible refine Below.drew ?_) | (with_reducible assumption) | (refine Hid.out ?_; with_reducible assumption) | (apply belV; (with_reducible assumption); exact (by first | omega | (simp; done) | (simp; omega) | (simp only [World.size_alloc, World.size_setCell, World.size_drew] at *; omega))))))) hm).mono ?_
  rintro e wv ⟨rfl, hb⟩
  have Gv : Hid (Below w.heap.size w wv) := belU hb (by (repeat' (first | (with_reducible exact Below.refl _ _) | (with_reducible refine belS ?_ (by first | omega | (simp; done) | (simp; omega) | (simp only [World.size_alloc, World.size_setCell, World.size_drew] at *; omega))) | (with_reducible refine belA ?_ (by first | omega | (simp; done) | (simp; omega) | (simp only [World.size_alloc, World.size_setCell, World.size_drew] at *; omega))) | (with_reducible refine bel_drewN ?_ _) | (with_reducible refine Below.drew ?_) | (with_reducible assumption) | (refine Hid.out ?_; with_reducible assumption) | (apply belV; (with_reducible assumption); exact (by first | omega | (simp; done) | (simp; omega) | (simp only [World.size_alloc, World.size_setCell, World.size_drew] at *; omega)))))) (by first | omega | (simp; done) | (simp; omega) | (simp only [World.size_alloc, World.size_setCell, World.size_drew] at *; omega))
  have zv := hb.size
  (try simp at zv)
  have Dv := Lib.hid hb; clear hb
  rw [h1]
  clear h1
  go_wp2_with fail
  go_loopw [13, 14, 34] (fun s13 s14 s34 wr => ∃ (k : Nat) (u13 u14 : Value), k ≤ m' ∧ u13 = s13 ∧ u14 = s14 ∧ s34 = .int .i64 k ∧ Hid (fAll ts fs k = true) ∧ Hid (OwnI wr wv.heap.size (sTab N ts fs k)) ∧ Hid (Below w.heap.size w wr)) (fun _ _ s34 _ => m' - (intOf s34).toNat)
  case atStart => exact ⟨0, _, _, by omega, rfl, rfl, rfl, Lib.hid (fAll_0 _ _), Lib.hid (OwnI.made _ _ _), by (refine Lib.hid ?_; (repeat' (first | (with_reducible exact Below.refl _ _) | (with_reducible refine belS ?_ (by first | omega | (simp; done) | (simp; omega) | (simp only [World.size_alloc, World.size_setCell, World.size_drew] at *; omega))) | (with_reducible refine belA ?_ (by first | omega | (simp; done) | (simp; omega) | (simp only [World.size_alloc, World.size_setCell, World.size_drew] at *; omega))) | (with_reducible refine bel_drewN ?_ _) | (with_reducible refine Below.drew ?_) | (with_reducible assumption) | (refine Hid.out ?_; with_reducible assumption) | (apply belV; (with_reducible assumption); exact (by first | omega | (simp; done) | (simp; omega) | (simp only [World.size_alloc, World.size_setCell, World.size_drew] at *; omega))))))⟩
  case round =>
    obtain ⟨k, u13, u14, hk, rfl, rfl, rfl, hal, hown, hbel⟩ := hrel
    have z0 := hbel.out.size
    have z1 := hown.out.1
    by_cases hlt : k < m'
    · obtain ⟨b, off, x, y, z, rfl, hb, hx, ix, iy, iz, c0, c1, c2⟩ := (HI.out.below hbel.out).at_ hlt
      obtain ⟨bf, off', f, rfl, hbf, hf0, flo, fhi, cf⟩ := (HJ.out.below hbel.out).at_ hlt
      have hbfw : bf < w.heap.size := by
        obtain ⟨b9, off9, f9, e9, h9, _⟩ := HJ.out.at_ hlt
        injection e9 with e9; injection e9 with e9 _; omega
      have HX := Lib.hid hx; clear hx ix iy
      have HF := Lib.hid hf0; clear hf0
      obtain ⟨⟨x0, x1⟩, ⟨y0, y1⟩, hxy, zz0, zz1⟩ := NF.out.2.2.2 k x y z HX.out
      obtain ⟨i, rfl⟩ := Int.eq_ofNat_of_zero_le x0
      obtain ⟨j, rfl⟩ := Int.eq_ofNat_of_zero_le y0
      have hi : i < N := by omega
      have hj : j < N := by omega
      have hij : ¬ i = j := by omega
      clear hxy x0 x1 y0 y1
      cases hf : inB f 0 z
      · have E := Lib.hid (F3.out k (by rw [HL.out]; exact hlt) ((fOk_at HX.out HF.out).trans hf))
        go_wp2_with fail
        go_quiet ((go_at_call 88; exact q_same (impl_inRange _ _ _ _)))
        go_wp2_with fail
        go_ret2
        exact FlowEnd.no E.out (by (repeat' (first | (with_reducible exact Below.refl _ _) | (with_reducible refine belS ?_ (by first | omega | (simp; done) | (simp; omega) | (simp only [World.size_alloc, World.size_setCell, World.size_drew] at *; omega))) | (with_reducible refine belA ?_ (by first | omega | (simp; done) | (simp; omega) | (simp only [World.size_alloc, World.size_setCell, World.size_drew] at *; omega))) | (with_reducible refine bel_drewN ?_ _) | (with_reducible refine Below.drew ?_) | (with_reducible assumption) | (refine Hid.out ?_; with_reducible assumption) | (apply belV; (with_reducible assumption); exact (by first | omega | (simp; done) | (simp; omega) | (simp only [World.size_alloc, World.size_setCell, World.size_drew] at *; omega))))))
      obtain ⟨f0, f1⟩ := inB_iff.1 hf
      obtain ⟨tv, htv⟩ : ∃ v, v = (sTab N ts fs k).getD i 0 := ⟨_, rfl⟩
      obtain ⟨tu, htu⟩ : ∃ v, v = (sTab N ts fs k).getD j 0 := ⟨_, rfl⟩
      have tvb := sTab_bd (n := N) NB.out k (by rw [HL.out]; omega) hal.out i
      have tub := sTab_bd (n := N) NB.out k (by rw [HL.out]; omega) hal.out j
      rw [← htv] at tvb
      rw [← htu] at tub
      obtain ⟨tv0, tv1⟩ := tvb
      obtain ⟨tu0, tu1⟩ := tub
      obtain ⟨tc, tf⟩ := hown.out.at_ (k := i) (by rw [sTab_len]; exact hi)
      obtain ⟨uc, uf⟩ := hown.out.at_ (k := j) (by rw [sTab_len]; exact hj)
      rw [← htv] at tc
      have Q0 : Hid ((sTab N ts fs k)[i]? = some tv) := Lib.hid (by rw [htv]; exact getD_mem (by rw [sTab_len]; exact hi))
      have gj : ((sTab N ts fs k).set i (tv + f)).getD j 0 = tu := by rw [jSet, if_neg (fun e => hij e.1), htu]
      have Q1 : Hid (((sTab N ts fs k).set i (tv + f))[j]? = some tu) := Lib.hid (by rw [← gj]; exact getD_mem (by rw [sT_len1]; exact hj))
      have GJ := Lib.hid gj; clear gj
      have NX : Hid (sTab N ts fs (k + 1) = ((sTab N ts fs k).set i (tv + f)).set j (tu - f)) := Lib.hid (by rw [sTab_step HX.out HF.out, ← htv, GJ.out])
      have NA := Lib.hid (fAll_yes hal.out ((fOk_at HX.out HF.out).trans hf))
      clear htv htu uc
      have wk1 : IntKind.i64.wrap (tv + f) = tv + f := IntWalk.i64_in _ ⟨by omega, by omega⟩
      have wk2 : IntKind.i64.wrap (tu - f) = tu - f := IntWalk.i64_in _ ⟨by omega, by omega⟩
      go_wp2_with fail
      go_quiet ((go_at_call 88; exact q_same (impl_inRange _ _ _ _)))
      go_wp2_with fail
      refine regionE 11 (fun w' => w'.cell? ⟨wr.heap.size, 0, none⟩ = some (.int .i64 i) ∧ w'.cell? ⟨wv.heap.size, i, none⟩ = some (.int .i64 tv) ∧ w'.cell? ⟨bf, off' + k, none⟩ = some (.int .i64 f)) (by kernel_rfl) ?_ (fun hHeld => ?_)
      · (refine (fun (h0 : Box _ wr.heap.size #[.int .i64 i, .int .i64 j, .int .i64 z]) h1 h2 => ⟨h0.at 0 rfl, h1, h2⟩) ?_ (cell_by (W := wr) (by (repeat' (first | (with_reducible exact Below.refl _ _) | (with_reducible refine belS ?_ (by first | omega | (simp; done) | (simp; omega) | (simp only [World.size_alloc, World.size_setCell, World.size_drew] at *; omega))) | (with_reducible refine belA ?_ (by first | omega | (simp; done) | (simp; omega) | (simp only [World.size_alloc, World.size_setCell, World.size_drew] at *; omega))) | (with_reducible refine bel_drewN ?_ _) | (with_reducible refine Below.drew ?_) | (with_reducible assumption) | (refine Hid.out ?_; with_reducible assumption) | (apply belV; (with_reducible assumption); exact (by first | omega | (simp; done) | (simp; omega) | (simp only [World.size_alloc, World.size_setCell, World.size_drew] at *; omega)))))) z1 tc) (cell_by (W := wr) (by (repeat' (first | (with_reducible exact Below.refl _ _) | (with_reducible refine belS ?_ (by first | omega | (simp; done) | (simp; omega) | (simp only [World.size_alloc, World.size_setCell, World.size_drew] at *; omega))) | (with_reducible refine belA ?_ (by first | omega | (simp; done) | (simp; omega) | (simp only [World.size_alloc, World.size_setCell, World.size_drew] at *; omega))) | (with_reducible refine bel_drewN ?_ _) | (with_reducible refine Below.drew ?_) | (with_reducible assumption) | (refine Hid.out ?_; with_reducible assumption) | (apply belV; (with_reducible assumption); exact (by first | omega | (simp; done) | (simp; omega) | (simp only [World.size_alloc, World.size_setCell, World.size_drew] at *; omega)))))) hbf cf); (focus ((repeat' (first | (with_reducible exact Box.new _ _ _ (by first | omega | (simp; done) | (simp; omega) | (simp only [World.size_alloc, World.size_setCell, World.size_drew] at *; omega))) | (with_reducible refine Box.far ?_ (by first | omega | (simp; done) | (simp; omega) | (simp only [World.size_alloc, World.size_setCell, World.size_drew] at *; omega)) _) | (apply Box.put3_0) | (apply Box.put3_1) | (apply Box.put3_2) | (apply Box.put2_0) | (apply Box.put2_1) | (with_reducible refine Box.alloc ?_ _) | (with_reducible refine Box.drewN ?_ _) | (with_reducible refine Box.drew ?_) | (with_reducible assumption) | (refine Hid.out ?_; with_reducible assumption) | (apply Box.only; (with_reducible assumption); exact (by first | omega | (simp; done) | (simp; omega) | (simp only [World.size_alloc, World.size_setCell, World.size_drew] at *; omega))) | (apply Box.belowD; (with_reducible assumption)))); done)))
      refine takeE (i := 0) (d := 47) (v := ?_) (by kernel_rfl) (by kernel_rfl) (by kernel_rfl) (by kernel_rfl) (fun _ _ _ h => h) (by assumption) ⟨?_, ?_, ?_, ?_, ?_⟩ ?_
      rotate_left
      rotate_left
      · (try simp only [List.getElem?_toArray, List.getElem?_cons_succ, List.getElem?_cons_zero]); exact rfl
      · rfl
      · rfl
      · intro w' hSw; (try dsimp only at hSw); go_simp; (try with_reducible rfl)
      (try simp only [Act.put, List.setIfInBounds_toArray, List.set_cons_zero, List.set_cons_succ])
      refine takeE (i := 1) (d := 48) (v := ?_) (by kernel_rfl) (by kernel_rfl) (by kernel_rfl) (by kernel_rfl) (fun _ _ _ h => h) (by assumption) ⟨?_, ?_, ?_, ?_, ?_⟩ ?_
      rotate_left
      rotate_left
      · (try simp only [List.getElem?_toArray, List.getElem?_cons_succ, List.getElem?_cons_zero]); exact rfl
      · rfl
      · rfl
      · intro w' hSw; (try dsimp only at hSw); go_simp; (try with_reducible rfl)
      (try simp only [Act.put, List.setIfInBounds_toArray, List.set_cons_zero, List.set_cons_succ])
      refine takeE (i := 2) (d := 49) (v := ?_) (by kernel_rfl) (by kernel_rfl) (by kernel_rfl) (by kernel_rfl) (fun _ _ _ h => h) (by assumption) ⟨?_, ?_, ?_, ?_, ?_⟩ ?_
      rotate_left
      rotate_left
      · (try simp only [List.getElem?_toArray, List.getElem?_cons_succ, List.getElem?_cons_zero]); exact rfl
      · rfl
      · rfl
      · intro w' hSw; (try dsimp only at hSw); go_simp; (try with_reducible rfl)
      (try simp only [Act.put, List.setIfInBounds_toArray, List.set_cons_zero, List.set_cons_succ])
      refine takeE (i := 3) (d := 50) (v := ?_) (by kernel_rfl) (by kernel_rfl) (by kernel_rfl) (by kernel_rfl) (fun _ _ _ h => h) (by assumption) ⟨?_, ?_, ?_, ?_, ?_⟩ ?_
      rotate_left
      rotate_left
      · (try simp only [List.getElem?_toArray, List.getElem?_cons_succ, List.getElem?_cons_zero]); exact rfl
      · rfl
      · rfl
      · intro w' hSw; (try dsimp only at hSw); go_simp; (try with_reducible rfl)
      (try simp only [Act.put, List.setIfInBounds_toArray, List.set_cons_zero, List.set_cons_succ])
      refine takeE (i := 4) (d := 51) (v := ?_) (by kernel_rfl) (by kernel_rfl) (by kernel_rfl) (by kernel_rfl) (fun _ _ _ h => h) (by assumption) ⟨?_, ?_, ?_, ?_, ?_⟩ ?_
      rotate_left
      rotate_left
      · (try simp only [List.getElem?_toArray, List.getElem?_cons_succ, List.getElem?_cons_zero]); exact rfl
      · rfl
      · rfl
      · intro w' hSw; (try dsimp only at hSw); go_simp; (try with_reducible rfl)
      (try simp only [Act.put, List.setIfInBounds_toArray, List.set_cons_zero, List.set_cons_succ])
      refine takeE (i := 5) (d := 52) (v := ?_) (by kernel_rfl) (by kernel_rfl) (by kernel_rfl) (by kernel_rfl) (fun _ _ _ h => h) (by assumption) ⟨?_, ?_, ?_, ?_, ?_⟩ ?_
      rotate_left
      rotate_left
      · (try simp only [List.getElem?_toArray, List.getElem?_cons_succ, List.getElem?_cons_zero]); exact rfl
      · rfl
      · rfl
      · intro w' hSw; (try dsimp only at hSw); go_simp; (try with_reducible rfl)
      (try simp only [Act.put, List.setIfInBounds_toArray, List.set_cons_zero, List.set_cons_succ])
      refine takeE (i := 6) (d := 53) (v := ?_) (by kernel_rfl) (by kernel_rfl) (by kernel_rfl) (by kernel_rfl) (fun _ _ _ h => h) (by assumption) ⟨?_, ?_, ?_, ?_, ?_⟩ ?_
      rotate_left
      rotate_left
      · (try simp only [List.getElem?_toArray, List.getElem?_cons_succ, List.getElem?_cons_zero]); exact rfl
      · rfl
      · rfl
      · intro w' hSw; (try dsimp only at hSw); go_simp; (try with_reducible rfl)
      (try simp only [Act.put, List.setIfInBounds_toArray, List.set_cons_zero, List.set_cons_succ])
      refine takeE (i := 7) (d := 54) (v := ?_) (by kernel_rfl) (by kernel_rfl) (by kernel_rfl) (by kernel_rfl) (fun _ _ _ h => h) (by assumption) ⟨?_, ?_, ?_, ?_, ?_⟩ ?_
      rotate_left
      rotate_left
      · (try simp only [List.getElem?_toArray, List.getElem?_cons_succ, List.getElem?_cons_zero]); exact rfl
      · rfl
      · rfl
      · intro w' hSw; (try dsimp only at hSw); go_simp; (try with_reducible rfl)
      (try simp only [Act.put, List.setIfInBounds_toArray, List.set_cons_zero, List.set_cons_succ])
      refine takeE (i := 8) (d := 55) (v := ?_) (by kernel_rfl) (by kernel_rfl) (by kernel_rfl) (by kernel_rfl) (fun _ _ _ h => h) (by assumption) ⟨?_, ?_, ?_, ?_, ?_⟩ ?_
      rotate_left
      rotate_left
      · (try simp only [List.getElem?_toArray, List.getElem?_cons_succ, List.getElem?_cons_zero]); exact rfl
      · rfl
      · rfl
      · intro w' hSw; (try dsimp only at hSw); go_simp; (try with_reducible rfl)
      (try simp only [Act.put, List.setIfInBounds_toArray, List.set_cons_zero, List.set_cons_succ])
      refine takeE (i := 9) (d := 56) (v := ?_) (by kernel_rfl) (by kernel_rfl) (by kernel_rfl) (by kernel_rfl) (fun _ _ _ h => h) (by assumption) ⟨?_, ?_, ?_, ?_, ?_⟩ ?_
      rotate_left
      rotate_left
      · (try simp only [List.getElem?_toArray, List.getElem?_cons_succ, List.getElem?_cons_zero]); exact rfl
      · rfl
      · rfl
      · intro w' hSw; (try dsimp only at hSw); go_simp; (try with_reducible rfl)
      (try simp only [Act.put, List.setIfInBounds_toArray, List.set_cons_zero, List.set_cons_succ])
      refine takeE (i := 10) (d := 57) (v := ?_) (by kernel_rfl) (by kernel_rfl) (by kernel_rfl) (by kernel_rfl) (fun _ _ _ h => h) (by assumption) ⟨?_, ?_, ?_, ?_, ?_⟩ ?_
      rotate_left
      rotate_left
      · (try simp only [List.getElem?_toArray, List.getElem?_cons_succ, List.getElem?_cons_zero]); exact rfl
      · rfl
      · rfl
      · intro w' hSw; (try dsimp only at hSw); go_simp; (try with_reducible rfl)
      (try simp only [Act.put, List.setIfInBounds_toArray, List.set_cons_zero, List.set_cons_succ])
      refine lastE (o := ?_) (by kernel_rfl) ?_ (fun K hK => ?_)
      rotate_left
      · (try simp only [List.getElem?_toArray, List.getElem?_cons_succ, List.getElem?_cons_zero]); exact rfl
      go_simp
      go_wp2_with fail
      refine hK.out _ _ ?_
      clear hK K
      (try simp only [Act.put, List.setIfInBounds_toArray, List.set_cons_zero, List.set_cons_succ])
      refine doneE (by kernel_rfl) ?_ _
      go_wp2_with fail
      refine regionE 11 (fun w' => w'.cell? ⟨wr.heap.size, 1, none⟩ = some (.int .i64 j) ∧ w'.cell? ⟨wv.heap.size, j, none⟩ = some (.int .i64 tu) ∧ w'.cell? ⟨bf, off' + k, none⟩ = some (.int .i64 f)) (by kernel_rfl) ?_ (fun hHeld => ?_)
      · (refine (fun (h0 : Box _ wr.heap.size #[.int .i64 i, .int .i64 j, .int .i64 z]) h1 h2 => ⟨h0.at 1 rfl, h1, h2⟩) ?_ (GJ.out ▸ ((OwnI.drew (OwnI.set_ (by (repeat' (first | (with_reducible exact OwnI.madeAt _ _ _ (by first | omega | (simp; done) | (simp; omega) | (simp only [World.size_alloc, World.size_setCell, World.size_drew] at *; omega))) | (with_reducible refine OwnI.far ?_ (by first | omega | (simp; done) | (simp; omega) | (simp only [World.size_alloc, World.size_setCell, World.size_drew] at *; omega)) _) | (with_reducible refine OwnI.alloc ?_ _) | (with_reducible refine OwnI.drewN ?_ _) | (with_reducible refine OwnI.drew ?_) | (with_reducible assumption) | (refine Hid.out ?_; with_reducible assumption) | (apply OwnI.turn; (with_reducible assumption); exact (by first | omega | (simp; done) | (simp; omega) | (simp only [World.size_alloc, World.size_setCell, World.size_drew] at *; omega))) | (apply OwnI.only; (with_reducible assumption); exact (by first | omega | (simp; done) | (simp; omega) | (simp only [World.size_alloc, World.size_setCell, World.size_drew] at *; omega))) | (apply OwnI.belowD; (with_reducible assumption))))) Q0.out (tv + f))).at_ (k := j) (by rw [sT_len1]; exact hj)).1) (by simp only [World.cell?_drew]; exact cell_far (cell_by (W := wr) (by (repeat' (first | (with_reducible exact Below.refl _ _) | (with_reducible refine belS ?_ (by first | omega | (simp; done) | (simp; omega) | (simp only [World.size_alloc, World.size_setCell, World.size_drew] at *; omega))) | (with_reducible refine belA ?_ (by first | omega | (simp; done) | (simp; omega) | (simp only [World.size_alloc, World.size_setCell, World.size_drew] at *; omega))) | (with_reducible refine bel_drewN ?_ _) | (with_reducible refine Below.drew ?_) | (with_reducible assumption) | (refine Hid.out ?_; with_reducible assumption) | (apply belV; (with_reducible assumption); exact (by first | omega | (simp; done) | (simp; omega) | (simp only [World.size_alloc, World.size_setCell, World.size_drew] at *; omega)))))) hbf cf) (by first | omega | (simp; done) | (simp; omega) | (simp only [World.size_alloc, World.size_setCell, World.size_drew] at *; omega))); (focus ((repeat' (first | (with_reducible exact Box.new _ _ _ (by first | omega | (simp; done) | (simp; omega) | (simp only [World.size_alloc, World.size_setCell, World.size_drew] at *; omega))) | (with_reducible refine Box.far ?_ (by first | omega | (simp; done) | (simp; omega) | (simp only [World.size_alloc, World.size_setCell, World.size_drew] at *; omega)) _) | (apply Box.put3_0) | (apply Box.put3_1) | (apply Box.put3_2) | (apply Box.put2_0) | (apply Box.put2_1) | (with_reducible refine Box.alloc ?_ _) | (with_reducible refine Box.drewN ?_ _) | (with_reducible refine Box.drew ?_) | (with_reducible assumption) | (refine Hid.out ?_; with_reducible assumption) | (apply Box.only; (with_reducible assumption); exact (by first | omega | (simp; done) | (simp; omega) | (simp only [World.size_alloc, World.size_setCell, World.size_drew] at *; omega))) | (apply Box.belowD; (with_reducible assumption)))); done)))
      refine takeE (i := 0) (d := 58) (v := ?_) (by kernel_rfl) (by kernel_rfl) (by kernel_rfl) (by kernel_rfl) (fun _ _ _ h => h) (by assumption) ⟨?_, ?_, ?_, ?_, ?_⟩ ?_
      rotate_left
      rotate_left
      · (try simp only [List.getElem?_toArray, List.getElem?_cons_succ, List.getElem?_cons_zero]); exact rfl
      · rfl
      · rfl
      · intro w' hSw; (try dsimp only at hSw); go_simp; (try with_reducible rfl)
      (try simp only [Act.put, List.setIfInBounds_toArray, List.set_cons_zero, List.set_cons_succ])
      refine takeE (i := 1) (d := 59) (v := ?_) (by kernel_rfl) (by kernel_rfl) (by kernel_rfl) (by kernel_rfl) (fun _ _ _ h => h) (by assumption) ⟨?_, ?_, ?_, ?_, ?_⟩ ?_
      rotate_left
      rotate_left
      · (try simp only [List.getElem?_toArray, List.getElem?_cons_succ, List.getElem?_cons_zero]); exact rfl
      · rfl
      · rfl
      · intro w' hSw; (try dsimp only at hSw); go_simp; (try with_reducible rfl)
      (try simp only [Act.put, List.setIfInBounds_toArray, List.set_cons_zero, List.set_cons_succ])
      refine takeE (i := 2) (d := 60) (v := ?_) (by kernel_rfl) (by kernel_rfl) (by kernel_rfl) (by kernel_rfl) (fun _ _ _ h => h) (by assumption) ⟨?_, ?_, ?_, ?_, ?_⟩ ?_
      rotate_left
      rotate_left
      · (try simp only [List.getElem?_toArray, List.getElem?_cons_succ, List.getElem?_cons_zero]); exact rfl
      · rfl
      · rfl
      · intro w' hSw; (try dsimp only at hSw); go_simp; (try with_reducible rfl)
      (try simp only [Act.put, List.setIfInBounds_toArray, List.set_cons_zero, List.set_cons_succ])
      refine takeE (i := 3) (d := 61) (v := ?_) (by kernel_rfl) (by kernel_rfl) (by kernel_rfl) (by kernel_rfl) (fun _ _ _ h => h) (by assumption) ⟨?_, ?_, ?_, ?_, ?_⟩ ?_
      rotate_left
      rotate_left
      · (try simp only [List.getElem?_toArray, List.getElem?_cons_succ, List.getElem?_cons_zero]); exact rfl
      · rfl
      · rfl
      · intro w' hSw; (try dsimp only at hSw); go_simp; (try with_reducible rfl)
      (try simp only [Act.put, List.setIfInBounds_toArray, List.set_cons_zero, List.set_cons_succ])
      refine takeE (i := 4) (d := 62) (v := ?_) (by kernel_rfl) (by kernel_rfl) (by kernel_rfl) (by kernel_rfl) (fun _ _ _ h => h) (by assumption) ⟨?_, ?_, ?_, ?_, ?_⟩ ?_
      rotate_left
      rotate_left
      · (try simp only [List.getElem?_toArray, List.getElem?_cons_succ, List.getElem?_cons_zero]); exact rfl
      · rfl
      · rfl
      · intro w' hSw; (try dsimp only at hSw); go_simp; (try with_reducible rfl)
      (try simp only [Act.put, List.setIfInBounds_toArray, List.set_cons_zero, List.set_cons_succ])
      refine takeE (i := 5) (d := 63) (v := ?_) (by kernel_rfl) (by kernel_rfl) (by kernel_rfl) (by kernel_rfl) (fun _ _ _ h => h) (by assumption) ⟨?_, ?_, ?_, ?_, ?_⟩ ?_
      rotate_left
      rotate_left
      · (try simp only [List.getElem?_toArray, List.getElem?_cons_succ, List.getElem?_cons_zero]); exact rfl
      · rfl
      · rfl
      · intro w' hSw; (try dsimp only at hSw); go_simp; (try with_reducible rfl)
      (try simp only [Act.put, List.setIfInBounds_toArray, List.set_cons_zero, List.set_cons_succ])
      refine takeE (i := 6) (d := 64) (v := ?_) (by kernel_rfl) (by kernel_rfl) (by kernel_rfl) (by kernel_rfl) (fun _ _ _ h => h) (by assumption) ⟨?_, ?_, ?_, ?_, ?_⟩ ?_
      rotate_left
      rotate_left
      · (try simp only [List.getElem?_toArray, List.getElem?_cons_succ, List.getElem?_cons_zero]); exact rfl
      · rfl
      · rfl
      · intro w' hSw; (try dsimp only at hSw); go_simp; (try with_reducible rfl)
      (try simp only [Act.put, List.setIfInBounds_toArray, List.set_cons_zero, List.set_cons_succ])
      refine takeE (i := 7) (d := 65) (v := ?_) (by kernel_rfl) (by kernel_rfl) (by kernel_rfl) (by kernel_rfl) (fun _ _ _ h => h) (by assumption) ⟨?_, ?_, ?_, ?_, ?_⟩ ?_
      rotate_left
      rotate_left
      · (try simp only [List.getElem?_toArray, List.getElem?_cons_succ, List.getElem?_cons_zero]); exact rfl
      · rfl
      · rfl
      · intro w' hSw; (try dsimp only at hSw); go_simp; (try with_reducible rfl)
      (try simp only [Act.put, List.setIfInBounds_toArray, List.set_cons_zero, List.set_cons_succ])
      refine takeE (i := 8) (d := 66) (v := ?_) (by kernel_rfl) (by kernel_rfl) (by kernel_rfl) (by kernel_rfl) (fun _ _ _ h => h) (by assumption) ⟨?_, ?_, ?_, ?_, ?_⟩ ?_
      rotate_left
      rotate_left
      · (try simp only [List.getElem?_toArray, List.getElem?_cons_succ, List.getElem?_cons_zero]); exact rfl
      · rfl
      · rfl
      · intro w' hSw; (try dsimp only at hSw); go_simp; (try with_reducible rfl)
      (try simp only [Act.put, List.setIfInBounds_toArray, List.set_cons_zero, List.set_cons_succ])
      refine takeE (i := 9) (d := 67) (v := ?_) (by kernel_rfl) (by kernel_rfl) (by kernel_rfl) (by kernel_rfl) (fun _ _ _ h => h) (by assumption) ⟨?_, ?_, ?_, ?_, ?_⟩ ?_
      rotate_left
      rotate_left
      · (try simp only [List.getElem?_toArray, List.getElem?_cons_succ, List.getElem?_cons_zero]); exact rfl
      · rfl
      · rfl
      · intro w' hSw; (try dsimp only at hSw); go_simp; (try with_reducible rfl)
      (try simp only [Act.put, List.setIfInBounds_toArray, List.set_cons_zero, List.set_cons_succ])
      refine takeE (i := 10) (d := 68) (v := ?_) (by kernel_rfl) (by kernel_rfl) (by kernel_rfl) (by kernel_rfl) (fun _ _ _ h => h) (by assumption) ⟨?_, ?_, ?_, ?_, ?_⟩ ?_
      rotate_left
      rotate_left
      · (try simp only [List.getElem?_toArray, List.getElem?_cons_succ, List.getElem?_cons_zero]); exact rfl
      · rfl
      · rfl
      · intro w' hSw; (try dsimp only at hSw); go_simp; (try with_reducible rfl)
      (try simp only [Act.put, List.setIfInBounds_toArray, List.set_cons_zero, List.set_cons_succ])
      refine lastE (o := ?_) (by kernel_rfl) ?_ (fun K hK => ?_)
      rotate_left
      · (try simp only [List.getElem?_toArray, List.getElem?_cons_succ, List.getElem?_cons_zero]); exact rfl
      go_simp
      go_wp2_with fail
      refine hK.out _ _ ?_
      clear hK K
      (try simp only [Act.put, List.setIfInBounds_toArray, List.set_cons_zero, List.set_cons_succ])
      refine doneE (by kernel_rfl) ?_ _
      go_wp2_with fail
      go_roundw
      case rel => exact ⟨k + 1, _, _, by omega, rfl, rfl, by go_num, NA, Lib.hid (by rw [NX.out]; exact OwnI.set_ (OwnI.drew (OwnI.set_ (by (repeat' (first | (with_reducible exact OwnI.madeAt _ _ _ (by first | omega | (simp; done) | (simp; omega) | (simp only [World.size_alloc, World.size_setCell, World.size_drew] at *; omega))) | (with_reducible refine OwnI.far ?_ (by first | omega | (simp; done) | (simp; omega) | (simp only [World.size_alloc, World.size_setCell, World.size_drew] at *; omega)) _) | (with_reducible refine OwnI.alloc ?_ _) | (with_reducible refine OwnI.drewN ?_ _) | (with_reducible refine OwnI.drew ?_) | (with_reducible assumption) | (refine Hid.out ?_; with_reducible assumption) | (apply OwnI.turn; (with_reducible assumption); exact (by first | omega | (simp; done) | (simp; omega) | (simp only [World.size_alloc, World.size_setCell, World.size_drew] at *; omega))) | (apply OwnI.only; (with_reducible assumption); exact (by first | omega | (simp; done) | (simp; omega) | (simp only [World.size_alloc, World.size_setCell, World.size_drew] at *; omega))) | (apply OwnI.belowD; (with_reducible assumption))))) Q0.out _)) Q1.out _), by (refine Lib.hid ?_; (repeat' (first | (with_reducible exact Below.refl _ _) | (with_reducible refine belS ?_ (by first | omega | (simp; done) | (simp; omega) | (simp only [World.size_alloc, World.size_setCell, World.size_drew] at *; omega))) | (with_reducible refine belA ?_ (by first | omega | (simp; done) | (simp; omega) | (simp only [World.size_alloc, World.size_setCell, World.size_drew] at *; omega))) | (with_reducible refine bel_drewN ?_ _) | (with_reducible refine Below.drew ?_) | (with_reducible assumption) | (refine Hid.out ?_; with_reducible assumption) | (apply belV; (with_reducible assumption); exact (by first | omega | (simp; done) | (simp; omega) | (simp only [World.size_alloc, World.size_setCell, World.size_drew] at *; omega))))))⟩
      case measure => simp [intOf]; omega
    · have hke : k = m' := by omega
      subst hke
      have HAL : Hid (fAll ts fs ts.length = true) := Lib.hid (by rw [HL.out]; exact hal.out)
      have TB : Hid (sTab N ts fs ts.length = sTab N ts fs k) := Lib.hid (by rw [HL.out])
      have BD : Hid (∀ j, -(99 * (k : Int)) ≤ (sTab N ts fs k).getD j 0 ∧ (sTab N ts fs k).getD j 0 ≤ 99 * k) := Lib.hid (sTab_bd (n := N) NB.out k (by rw [HL.out]; exact Nat.le_refl _) hal.out)
      have OW := hown
      have SL : Hid ((sTab N ts fs k).length = N) := Lib.hid (sTab_len _ _ _ _)
      obtain ⟨T, hT⟩ : ∃ T, T = sTab N ts fs k := ⟨_, rfl⟩
      rw [← hT] at TB BD OW SL
      have F4' : Hid (balB T (S : Int) t N = false → flowB (N : Int) ts (S : Int) t fs = false ∧ flowV (N : Int) ts (S : Int) t fs = 0) := Lib.hid (fun h => F4.out (by rw [Int.toNat_natCast, TB.out]; exact h))
      have F5' : Hid (balB T (S : Int) t N = true → flowB (N : Int) ts (S : Int) t fs = true ∧ flowV (N : Int) ts (S : Int) t fs = T.getD S 0) := Lib.hid (fun h => by have := F5.out HAL.out (by rw [Int.toNat_natCast, TB.out]; exact h); rw [Int.toNat_natCast, TB.out, Int.toNat_natCast] at this; exact this)
      clear hT hown hal
      go_wp2_with fail
      go_loopw [15, 16, 72] (fun s15 s16 s72 wq => ∃ (q : Nat) (u15 u16 : Value), q ≤ N ∧ u15 = s15 ∧ u16 = s16 ∧ s72 = .int .i64 q ∧ Hid (balB T (S : Int) t q = true) ∧ Hid (OwnI wq wv.heap.size T) ∧ Hid (Below w.heap.size w wq)) (fun _ _ s72 _ => N - (intOf s72).toNat)
      case atStart => exact ⟨0, _, _, by omega, rfl, rfl, rfl, Lib.hid (balB_0 _ _ _), OW, hbel⟩
      case round =>
        obtain ⟨q, u15, u16, hq, rfl, rfl, rfl, hba, OW2, hbel2⟩ := hrel
        by_cases hlq : q < N
        · obtain ⟨oc, of⟩ := OW2.out.at_ (k := q) (by rw [SL.out]; exact hlq)
          obtain ⟨v, hv⟩ : ∃ v, v = T.getD q 0 := ⟨_, rfl⟩
          rw [← hv] at oc
          have HV := Lib.hid hv; clear hv
          by_cases g1 : (q : Int) = (S : Int)
          · have NX := Lib.hid (balB_yes hba.out (.inl g1))
            have d1 : ((q : Int) != (S : Int)) = false := by simp; omega
            clear g1
            go_wp2_with fail
            go_roundw
            case rel => exact ⟨q + 1, _, _, by omega, rfl, rfl, by go_num, NX, OW2, hbel2⟩
            case measure => simp [intOf]; omega
          have d1 : ((q : Int) != (S : Int)) = true := by simp; omega
          by_cases g2 : (q : Int) = t
          · have NX := Lib.hid (balB_yes hba.out (.inr (.inl g2)))
            have d2 : ((q : Int) != t) = false := by simp; omega
            clear g2
            go_wp2_with fail
            go_roundw
            case rel => exact ⟨q + 1, _, _, by omega, rfl, rfl, by go_num, NX, OW2, hbel2⟩
            case measure => simp [intOf]; omega
          have d2 : ((q : Int) != t) = true := by simp; omega
          by_cases g3 : v = 0
          · have NX := Lib.hid (balB_yes hba.out (.inr (.inr (HV.out ▸ g3))))
            have d3 : (v != 0) = false := by simp [g3]
            clear g1 g2 g3
            go_wp2_with fail
            go_roundw
            case rel => exact ⟨q + 1, _, _, by omega, rfl, rfl, by go_num, NX, OW2, hbel2⟩
            case measure => simp [intOf]; omega
          · have E := Lib.hid (F4'.out (balB_no hlq g1 g2 (HV.out ▸ g3)))
            have d3 : (v != 0) = true := by simp [g3]
            clear g1 g2
            go_wp2_with fail
            go_ret2
            exact FlowEnd.no E.out hbel2.out
        · have hqe : q = N := by omega
          subst hqe
          obtain ⟨oc, of⟩ := OW2.out.at_ (k := S) (by rw [SL.out]; exact hS)
          have E := Lib.hid (F5'.out hba.out)
          go_wp2_with fail
          go_ret2
          exact FlowEnd.yes E.out hbel2.out
end Go.Proofs.Ytjbgjljcgdligaa
