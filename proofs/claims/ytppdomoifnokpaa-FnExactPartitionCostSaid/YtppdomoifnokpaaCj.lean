
/-
  Costs of partitions: the model.
-/
import Derived.Test.YtppdomoifnokpaaCi
import Derived.Test.YtppdomoifnokpaaKu
set_option linter.unusedSimpArgs false
set_option linter.unusedVariables false
namespace Go.Proofs.Ytppdomoifnokpaa
open Go.RowKit

theorem covL_bd (n : Nat) (f : Nat → Nat) (h : ∀ j, f j ≤ 100) : ∀ x ∈ covL n f, I64 x := by
  intro x hx
  obtain ⟨j, _, rfl⟩ := List.mem_map.1 hx
  have := h j
  exact ⟨by omega, by omega⟩

set_option maxHeartbeats 8000000 in
set_option maxRecDepth 100000 in
theorem spec_covered (N : Nat) (m : Int) (A B : Option Addr) (n c q d : Nat) (cs : List PCol) (ps : List Int) (w : World) (em : m = (N : Int)) (hN : N ≤ 5) (hI : ColS w A n cs) (hn : n ≤ 31) (hJ : Ints w B q ps) (hq : q ≤ 31) (ha : ascB ps cs.length = true) (hs : ∀ x ∈ cs, ascB x.s N = true) :
    Calls Try.prog 81 #[.int .i64 m, .slice A n c, .slice B q d] w (SliceEnd (covL N (cnt cs ps q)) w) := by
  subst em
  obtain ⟨i0, hi0, hz0, hz1, hz2⟩ := info_parts info_int
  have HL := Lib.hid hI.len
  have HI := Lib.hid hI; clear hI
  have HJ := Lib.hid hJ; clear hJ
  have HA := Lib.hid ha; clear ha
  have HS := Lib.hid hs; clear hs
  have hmk := fun W => run_makeN (P := Try.prog) 22 3 i0 (.int .i64 0) Try.underlying22 hi0 hz0 N (by rw [hz2]; omega) (by omega) W
  simp only [hz1, Nat.mul_one] at hmk
  go_enter Try.func81, Try.ntmps81
  go_wp2_with fail
  clear hmk
  go_loopw [8, 9, 10] (fun s8 s9 s10 wr => ∃ (k : Nat) (u9 u10 : Value), k ≤ q ∧ s8 = .int .i64 k ∧ u9 = s9 ∧ u10 = s10 ∧ Hid (OwnI wr w.heap.size (covL N (cnt cs ps k))) ∧ Hid (Below w.heap.size w wr)) (fun s8 _ _ _ => q - (intOf s8).toNat)
  case atStart => exact ⟨0, _, _, by omega, rfl, rfl, rfl, Lib.hid (by have e : covL N (cnt cs ps 0) = List.replicate N 0 := covL_zero N; rw [e]; (repeat' (first | (with_reducible exact OwnI.madeAt _ _ _ (by first | omega | (simp; done) | (simp; omega) | (simp only [World.size_alloc, World.size_setCell, World.size_drew] at *; omega))) | (with_reducible refine OwnI.far ?_ (by first | omega | (simp; done) | (simp; omega) | (simp only [World.size_alloc, World.size_setCell, World.size_drew] at *; omega)) _) | (with_reducible refine OwnI.alloc ?_ _) | (with_reducible refine OwnI.drewN ?_ _) | (with_reducible refine OwnI.drew ?_) | (with_reducible assumption) | (refine Hid.out ?_; with_reducible assumption) | (apply OwnI.turn; (with_reducible assumption); exact (by first | omega | (simp; done) | (simp; omega) | (simp only [World.size_alloc, World.size_setCell, World.size_drew] at *; omega))) | (apply OwnI.only; (with_reducible assumption); exact (by first | omega | (simp; done) | (simp; omega) | (simp only [World.size_alloc, World.size_setCell, World.size_drew] at *; omega))) | (apply OwnI.belowD; (with_reducible assumption))))), by (refine Lib.hid ?_; (repeat' (first | (with_reducible exact Below.refl _ _) | (with_reducible refine belS ?_ (by first | omega | (simp; done) | (simp; omega) | (simp only [World.size_alloc, World.size_setCell, World.size_drew] at *; omega))) | (with_reducible refine belA ?_ (by first | omega | (simp; done) | (simp; omega) | (simp only [World.size_alloc, World.size_setCell, World.size_drew] at *; omega))) | (with_reducible refine bel_drewN ?_ _) | (with_reducible refine Below.drew ?_) | (with_reducible assumption) | (refine Hid.out ?_; with_reducible assumption) | (apply belV; (with_reducible assumption); exact (by first | omega | (simp; done) | (simp; omega) | (simp only [World.size_alloc, World.size_setCell, World.size_drew] at *; omega))))))⟩
  case round =>
    obtain ⟨k, u9, u10, hk, rfl, rfl, rfl, hown, hbel⟩ := hrel
    have z0 := hbel.out.size
    by_cases hlt : k < q
    · obtain ⟨b, off, p, rfl, hb, hp, hplo, hphi, hpc⟩ := (HJ.out.below hbel.out).at_ hlt
      obtain ⟨i, x', rfl, hi, hxi, hst, hco⟩ := chosen_at HA.out hp
      have hin : i < n := by have := HL.out; omega
      obtain ⟨b2, off2, x, A', c', rfl, hb2, hx, hxs, lx, mx, hcc, hw0, hw1⟩ := HI.out.at_ hin
      rw [hxi] at hx
      injection hx with hx
      subst hx
      have hc0 := (hbel.out.cell (p := ⟨b2, off2 + i * 2, none⟩) hb2).trans hw0
      have hc1 := (hbel.out.cell (p := ⟨b2, off2 + i * 2 + 1, none⟩) hb2).trans hw1
      have hm5 : x'.s.length ≤ maxLen := Nat.le_trans lx mx
      have hm6 := hm5
      unfold maxLen at hm6
      have HV := Lib.hid hxs
      have HAS := Lib.hid (HS.out x' (List.mem_of_getElem? hxi))
      have HST := Lib.hid hst
      clear hst hco hp hxi hxs hcc hw0 hw1
      have hown0 : Hid (OwnI wr w.heap.size (covL N (cntI cs ps k x'.s 0))) := Lib.hid (by rw [cntI_0]; exact hown.out)
      go_wp2_with fail
      clear hpc hc0 hc1
      go_loopw [10] (fun s10 wr => ∃ j : Nat, j ≤ x'.s.length ∧ s10 = .int .i64 j ∧ Hid (OwnI wr w.heap.size (covL N (cntI cs ps k x'.s j))) ∧ Hid (Below w.heap.size w wr)) (fun s10 _ => x'.s.length - (intOf s10).toNat)
      case atStart => exact ⟨0, by omega, rfl, hown0, hbel⟩
      case round =>
        obtain ⟨j, hj, rfl, hown2, hbel2⟩ := hrel
        have z2 := hbel2.out.size
        have z3 := hown2.out.1
        by_cases hlj : j < x'.s.length
        · obtain ⟨b3, off3, s, rfl, hb3, hsj, hslo, hshi, hsc⟩ := (HV.out.below hbel2.out).at_ hlj
          have hsm := ascB_mem HAS.out s (List.mem_of_getElem? hsj)
          obtain ⟨J, rfl⟩ := Int.eq_ofNat_of_zero_le hsm.1
          have hJN : J < N := by omega
          have hnew := asc_new HAS.out hsj
          obtain ⟨o1, o2⟩ := hown2.out.at_ (k := J) (by rw [covL_len]; exact hJN)
          rw [getD_of (covL_at hJN)] at o1
          have hle := cntI_le cs ps k x'.s j J
          have GT := Lib.hid (covL_at (f := cntI cs ps k x'.s j) hJN)
          have NX := Lib.hid (covL_set (f := cntI cs ps k x'.s j) (g := cntI cs ps k x'.s (j + 1)) hJN (cntI_step hsj hnew) (fun i hi => cntI_other hsj hi))
          have hne : ¬ b3 = w.heap.size := by
            have := HV.out.at_ hlj
            obtain ⟨b4, off4, s4, e4, hb4, _⟩ := this
            injection e4 with e4; injection e4 with e4 _
            omega
          have hne' : ¬ w.heap.size = b3 := fun h => hne h.symm
          clear hsj hnew hsm
          obtain ⟨v, hv⟩ : ∃ v, v = cntI cs ps k x'.s j J := ⟨_, rfl⟩
          rw [← hv] at o1 hle
          rw [← hv] at GT NX
          clear hv
          go_wp2_with fail
          go_region
          all_goals
            go_wp2
            go_roundw
            case rel => exact ⟨j + 1, by omega, by go_num, Lib.hid (by rw [← NX.out]; first | exact (hown2.out.set_ GT.out _).drew | exact (hown2.out.set_ GT.out _)), by (refine Lib.hid ?_; (repeat' (first | (with_reducible exact Below.refl _ _) | (with_reducible refine belS ?_ (by first | omega | (simp; done) | (simp; omega) | (simp only [World.size_alloc, World.size_setCell, World.size_drew] at *; omega))) | (with_reducible refine belA ?_ (by first | omega | (simp; done) | (simp; omega) | (simp only [World.size_alloc, World.size_setCell, World.size_drew] at *; omega))) | (with_reducible refine bel_drewN ?_ _) | (with_reducible refine Below.drew ?_) | (with_reducible assumption) | (refine Hid.out ?_; with_reducible assumption) | (apply belV; (with_reducible assumption); exact (by first | omega | (simp; done) | (simp; omega) | (simp only [World.size_alloc, World.size_setCell, World.size_drew] at *; omega))))))⟩
            case measure => simp [intOf]; omega
        · have HE := Lib.hid (cntI_end (cs := cs) (ps := ps) (k := k) (q := j) (s := x'.s) (by omega) HST.out.symm)
          go_wp2_with fail
          go_roundw
          case rel => exact ⟨k + 1, _, _, by omega, by go_num, rfl, rfl, Lib.hid (by rw [← HE.out]; exact hown2.out), hbel2⟩
          case measure => simp [intOf]; omega
    · have hke : k = q := by omega
      subst hke
      go_wp2_with fail
      go_ret
      refine ⟨some ⟨w.heap.size, 0, none⟩, N, by rw [covL_len]; rfl, OwnS.of_own hown.out (Nat.le_refl _) hown.out.1 (covL_bd _ _ (fun j => by have := cnt_le cs ps j k; omega)) (by rw [covL_len]; omega), hbel.out⟩

set_option maxHeartbeats 4000000 in
set_option maxRecDepth 100000 in
theorem spec_columnCost (A B : Option Addr) (n c q d : Nat) (cs : List PCol) (ps : List Int) (w : World) (hI : ColS w A n cs) (hn : n ≤ 31) (hJ : Ints w B q ps) (hq : q ≤ 31) (ha : ascB ps cs.length = true) (hc : ∀ x ∈ cs, 0 ≤ x.c ∧ x.c ≤ 9999) :
    Calls Try.prog 82 #[.slice A n c, .slice B q d] w fun e w' => e = .returned (.int .i64 (costF cs ps q)) ∧ Below w.heap.size w w' := by
  have HL := Lib.hid hI.len
  have HI := Lib.hid hI; clear hI
  have HJ := Lib.hid hJ; clear hJ
  have HA := Lib.hid ha; clear ha
  have HCB := Lib.hid (costF_bd (ps := ps) hc)
  have HCC := Lib.hid hc; clear hc
  go_enter Try.func82, Try.ntmps82
  go_wp2_with fail
  go_loopw [5, 6] (fun s5 s6 wr => ∃ (k : Nat) (y : Int), k ≤ q ∧ s5 = .int .i64 y ∧ s6 = .int .i64 k ∧ Hid (y = costF cs ps k) ∧ Hid (Below w.heap.size w wr)) (fun _ s6 _ => q - (intOf s6).toNat)
  case atStart => exact ⟨0, 0, by omega, rfl, rfl, rfl, by (refine Lib.hid ?_; (repeat' (first | (with_reducible exact Below.refl _ _) | (with_reducible refine belS ?_ (by first | omega | (simp; done) | (simp; omega) | (simp only [World.size_alloc, World.size_setCell, World.size_drew] at *; omega))) | (with_reducible refine belA ?_ (by first | omega | (simp; done) | (simp; omega) | (simp only [World.size_alloc, World.size_setCell, World.size_drew] at *; omega))) | (with_reducible refine bel_drewN ?_ _) | (with_reducible refine Below.drew ?_) | (with_reducible assumption) | (refine Hid.out ?_; with_reducible assumption) | (apply belV; (with_reducible assumption); exact (by first | omega | (simp; done) | (simp; omega) | (simp only [World.size_alloc, World.size_setCell, World.size_drew] at *; omega))))))⟩
  case round =>
    obtain ⟨k, y, hk, rfl, rfl, hy, hbel⟩ := hrel
    have yb := HCB.out k
    rw [← hy.out] at yb
    obtain ⟨y0, y1⟩ := yb
    by_cases hlt : k < q
    · obtain ⟨b, off, p, rfl, hb, hp, hplo, hphi, hpc⟩ := (HJ.out.below hbel.out).at_ hlt
      obtain ⟨i, x', rfl, hi, hxi, hst, hco⟩ := chosen_at HA.out hp
      have hin : i < n := by have := HL.out; omega
      obtain ⟨b2, off2, x, A', c', rfl, hb2, hx, hxs, lx, mx, hcc, hc0, hc1⟩ := (HI.out.below hbel.out).at_ hin
      rw [hxi] at hx
      injection hx with hx
      subst hx
      obtain ⟨cc0, cc1⟩ := HCC.out x' (List.mem_of_getElem? hxi)
      have HNY : Hid (y + x'.c = costF cs ps (k + 1)) := Lib.hid (by rw [costF, hco, hy.out])
      clear hst hco hp hxi hxs
      go_wp2_with fail
      go_roundw
      case rel => exact ⟨k + 1, _, by omega, rfl, by go_num, HNY, hbel⟩
      case measure => simp [intOf]; omega
    · have hke : k = q := by omega
      subst hke
      go_wp2_with fail
      go_ret
      exact ⟨ret_i hy.out, hbel.out⟩

set_option maxHeartbeats 4000000 in
set_option maxRecDepth 100000 in
theorem spec_PartitionCost (m : Int) (A B : Option Addr) (n c q d : Nat) (cs : List PCol) (ps : List Int) (w : World) (hI : ColS w A n cs) (hn : n ≤ maxLen) (hJ : Ints w B q ps) (hq : q ≤ maxLen) :
    Calls Try.prog 35 #[.int .i64 m, .slice A n c, .slice B q d] w fun e w' => e = .returned (.int .i64 (pCost m cs ps)) ∧ Below w.heap.size w w' := by
  have hn' := hn
  unfold maxLen at hn'
  have hl := hI.len
  have HL := Lib.hid hI.len
  have HLq := Lib.hid hJ.len
  have HI := Lib.hid hI; clear hI
  have HJ := Lib.hid hJ; clear hJ
  cases h1 : vCols m cs
  · have E := Lib.hid (pCost_1 (ps := ps) h1)
    clear hl
    go_enter Try.func35, Try.ntmps35
    go_wp2_with fail
    refine (spec_validColumns m _ _ _ cs _ HI.out hn).mono ?_
    rintro e w1 ⟨rfl, hb⟩
    have G1 : Hid (Below w.heap.size w w1) := belU hb (by (repeat' (first | (with_reducible exact Below.refl _ _) | (with_reducible refine belS ?_ (by first | omega | (simp; done) | (simp; omega) | (simp only [World.size_alloc, World.size_setCell, World.size_drew] at *; omega))) | (with_reducible refine belA ?_ (by first | omega | (simp; done) | (simp; omega) | (simp only [World.size_alloc, World.size_setCell, World.size_drew] at *; omega))) | (with_reducible refine bel_drewN ?_ _) | (with_reducible refine Below.drew ?_) | (with_reducible assumption) | (refine Hid.out ?_; with_reducible assumption) | (apply belV; (with_reducible assumption); exact (by first | omega | (simp; done) | (simp; omega) | (simp only [World.size_alloc, World.size_setCell, World.size_drew] at *; omega)))))) (by first | omega | (simp; done) | (simp; omega) | (simp only [World.size_alloc, World.size_setCell, World.size_drew] at *; omega))
    have z1 := hb.size
    (try simp at z1)
    have D1 := Lib.hid hb; clear hb
    rw [h1]
    go_wp2_with fail
    go_ret
    exact ⟨ret_i E.out.symm, by (repeat' (first | (with_reducible exact Below.refl _ _) | (with_reducible refine belS ?_ (by first | omega | (simp; done) | (simp; omega) | (simp only [World.size_alloc, World.size_setCell, World.size_drew] at *; omega))) | (with_reducible refine belA ?_ (by first | omega | (simp; done) | (simp; omega) | (simp only [World.size_alloc, World.size_setCell, World.size_drew] at *; omega))) | (with_reducible refine bel_drewN ?_ _) | (with_reducible refine Below.drew ?_) | (with_reducible assumption) | (refine Hid.out ?_; with_reducible assumption) | (apply belV; (with_reducible assumption); exact (by first | omega | (simp; done) | (simp; omega) | (simp only [World.size_alloc, World.size_setCell, World.size_drew] at *; omega)))))⟩
  obtain ⟨⟨f1, f1'⟩, f2, f3⟩ := vCols_facts h1
  have hc31 : n ≤ 31 := by omega
  obtain ⟨N, rfl⟩ := Int.eq_ofNat_of_zero_le f1
  cases h2 : ascB ps n
  · have E := Lib.hid (pCost_2 (n := (N : Int)) (cs := cs) (ps := ps) (by rw [hl]; exact h2))
    clear hl
    go_enter Try.func35, Try.ntmps35
    go_wp2_with fail
    refine (spec_validColumns _ _ _ _ cs _ HI.out hn).mono ?_
    rintro e w1 ⟨rfl, hb⟩
    have G1 : Hid (Below w.heap.size w w1) := belU hb (by (repeat' (first | (with_reducible exact Below.refl _ _) | (with_reducible refine belS ?_ (by first | omega | (simp; done) | (simp; omega) | (simp only [World.size_alloc, World.size_setCell, World.size_drew] at *; omega))) | (with_reducible refine belA ?_ (by first | omega | (simp; done) | (simp; omega) | (simp only [World.size_alloc, World.size_setCell, World.size_drew] at *; omega))) | (with_reducible refine bel_drewN ?_ _) | (with_reducible refine Below.drew ?_) | (with_reducible assumption) | (refine Hid.out ?_; with_reducible assumption) | (apply belV; (with_reducible assumption); exact (by first | omega | (simp; done) | (simp; omega) | (simp only [World.size_alloc, World.size_setCell, World.size_drew] at *; omega)))))) (by first | omega | (simp; done) | (simp; omega) | (simp only [World.size_alloc, World.size_setCell, World.size_drew] at *; omega))
    have z1 := hb.size
    (try simp at z1)
    have D1 := Lib.hid hb; clear hb
    rw [h1]
    go_wp2_with (go_at_call 79; ((with_reducible refine (spec_ascending _ _ _ (n : Int) _ ps _ (HJ.out.below (by (repeat' (first | (with_reducible exact Below.refl _ _) | (with_reducible refine belS ?_ (by first | omega | (simp; done) | (simp; omega) | (simp only [World.size_alloc, World.size_setCell, World.size_drew] at *; omega))) | (with_reducible refine belA ?_ (by first | omega | (simp; done) | (simp; omega) | (simp only [World.size_alloc, World.size_setCell, World.size_drew] at *; omega))) | (with_reducible refine bel_drewN ?_ _) | (with_reducible refine Below.drew ?_) | (with_reducible assumption) | (refine Hid.out ?_; with_reducible assumption) | (apply belV; (with_reducible assumption); exact (by first | omega | (simp; done) | (simp; omega) | (simp only [World.size_alloc, World.size_setCell, World.size_drew] at *; omega))))))) hq rfl).mono ?_); rintro e w' ⟨rfl, d1, rfl⟩))
    go_ret
    exact ⟨ret_i E.out.symm, by (repeat' (first | (with_reducible exact Below.refl _ _) | (with_reducible refine belS ?_ (by first | omega | (simp; done) | (simp; omega) | (simp only [World.size_alloc, World.size_setCell, World.size_drew] at *; omega))) | (with_reducible refine belA ?_ (by first | omega | (simp; done) | (simp; omega) | (simp only [World.size_alloc, World.size_setCell, World.size_drew] at *; omega))) | (with_reducible refine bel_drewN ?_ _) | (with_reducible refine Below.drew ?_) | (with_reducible assumption) | (refine Hid.out ?_; with_reducible assumption) | (apply belV; (with_reducible assumption); exact (by first | omega | (simp; done) | (simp; omega) | (simp only [World.size_alloc, World.size_setCell, World.size_drew] at *; omega)))))⟩
  have ha : ascB ps cs.length = true := by rw [hl]; exact h2
  have hq31 : q ≤ 31 := by have := asc_le ha; have := HLq.out; omega
  have HA := Lib.hid ha
  have H1 := Lib.hid h1
  have HS : Hid (∀ x ∈ cs, ascB x.s N = true) := Lib.hid (fun x hx => (f3 x hx).2)
  have HCC : Hid (∀ x ∈ cs, 0 ≤ x.c ∧ x.c ≤ 9999) := Lib.hid (fun x hx => (f3 x hx).1)
  have hN5 : N ≤ 5 := by omega
  have HO : Hid (vInts (covL N (cnt cs ps q)) 1 1 = oneB N cs ps) := Lib.hid (by unfold oneB; rw [HLq.out])
  clear ha f3 hl f2
  cases h3 : oneB N cs ps
  · have E := Lib.hid (pCost_3 (n := (N : Int)) (cs := cs) (ps := ps) (by rw [Int.toNat_natCast]; exact h3))
    go_enter Try.func35, Try.ntmps35
    go_wp2_with fail
    refine (spec_validColumns _ _ _ _ cs _ HI.out hn).mono ?_
    rintro e w1 ⟨rfl, hb⟩
    have G1 : Hid (Below w.heap.size w w1) := belU hb (by (repeat' (first | (with_reducible exact Below.refl _ _) | (with_reducible refine belS ?_ (by first | omega | (simp; done) | (simp; omega) | (simp only [World.size_alloc, World.size_setCell, World.size_drew] at *; omega))) | (with_reducible refine belA ?_ (by first | omega | (simp; done) | (simp; omega) | (simp only [World.size_alloc, World.size_setCell, World.size_drew] at *; omega))) | (with_reducible refine bel_drewN ?_ _) | (with_reducible refine Below.drew ?_) | (with_reducible assumption) | (refine Hid.out ?_; with_reducible assumption) | (apply belV; (with_reducible assumption); exact (by first | omega | (simp; done) | (simp; omega) | (simp only [World.size_alloc, World.size_setCell, World.size_drew] at *; omega)))))) (by first | omega | (simp; done) | (simp; omega) | (simp only [World.size_alloc, World.size_setCell, World.size_drew] at *; omega))
    have z1 := hb.size
    (try simp at z1)
    have D1 := Lib.hid hb; clear hb
    rw [h1]
    go_wp2_with (go_at_call 79; ((with_reducible refine (spec_ascending _ _ _ (n : Int) _ ps _ (HJ.out.below (by (repeat' (first | (with_reducible exact Below.refl _ _) | (with_reducible refine belS ?_ (by first | omega | (simp; done) | (simp; omega) | (simp only [World.size_alloc, World.size_setCell, World.size_drew] at *; omega))) | (with_reducible refine belA ?_ (by first | omega | (simp; done) | (simp; omega) | (simp only [World.size_alloc, World.size_setCell, World.size_drew] at *; omega))) | (with_reducible refine bel_drewN ?_ _) | (with_reducible refine Below.drew ?_) | (with_reducible assumption) | (refine Hid.out ?_; with_reducible assumption) | (apply belV; (with_reducible assumption); exact (by first | omega | (simp; done) | (simp; omega) | (simp only [World.size_alloc, World.size_setCell, World.size_drew] at *; omega))))))) hq rfl).mono ?_); rintro e w' ⟨rfl, d1, rfl⟩))
    go_wp2_with fail
    refine (spec_covered N _ _ _ _ _ _ _ cs ps _ rfl hN5 (HI.out.below (by (repeat' (first | (with_reducible exact Below.refl _ _) | (with_reducible refine belS ?_ (by first | omega | (simp; done) | (simp; omega) | (simp only [World.size_alloc, World.size_setCell, World.size_drew] at *; omega))) | (with_reducible refine belA ?_ (by first | omega | (simp; done) | (simp; omega) | (simp only [World.size_alloc, World.size_setCell, World.size_drew] at *; omega))) | (with_reducible refine bel_drewN ?_ _) | (with_reducible refine Below.drew ?_) | (with_reducible assumption) | (refine Hid.out ?_; with_reducible assumption) | (apply belV; (with_reducible assumption); exact (by first | omega | (simp; done) | (simp; omega) | (simp only [World.size_alloc, World.size_setCell, World.size_drew] at *; omega))))))) hc31 (HJ.out.below (by (repeat' (first | (with_reducible exact Below.refl _ _) | (with_reducible refine belS ?_ (by first | omega | (simp; done) | (simp; omega) | (simp only [World.size_alloc, World.size_setCell, World.size_drew] at *; omega))) | (with_reducible refine belA ?_ (by first | omega | (simp; done) | (simp; omega) | (simp only [World.size_alloc, World.size_setCell, World.size_drew] at *; omega))) | (with_reducible refine bel_drewN ?_ _) | (with_reducible refine Below.drew ?_) | (with_reducible assumption) | (refine Hid.out ?_; with_reducible assumption) | (apply belV; (with_reducible assumption); exact (by first | omega | (simp; done) | (simp; omega) | (simp only [World.size_alloc, World.size_setCell, World.size_drew] at *; omega))))))) hq31 HA.out HS.out).mono ?_
    rintro e w2 ⟨A2, c2, rfl, hw, hb⟩
    have G2 : Hid (Below w.heap.size w w2) := belU hb (by (repeat' (first | (with_reducible exact Below.refl _ _) | (with_reducible refine belS ?_ (by first | omega | (simp; done) | (simp; omega) | (simp only [World.size_alloc, World.size_setCell, World.size_drew] at *; omega))) | (with_reducible refine belA ?_ (by first | omega | (simp; done) | (simp; omega) | (simp only [World.size_alloc, World.size_setCell, World.size_drew] at *; omega))) | (with_reducible refine bel_drewN ?_ _) | (with_reducible refine Below.drew ?_) | (with_reducible assumption) | (refine Hid.out ?_; with_reducible assumption) | (apply belV; (with_reducible assumption); exact (by first | omega | (simp; done) | (simp; omega) | (simp only [World.size_alloc, World.size_setCell, World.size_drew] at *; omega)))))) (by first | omega | (simp; done) | (simp; omega) | (simp only [World.size_alloc, World.size_setCell, World.size_drew] at *; omega))
    (try simp only [World.size_alloc, World.size_setCell, World.size_drew, World.heap_drewN] at hw)
    have W2 := Lib.hid hw; clear hw
    have z2 := hb.size
    (try simp at z2)
    have D2 := Lib.hid hb; clear hb
    have hm2 : (covL N (cnt cs ps q)).length ≤ maxLen := by rw [covL_len]; unfold maxLen; omega
    go_wp2_with (go_at_call 80; ((with_reducible refine (spec_allIn _ _ _ _ _ (covL N (cnt cs ps q)) _ (OwnS.ints W2.out) hm2).mono ?_); rintro e w' ⟨rfl, rfl⟩; rw [HO.out, h3]))
    go_ret
    exact ⟨ret_i E.out.symm, by (repeat' (first | (with_reducible exact Below.refl _ _) | (with_reducible refine belS ?_ (by first | omega | (simp; done) | (simp; omega) | (simp only [World.size_alloc, World.size_setCell, World.size_drew] at *; omega))) | (with_reducible refine belA ?_ (by first | omega | (simp; done) | (simp; omega) | (simp only [World.size_alloc, World.size_setCell, World.size_drew] at *; omega))) | (with_reducible refine bel_drewN ?_ _) | (with_reducible refine Below.drew ?_) | (with_reducible assumption) | (refine Hid.out ?_; with_reducible assumption) | (apply belV; (with_reducible assumption); exact (by first | omega | (simp; done) | (simp; omega) | (simp only [World.size_alloc, World.size_setCell, World.size_drew] at *; omega)))))⟩
  · have E := Lib.hid (pCost_4 (n := (N : Int)) H1.out HA.out (by rw [Int.toNat_natCast]; exact h3))
    go_enter Try.func35, Try.ntmps35
    go_wp2_with fail
    refine (spec_validColumns _ _ _ _ cs _ HI.out hn).mono ?_
    rintro e w1 ⟨rfl, hb⟩
    have G1 : Hid (Below w.heap.size w w1) := belU hb (by (repeat' (first | (with_reducible exact Below.refl _ _) | (with_reducible refine belS ?_ (by first | omega | (simp; done) | (simp; omega) | (simp only [World.size_alloc, World.size_setCell, World.size_drew] at *; omega))) | (with_reducible refine belA ?_ (by first | omega | (simp; done) | (simp; omega) | (simp only [World.size_alloc, World.size_setCell, World.size_drew] at *; omega))) | (with_reducible refine bel_drewN ?_ _) | (with_reducible refine Below.drew ?_) | (with_reducible assumption) | (refine Hid.out ?_; with_reducible assumption) | (apply belV; (with_reducible assumption); exact (by first | omega | (simp; done) | (simp; omega) | (simp only [World.size_alloc, World.size_setCell, World.size_drew] at *; omega)))))) (by first | omega | (simp; done) | (simp; omega) | (simp only [World.size_alloc, World.size_setCell, World.size_drew] at *; omega))
    have z1 := hb.size
    (try simp at z1)
    have D1 := Lib.hid hb; clear hb
    rw [h1]
    go_wp2_with (go_at_call 79; ((with_reducible refine (spec_ascending _ _ _ (n : Int) _ ps _ (HJ.out.below (by (repeat' (first | (with_reducible exact Below.refl _ _) | (with_reducible refine belS ?_ (by first | omega | (simp; done) | (simp; omega) | (simp only [World.size_alloc, World.size_setCell, World.size_drew] at *; omega))) | (with_reducible refine belA ?_ (by first | omega | (simp; done) | (simp; omega) | (simp only [World.size_alloc, World.size_setCell, World.size_drew] at *; omega))) | (with_reducible refine bel_drewN ?_ _) | (with_reducible refine Below.drew ?_) | (with_reducible assumption) | (refine Hid.out ?_; with_reducible assumption) | (apply belV; (with_reducible assumption); exact (by first | omega | (simp; done) | (simp; omega) | (simp only [World.size_alloc, World.size_setCell, World.size_drew] at *; omega))))))) hq rfl).mono ?_); rintro e w' ⟨rfl, d1, rfl⟩))
    go_wp2_with fail
    refine (spec_covered N _ _ _ _ _ _ _ cs ps _ rfl hN5 (HI.out.below (by (repeat' (first | (with_reducible exact Below.refl _ _) | (with_reducible refine belS ?_ (by first | omega | (simp; done) | (simp; omega) | (simp only [World.size_alloc, World.size_setCell, World.size_drew] at *; omega))) | (with_reducible refine belA ?_ (by first | omega | (simp; done) | (simp; omega) | (simp only [World.size_alloc, World.size_setCell, World.size_drew] at *; omega))) | (with_reducible refine bel_drewN ?_ _) | (with_reducible refine Below.drew ?_) | (with_reducible assumption) | (refine Hid.out ?_; with_reducible assumption) | (apply belV; (with_reducible assumption); exact (by first | omega | (simp; done) | (simp; omega) | (simp only [World.size_alloc, World.size_setCell, World.size_drew] at *; omega))))))) hc31 (HJ.out.below (by (repeat' (first | (with_reducible exact Below.refl _ _) | (with_reducible refine belS ?_ (by first | omega | (simp; done) | (simp; omega) | (simp only [World.size_alloc, World.size_setCell, World.size_drew] at *; omega))) | (with_reducible refine belA ?_ (by first | omega | (simp; done) | (simp; omega) | (simp only [World.size_alloc, World.size_setCell, World.size_drew] at *; omega))) | (with_reducible refine bel_drewN ?_ _) | (with_reducible refine Below.drew ?_) | (with_reducible assumption) | (refine Hid.out ?_; with_reducible assumption) | (apply belV; (with_reducible assumption); exact (by first | omega | (simp; done) | (simp; omega) | (simp only [World.size_alloc, World.size_setCell, World.size_drew] at *; omega))))))) hq31 HA.out HS.out).mono ?_
    rintro e w2 ⟨A2, c2, rfl, hw, hb⟩
    have G2 : Hid (Below w.heap.size w w2) := belU hb (by (repeat' (first | (with_reducible exact Below.refl _ _) | (with_reducible refine belS ?_ (by first | omega | (simp; done) | (simp; omega) | (simp only [World.size_alloc, World.size_setCell, World.size_drew] at *; omega))) | (with_reducible refine belA ?_ (by first | omega | (simp; done) | (simp; omega) | (simp only [World.size_alloc, World.size_setCell, World.size_drew] at *; omega))) | (with_reducible refine bel_drewN ?_ _) | (with_reducible refine Below.drew ?_) | (with_reducible assumption) | (refine Hid.out ?_; with_reducible assumption) | (apply belV; (with_reducible assumption); exact (by first | omega | (simp; done) | (simp; omega) | (simp only [World.size_alloc, World.size_setCell, World.size_drew] at *; omega)))))) (by first | omega | (simp; done) | (simp; omega) | (simp only [World.size_alloc, World.size_setCell, World.size_drew] at *; omega))
    (try simp only [World.size_alloc, World.size_setCell, World.size_drew, World.heap_drewN] at hw)
    have W2 := Lib.hid hw; clear hw
    have z2 := hb.size
    (try simp at z2)
    have D2 := Lib.hid hb; clear hb
    have hm2 : (covL N (cnt cs ps q)).length ≤ maxLen := by rw [covL_len]; unfold maxLen; omega
    go_wp2_with (go_at_call 80; ((with_reducible refine (spec_allIn _ _ _ _ _ (covL N (cnt cs ps q)) _ (OwnS.ints W2.out) hm2).mono ?_); rintro e w' ⟨rfl, rfl⟩; rw [HO.out, h3]))
    go_wp2_with fail
    refine (spec_columnCost _ _ _ _ _ _ cs ps _ (HI.out.below (by (repeat' (first | (with_reducible exact Below.refl _ _) | (with_reducible refine belS ?_ (by first | omega | (simp; done) | (simp; omega) | (simp only [World.size_alloc, World.size_setCell, World.size_drew] at *; omega))) | (with_reducible refine belA ?_ (by first | omega | (simp; done) | (simp; omega) | (simp only [World.size_alloc, World.size_setCell, World.size_drew] at *; omega))) | (with_reducible refine bel_drewN ?_ _) | (with_reducible refine Below.drew ?_) | (with_reducible assumption) | (refine Hid.out ?_; with_reducible assumption) | (apply belV; (with_reducible assumption); exact (by first | omega | (simp; done) | (simp; omega) | (simp only [World.size_alloc, World.size_setCell, World.size_drew] at *; omega))))))) hc31 (HJ.out.below (by (repeat' (first | (with_reducible exact Below.refl _ _) | (with_reducible refine belS ?_ (by first | omega | (simp; done) | (simp; omega) | (simp only [World.size_alloc, World.size_setCell, World.size_drew] at *; omega))) | (with_reducible refine belA ?_ (by first | omega | (simp; done) | (simp; omega) | (simp only [World.size_alloc, World.size_setCell, World.size_drew] at *; omega))) | (with_reducible refine bel_drewN ?_ _) | (with_reducible refine Below.drew ?_) | (with_reducible assumption) | (refine Hid.out ?_; with_reducible assumption) | (apply belV; (with_reducible assumption); exact (by first | omega | (simp; done) | (simp; omega) | (simp only [World.size_alloc, World.size_setCell, World.size_drew] at *; omega))))))) hq31 HA.out HCC.out).mono ?_
    rintro e w3 ⟨rfl, hb⟩
    have G3 : Hid (Below w.heap.size w w3) := belU hb (by (repeat' (first | (with_reducible exact Below.refl _ _) | (with_reducible refine belS ?_ (by first | omega | (simp; done) | (simp; omega) | (simp only [World.size_alloc, World.size_setCell, World.size_drew] at *; omega))) | (with_reducible refine belA ?_ (by first | omega | (simp; done) | (simp; omega) | (simp only [World.size_alloc, World.size_setCell, World.size_drew] at *; omega))) | (with_reducible refine bel_drewN ?_ _) | (with_reducible refine Below.drew ?_) | (with_reducible assumption) | (refine Hid.out ?_; with_reducible assumption) | (apply belV; (with_reducible assumption); exact (by first | omega | (simp; done) | (simp; omega) | (simp only [World.size_alloc, World.size_setCell, World.size_drew] at *; omega)))))) (by first | omega | (simp; done) | (simp; omega) | (simp only [World.size_alloc, World.size_setCell, World.size_drew] at *; omega))
    have z3 := hb.size
    (try simp at z3)
    have D3 := Lib.hid hb; clear hb
    go_wp2_with fail
    go_ret
    exact ⟨ret_i (by rw [E.out, HLq.out]), by (repeat' (first | (with_reducible exact Below.refl _ _) | (with_reducible refine belS ?_ (by first | omega | (simp; done) | (simp; omega) | (simp only [World.size_alloc, World.size_setCell, World.size_drew] at *; omega))) | (with_reducible refine belA ?_ (by first | omega | (simp; done) | (simp; omega) | (simp only [World.size_alloc, World.size_setCell, World.size_drew] at *; omega))) | (with_reducible refine bel_drewN ?_ _) | (with_reducible refine Below.drew ?_) | (with_reducible assumption) | (refine Hid.out ?_; with_reducible assumption) | (apply belV; (with_reducible assumption); exact (by first | omega | (simp; done) | (simp; omega) | (simp only [World.size_alloc, World.size_setCell, World.size_drew] at *; omega)))))⟩
end Go.Proofs.Ytppdomoifnokpaa
