
/-
  Lifted covers: what the program's LiftCover answers.
-/
import Derived.Test.YtfidahpaidkhgabLh
set_option linter.unusedSimpArgs false
set_option linter.unusedVariables false
namespace Go.Proofs.Ytfidahpaidkhgab
open Go.RowKit

theorem impl_MCT (A' Q : Option Addr) (n' q c' d : Nat) (a : Int) (ws ps T : List Int) (w : World) (hJ : Ints w A' n' ws) (hK : Ints w Q q ps) (hn' : n' ≤ maxLen) (hq : q ≤ maxLen) (hT : kMin ws a ps = T) :
    Calls Try.prog 20 #[.slice A' n' c', .int .i64 a, .slice Q q d] w (SliceEnd T w) := by
  subst hT; exact impl_MinimalCover A' Q n' q c' d a ws ps w hJ hK hn' hq

set_option maxHeartbeats 16000000 in
set_option maxRecDepth 100000 in
theorem impl_LiftCover (A' Q : Option Addr) (n' q c' d : Nat) (a : Int) (ws ps : List Int) (w : World) (hJ : Ints w A' n' ws) (hK : Ints w Q q ps) (hn' : n' ≤ maxLen) (hq : q ≤ maxLen) (hc' : n' ≤ c') :
    Calls Try.prog 26 #[.slice A' n' c', .int .i64 a, .slice Q q d] w (SliceEnd (kLift ws a ps) w) := by
  obtain ⟨i0, hi0, hz0, hz1, hz2⟩ := info_parts info_int
  have hqm := hq
  unfold maxLen at hqm
  obtain rfl := hJ.len
  obtain rfl := hK.len
  have HJ := Lib.hid hJ; clear hJ
  have HK := Lib.hid hK; clear hK
  by_cases hq0 : ps.length = 0
  · have E : Hid (kLift ws a ps = []) := Lib.hid (kLift_1 (by
      cases h : isCov ws a ps with
      | false => rfl
      | true => have := cov_pos h; omega))
    have e0 : ((ps.length : Int) == 0) = true := by rw [beq_iff_eq]; omega
    clear hq0
    go_enter Try.func26, Try.ntmps26
    go_wp2_with fail
    go_ret
    exact SliceEnd.nil E.out (by (repeat' (first | (with_reducible exact Below.refl _ _) | (with_reducible refine belS ?_ (by first | omega | (simp; done) | (simp; omega) | (simp only [World.size_alloc, World.size_setCell, World.size_drew] at *; omega))) | (with_reducible refine belA ?_ (by first | omega | (simp; done) | (simp; omega) | (simp only [World.size_alloc, World.size_setCell, World.size_drew] at *; omega))) | (with_reducible refine bel_drewN ?_ _) | (with_reducible refine Below.drew ?_) | (with_reducible assumption) | (refine Hid.out ?_; with_reducible assumption) | (apply belV; (with_reducible assumption); exact (by first | omega | (simp; done) | (simp; omega) | (simp only [World.size_alloc, World.size_setCell, World.size_drew] at *; omega))))))
  have e0 : ((ps.length : Int) == 0) = false := by rw [beq_eq_false_iff_ne]; omega
  obtain ⟨M, hM⟩ : ∃ M, kMin ws a ps = M := ⟨_, rfl⟩
  have hMl : M.length ≤ 1000 := by
    rw [← hM]
    cases h : isCov ws a ps with
    | false => rw [kMin_1 h]; simp
    | true => rw [kMin_2 h]; have := (mCov_facts h).2.2.2.2.2; omega
  have hMm : M.length ≤ maxLen := by unfold maxLen; omega
  have HM := Lib.hid hM; clear hM
  cases h2 : decide (M = ps)
  · have E : Hid (kLift ws a ps = []) := Lib.hid (by
      cases h : isCov ws a ps with
      | false => exact kLift_1 h
      | true => exact kLift_2 (by rw [← kMin_2 h, HM.out]; simpa using h2))
    go_enter Try.func26, Try.ntmps26
    go_wp2_with fail
    refine (impl_MCT _ _ _ _ _ _ a ws ps M _ (HJ.out.below (by (repeat' (first | (with_reducible exact Below.refl _ _) | (with_reducible refine belS ?_ (by first | omega | (simp; done) | (simp; omega) | (simp only [World.size_alloc, World.size_setCell, World.size_drew] at *; omega))) | (with_reducible refine belA ?_ (by first | omega | (simp; done) | (simp; omega) | (simp only [World.size_alloc, World.size_setCell, World.size_drew] at *; omega))) | (with_reducible refine bel_drewN ?_ _) | (with_reducible refine Below.drew ?_) | (with_reducible assumption) | (refine Hid.out ?_; with_reducible assumption) | (apply belV; (with_reducible assumption); exact (by first | omega | (simp; done) | (simp; omega) | (simp only [World.size_alloc, World.size_setCell, World.size_drew] at *; omega))))))) (HK.out.below (by (repeat' (first | (with_reducible exact Below.refl _ _) | (with_reducible refine belS ?_ (by first | omega | (simp; done) | (simp; omega) | (simp only [World.size_alloc, World.size_setCell, World.size_drew] at *; omega))) | (with_reducible refine belA ?_ (by first | omega | (simp; done) | (simp; omega) | (simp only [World.size_alloc, World.size_setCell, World.size_drew] at *; omega))) | (with_reducible refine bel_drewN ?_ _) | (with_reducible refine Below.drew ?_) | (with_reducible assumption) | (refine Hid.out ?_; with_reducible assumption) | (apply belV; (with_reducible assumption); exact (by first | omega | (simp; done) | (simp; omega) | (simp only [World.size_alloc, World.size_setCell, World.size_drew] at *; omega))))))) hn' hq HM.out).mono ?_
    rintro e w1 ⟨A1, c1, rfl, ho, hb⟩
    have G1 : Hid (Below w.heap.size w w1) := belU hb (by (repeat' (first | (with_reducible exact Below.refl _ _) | (with_reducible refine belS ?_ (by first | omega | (simp; done) | (simp; omega) | (simp only [World.size_alloc, World.size_setCell, World.size_drew] at *; omega))) | (with_reducible refine belA ?_ (by first | omega | (simp; done) | (simp; omega) | (simp only [World.size_alloc, World.size_setCell, World.size_drew] at *; omega))) | (with_reducible refine bel_drewN ?_ _) | (with_reducible refine Below.drew ?_) | (with_reducible assumption) | (refine Hid.out ?_; with_reducible assumption) | (apply belV; (with_reducible assumption); exact (by first | omega | (simp; done) | (simp; omega) | (simp only [World.size_alloc, World.size_setCell, World.size_drew] at *; omega)))))) (by first | omega | (simp; done) | (simp; omega) | (simp only [World.size_alloc, World.size_setCell, World.size_drew] at *; omega))
    (try simp only [World.size_alloc, World.size_setCell, World.size_drew, World.heap_drewN] at ho)
    have W1 := Lib.hid ho; clear ho
    have z1 := hb.size
    (try simp at z1)
    have D1 := Lib.hid hb; clear hb
    have I1 : Hid (Ints w1 A1 M.length M) := Lib.hid (OwnS.ints W1.out)
    have K1 : Hid (Ints w1 Q ps.length ps) := Lib.hid (HK.out.below (by (repeat' (first | (with_reducible exact Below.refl _ _) | (with_reducible refine belS ?_ (by first | omega | (simp; done) | (simp; omega) | (simp only [World.size_alloc, World.size_setCell, World.size_drew] at *; omega))) | (with_reducible refine belA ?_ (by first | omega | (simp; done) | (simp; omega) | (simp only [World.size_alloc, World.size_setCell, World.size_drew] at *; omega))) | (with_reducible refine bel_drewN ?_ _) | (with_reducible refine Below.drew ?_) | (with_reducible assumption) | (refine Hid.out ?_; with_reducible assumption) | (apply belV; (with_reducible assumption); exact (by first | omega | (simp; done) | (simp; omega) | (simp only [World.size_alloc, World.size_setCell, World.size_drew] at *; omega)))))))
    go_wp2_with fail
    refine (lib_Equal _ _ _ _ _ _ M ps _ I1.out K1.out hMm hq).mono ?_
    rintro e w3 ⟨rfl, m, rfl⟩
    rw [h2]
    go_wp2_with fail
    go_ret
    exact SliceEnd.nil E.out (by (repeat' (first | (with_reducible exact Below.refl _ _) | (with_reducible refine belS ?_ (by first | omega | (simp; done) | (simp; omega) | (simp only [World.size_alloc, World.size_setCell, World.size_drew] at *; omega))) | (with_reducible refine belA ?_ (by first | omega | (simp; done) | (simp; omega) | (simp only [World.size_alloc, World.size_setCell, World.size_drew] at *; omega))) | (with_reducible refine bel_drewN ?_ _) | (with_reducible refine Below.drew ?_) | (with_reducible assumption) | (refine Hid.out ?_; with_reducible assumption) | (apply belV; (with_reducible assumption); exact (by first | omega | (simp; done) | (simp; omega) | (simp only [World.size_alloc, World.size_setCell, World.size_drew] at *; omega))))))
  · have hcov : isCov ws a ps = true := by
      cases h : isCov ws a ps with
      | true => rfl
      | false =>
        have := HM.out
        rw [kMin_1 h] at this
        have e : M = ps := by simpa using h2
        rw [← e, ← this] at hq0
        simp at hq0
    have E : Hid (kLift ws a ps = lft ws a ps ws.length) := Lib.hid (kLift_3 hcov (by rw [← kMin_2 hcov, HM.out]; simpa using h2))
    obtain ⟨l1, l2⟩ := cov_len hcov
    have h' := hcov
    simp only [isCov, Bool.and_eq_true, decide_eq_true_eq] at h'
    obtain ⟨f3, f4, f5, f6⟩ := vWts_facts h'.1
    have HPI := Lib.hid (asc_in h'.2.1)
    obtain ⟨C, rfl⟩ := Int.eq_ofNat_of_zero_le f5
    have HC := Lib.hid hcov; clear hcov h'
    have HW := Lib.hid f4; clear f4
    have hmk := fun W => run_makeN (P := Try.prog) 23 3 i0 (.int .i64 0) Try.underlying23 hi0 hz0 ws.length (by rw [hz2]; omega) (by omega) W
    simp only [hz1, Nat.mul_one] at hmk
    go_enter Try.func26, Try.ntmps26
    go_wp2_with fail
    refine (impl_MCT _ _ _ _ _ _ C ws ps M _ (HJ.out.below (by (repeat' (first | (with_reducible exact Below.refl _ _) | (with_reducible refine belS ?_ (by first | omega | (simp; done) | (simp; omega) | (simp only [World.size_alloc, World.size_setCell, World.size_drew] at *; omega))) | (with_reducible refine belA ?_ (by first | omega | (simp; done) | (simp; omega) | (simp only [World.size_alloc, World.size_setCell, World.size_drew] at *; omega))) | (with_reducible refine bel_drewN ?_ _) | (with_reducible refine Below.drew ?_) | (with_reducible assumption) | (refine Hid.out ?_; with_reducible assumption) | (apply belV; (with_reducible assumption); exact (by first | omega | (simp; done) | (simp; omega) | (simp only [World.size_alloc, World.size_setCell, World.size_drew] at *; omega))))))) (HK.out.below (by (repeat' (first | (with_reducible exact Below.refl _ _) | (with_reducible refine belS ?_ (by first | omega | (simp; done) | (simp; omega) | (simp only [World.size_alloc, World.size_setCell, World.size_drew] at *; omega))) | (with_reducible refine belA ?_ (by first | omega | (simp; done) | (simp; omega) | (simp only [World.size_alloc, World.size_setCell, World.size_drew] at *; omega))) | (with_reducible refine bel_drewN ?_ _) | (with_reducible refine Below.drew ?_) | (with_reducible assumption) | (refine Hid.out ?_; with_reducible assumption) | (apply belV; (with_reducible assumption); exact (by first | omega | (simp; done) | (simp; omega) | (simp only [World.size_alloc, World.size_setCell, World.size_drew] at *; omega))))))) hn' hq HM.out).mono ?_
    rintro e w1 ⟨A1, c1, rfl, ho, hb⟩
    have G1 : Hid (Below w.heap.size w w1) := belU hb (by (repeat' (first | (with_reducible exact Below.refl _ _) | (with_reducible refine belS ?_ (by first | omega | (simp; done) | (simp; omega) | (simp only [World.size_alloc, World.size_setCell, World.size_drew] at *; omega))) | (with_reducible refine belA ?_ (by first | omega | (simp; done) | (simp; omega) | (simp only [World.size_alloc, World.size_setCell, World.size_drew] at *; omega))) | (with_reducible refine bel_drewN ?_ _) | (with_reducible refine Below.drew ?_) | (with_reducible assumption) | (refine Hid.out ?_; with_reducible assumption) | (apply belV; (with_reducible assumption); exact (by first | omega | (simp; done) | (simp; omega) | (simp only [World.size_alloc, World.size_setCell, World.size_drew] at *; omega)))))) (by first | omega | (simp; done) | (simp; omega) | (simp only [World.size_alloc, World.size_setCell, World.size_drew] at *; omega))
    (try simp only [World.size_alloc, World.size_setCell, World.size_drew, World.heap_drewN] at ho)
    have W1 := Lib.hid ho; clear ho
    have z1 := hb.size
    (try simp at z1)
    have D1 := Lib.hid hb; clear hb
    have I1 : Hid (Ints w1 A1 M.length M) := Lib.hid (OwnS.ints W1.out)
    have K1 : Hid (Ints w1 Q ps.length ps) := Lib.hid (HK.out.below (by (repeat' (first | (with_reducible exact Below.refl _ _) | (with_reducible refine belS ?_ (by first | omega | (simp; done) | (simp; omega) | (simp only [World.size_alloc, World.size_setCell, World.size_drew] at *; omega))) | (with_reducible refine belA ?_ (by first | omega | (simp; done) | (simp; omega) | (simp only [World.size_alloc, World.size_setCell, World.size_drew] at *; omega))) | (with_reducible refine bel_drewN ?_ _) | (with_reducible refine Below.drew ?_) | (with_reducible assumption) | (refine Hid.out ?_; with_reducible assumption) | (apply belV; (with_reducible assumption); exact (by first | omega | (simp; done) | (simp; omega) | (simp only [World.size_alloc, World.size_setCell, World.size_drew] at *; omega)))))))
    go_wp2_with fail
    refine (lib_Equal _ _ _ _ _ _ M ps _ I1.out K1.out hMm hq).mono ?_
    rintro e w3 ⟨rfl, m, rfl⟩
    rw [h2]
    go_wp2_with fail
    clear hmk
    have z3 : w.heap.size ≤ w1.heap.size := z1
    go_loopw [10, 34] (fun s10 s34 wr => ∃ (k : Nat) (u : Value), k ≤ ps.length ∧ s10 = u ∧ s34 = .int .i64 k ∧ Hid (OwnI wr w1.heap.size (cset ps ws.length k)) ∧ Hid (Below w.heap.size w wr)) (fun _ s34 _ => ps.length - (intOf s34).toNat)
    case atStart => exact ⟨0, _, by omega, rfl, rfl, Lib.hid (by simp only [cset]; (repeat' (first | (with_reducible exact OwnI.madeAt _ _ _ (by first | omega | (simp; done) | (simp; omega) | (simp only [World.size_alloc, World.size_setCell, World.size_drew] at *; omega))) | (with_reducible refine OwnI.far ?_ (by first | omega | (simp; done) | (simp; omega) | (simp only [World.size_alloc, World.size_setCell, World.size_drew] at *; omega)) _) | (with_reducible refine OwnI.alloc ?_ _) | (with_reducible refine OwnI.drewN ?_ _) | (with_reducible refine OwnI.drew ?_) | (with_reducible assumption) | (refine Hid.out ?_; with_reducible assumption) | (apply OwnI.turn; (with_reducible assumption); exact (by first | omega | (simp; done) | (simp; omega) | (simp only [World.size_alloc, World.size_setCell, World.size_drew] at *; omega))) | (apply OwnI.only; (with_reducible assumption); exact (by first | omega | (simp; done) | (simp; omega) | (simp only [World.size_alloc, World.size_setCell, World.size_drew] at *; omega))) | (apply OwnI.belowD; (with_reducible assumption))))), by (refine Lib.hid ?_; (repeat' (first | (with_reducible exact Below.refl _ _) | (with_reducible refine belS ?_ (by first | omega | (simp; done) | (simp; omega) | (simp only [World.size_alloc, World.size_setCell, World.size_drew] at *; omega))) | (with_reducible refine belA ?_ (by first | omega | (simp; done) | (simp; omega) | (simp only [World.size_alloc, World.size_setCell, World.size_drew] at *; omega))) | (with_reducible refine bel_drewN ?_ _) | (with_reducible refine Below.drew ?_) | (with_reducible assumption) | (refine Hid.out ?_; with_reducible assumption) | (apply belV; (with_reducible assumption); exact (by first | omega | (simp; done) | (simp; omega) | (simp only [World.size_alloc, World.size_setCell, World.size_drew] at *; omega))))))⟩
    case round =>
      obtain ⟨k, u, hk, rfl, rfl, hown, hbel⟩ := hrel
      by_cases hlt : k < ps.length
      · obtain ⟨b, off, p, rfl, hb, hp, _, _, hc⟩ := (HK.out.below hbel.out).at_ hlt
        obtain ⟨p0, p1⟩ := HPI.out p (List.mem_of_getElem? hp)
        obtain ⟨j, rfl⟩ := Int.eq_ofNat_of_zero_le p0
        have NX := Lib.hid (cset_next (n := ws.length) hp)
        clear hp
        have cl := cset_len ps ws.length k
        obtain ⟨o1, o2⟩ := hown.out.at_ (k := j) (by omega)
        have gt : (cset ps ws.length k)[j]? = some ((cset ps ws.length k).getD j 0) := getD_mem (by omega)
        have GT := Lib.hid gt; clear gt cl
        go_wp2_with fail
        go_roundw
        case rel => exact ⟨k + 1, _, by omega, rfl, by go_num, Lib.hid (by rw [← NX.out]; exact hown.out.set_ GT.out 1), by (refine Lib.hid ?_; (repeat' (first | (with_reducible exact Below.refl _ _) | (with_reducible refine belS ?_ (by first | omega | (simp; done) | (simp; omega) | (simp only [World.size_alloc, World.size_setCell, World.size_drew] at *; omega))) | (with_reducible refine belA ?_ (by first | omega | (simp; done) | (simp; omega) | (simp only [World.size_alloc, World.size_setCell, World.size_drew] at *; omega))) | (with_reducible refine bel_drewN ?_ _) | (with_reducible refine Below.drew ?_) | (with_reducible assumption) | (refine Hid.out ?_; with_reducible assumption) | (apply belV; (with_reducible assumption); exact (by first | omega | (simp; done) | (simp; omega) | (simp only [World.size_alloc, World.size_setCell, World.size_drew] at *; omega))))))⟩
        case measure => simp [intOf]; omega
      · have hke : k = ps.length := by omega
        subst hke
        have H0 : Hid (OwnI wr w1.heap.size (lft ws C ps 0)) := hown
        clear hown
        go_wp2_with fail
        go_loopw [11, 12, 13, 44] (fun s11 s12 s13 s44 wr => ∃ (j : Nat) (u11 u12 u13 : Value), j ≤ ws.length ∧ s11 = u11 ∧ s12 = u12 ∧ s13 = u13 ∧ s44 = .int .i64 j ∧ Hid (OwnI wr w1.heap.size (lft ws C ps j)) ∧ Hid (Below w.heap.size w wr)) (fun _ _ _ s44 _ => ws.length - (intOf s44).toNat)
        case atStart => exact ⟨0, _, _, _, by omega, rfl, rfl, rfl, rfl, H0, hbel⟩
        case round =>
          obtain ⟨j, u11, u12, u13, hj, rfl, rfl, rfl, rfl, hown, hbel⟩ := hrel
          clear H0
          have zr := hbel.out.size
          by_cases hlt : j < ws.length
          · have KR : Hid (Ints wr Q ps.length ps) := Lib.hid (HK.out.below hbel.out)
            obtain ⟨b', off', x, rfl, hb', hx, _, _, hcx⟩ := (HJ.out.below hbel.out).at_ hlt
            obtain ⟨x1, x2⟩ := HW.out x (List.mem_of_getElem? hx)
            obtain ⟨W, rfl⟩ := Int.eq_ofNat_of_zero_le (show 0 ≤ x by omega)
            have HX := Lib.hid hx; clear hx
            go_wp2_with fail
            refine (lib_Contains _ _ _ ps (j : Int) _ KR.out hq).mono ?_
            rintro e wl ⟨rfl, rfl⟩
            cases hin : decide ((j : Int) ∈ ps)
            · obtain ⟨lv, lp⟩ := lft_at HC.out hlt
              have ev : lval ws C (ps.length - 1) (lft ws C ps j) j = ((ps.length : Int) - 1) - best (lft ws C ps j) ws ((C : Int) - W).toNat := by unfold lval; rw [getD_of HX.out]
              have HV := Lib.hid lv; clear lv lp
              have ll := lft_len ws C ps j
              obtain ⟨o1, o2⟩ := hown.out.at_ (k := j) (by omega)
              have gt : (lft ws C ps j)[j]? = some ((lft ws C ps j).getD j 0) := getD_mem (by omega)
              have GT := Lib.hid gt; clear gt
              have HLL := Lib.hid ll; clear ll
              obtain ⟨bb0, bb1⟩ := best_bd (ws := ws) HV.out ((C : Int) - W).toNat
              obtain ⟨q, hq'⟩ : ∃ q : Nat, q = ((C : Int) - W).toNat := ⟨_, rfl⟩
              rw [← hq'] at ev bb0 bb1
              have hmq : max 0 ((C : Int) - (W : Int)) = (q : Int) := by omega
              have hq99 : q ≤ 99 := by omega
              obtain ⟨z, hz⟩ : ∃ z, z = best (lft ws C ps j) ws q := ⟨_, rfl⟩
              rw [← hz] at ev bb0 bb1
              have HZ := Lib.hid hz; clear hz
              have NX := Lib.hid (lft_out (v := (ps.length : Int) - 1 - z) hin ev.symm)
              have HMQ := Lib.hid hmq
              clear ev hq'
              have IL : Hid (Ints wr (some ⟨w1.heap.size, 0, none⟩) ws.length (lft ws C ps j)) := Lib.hid (by have := hown.out.ints (fun x hx => by have := HV.out x hx; exact ⟨by omega, by omega⟩); rwa [HLL.out] at this)
              go_wp2_with fail
              refine (impl_bestValueB _ _ _ _ _ _ _ q (lft ws C ps j) ws z _ IL.out (HJ.out.below hbel.out) (by first | rfl | exact HMQ.out | omega) rfl l2 hq99 HV.out HW.out HZ.out).mono ?_
              rintro e w5 ⟨rfl, hb5⟩
              have D5 := Lib.hid hb5
              have G5 : Hid (Below w.heap.size w w5) := Lib.hid (belT hbel.out hb5)
              have O5 : Hid (OwnI w5 w1.heap.size (lft ws C ps j)) := Lib.hid (hown.out.below hb5)
              clear hb5
              have lc2 := HLL.out
              obtain ⟨p1, p2⟩ := O5.out.at_ (k := j) (by omega)
              clear lc2
              go_wp2_with fail
              go_roundw
              case rel => exact ⟨j + 1, _, _, _, by omega, rfl, rfl, rfl, by go_num, Lib.hid (by rw [← NX.out]; exact O5.out.set_ GT.out _), (by (refine Lib.hid ?_; (repeat' (first | (with_reducible exact Below.refl _ _) | (with_reducible refine belS ?_ (by first | omega | (simp; done) | (simp; omega) | (simp only [World.size_alloc, World.size_setCell, World.size_drew] at *; omega))) | (with_reducible refine belA ?_ (by first | omega | (simp; done) | (simp; omega) | (simp only [World.size_alloc, World.size_setCell, World.size_drew] at *; omega))) | (with_reducible refine bel_drewN ?_ _) | (with_reducible refine Below.drew ?_) | (with_reducible assumption) | (refine Hid.out ?_; with_reducible assumption) | (apply belV; (with_reducible assumption); exact (by first | omega | (simp; done) | (simp; omega) | (simp only [World.size_alloc, World.size_setCell, World.size_drew] at *; omega)))))))⟩
              case measure => simp [intOf]; omega
            · have NX := Lib.hid (lft_in (ws := ws) (a := (C : Int)) hin)
              go_wp2_with fail
              go_roundw
              case rel => exact ⟨j + 1, _, _, _, by omega, rfl, rfl, rfl, by go_num, Lib.hid (by rw [NX.out]; exact hown.out), hbel⟩
              case measure => simp [intOf]; omega
          · have hje : j = ws.length := by omega
            subst hje
            have B := Lib.hid (lft_bd ws C ps HC.out)
            have ll := lft_len ws C ps ws.length
            go_wp2_with fail
            go_ret
            exact ⟨some ⟨w1.heap.size, 0, none⟩, ws.length, by rw [E.out, ll]; rfl, by rw [E.out]; exact OwnS.of_own hown.out z3 hown.out.1 B.out.1 B.out.2, hbel.out⟩
end Go.Proofs.Ytfidahpaidkhgab
