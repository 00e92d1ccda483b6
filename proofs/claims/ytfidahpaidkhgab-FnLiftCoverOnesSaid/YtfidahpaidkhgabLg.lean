
/-
  Lifted covers: the model's coefficients.
-/
import Derived.Test.YtfidahpaidkhgabLf
set_option linter.unusedSimpArgs false
set_option linter.unusedVariables false
namespace Go.Proofs.Ytfidahpaidkhgab
open Go.RowKit

theorem lft_bd (ws : List Int) (a : Int) (ps : List Int) (h : isCov ws a ps = true) : (∀ x ∈ lft ws a ps ws.length, I64 x) ∧ (lft ws a ps ws.length).length ≤ 1048576 := by
  have i := lft_inv h ws.length (Nat.le_refl _)
  have l := cov_len h
  exact ⟨fun x hx => by have := i.2.1 x hx; exact ⟨by omega, by omega⟩, by rw [lft_len]; omega⟩
theorem cset_next {ps : List Int} {n k j : Nat} (hp : ps[k]? = some (j : Int)) : (cset ps n k).set j 1 = cset ps n (k + 1) := by
  simp only [cset]; rw [getD_of hp, Int.toNat_natCast]

set_option maxHeartbeats 16000000 in
set_option maxRecDepth 100000 in
theorem spec_liftCover (A' Q : Option Addr) (n' q c' d : Nat) (a : Int) (ws ps : List Int) (w : World) (hJ : Ints w A' n' ws) (hK : Ints w Q q ps) (hn' : n' ≤ c') (hq : q ≤ maxLen) (h : isCov ws a ps = true) :
    Calls Try.prog 63 #[.slice A' n' c', .int .i64 a, .slice Q q d] w (SliceEnd (lft ws a ps ws.length) w) := by
  obtain ⟨i0, hi0, hz0, hz1, hz2⟩ := info_parts info_int
  obtain rfl := hJ.len
  obtain rfl := hK.len
  have l10 := cov_len h
  obtain ⟨l1, l2⟩ := l10
  have hp0 := cov_pos h
  have h' := h
  simp only [isCov, Bool.and_eq_true, decide_eq_true_eq] at h'
  obtain ⟨f3, f4, f5, f6⟩ := vWts_facts h'.1
  have HPI := Lib.hid (asc_in h'.2.1)
  obtain ⟨C, rfl⟩ := Int.eq_ofNat_of_zero_le f5
  have HC := Lib.hid h; clear h h'
  have HW := Lib.hid f4; clear f4
  have HJ := Lib.hid hJ; clear hJ
  have HK := Lib.hid hK; clear hK
  have hmk := fun W => run_makeN (P := Try.prog) 23 3 i0 (.int .i64 0) Try.underlying23 hi0 hz0 ws.length (by rw [hz2]; omega) (by omega) W
  simp only [hz1, Nat.mul_one] at hmk
  unfold maxLen at hq
  go_enter Try.func63, Try.ntmps63
  go_wp2_with fail
  clear hmk
  go_loopw [8] (fun s8 wr => ∃ k : Nat, k ≤ ps.length ∧ s8 = .int .i64 k ∧ Hid (OwnI wr w.heap.size (cset ps ws.length k)) ∧ Hid (Below w.heap.size w wr)) (fun s8 _ => ps.length - (intOf s8).toNat)
  case atStart => exact ⟨0, by omega, rfl, Lib.hid (by simp only [cset]; (repeat' (first | (with_reducible exact OwnI.madeAt _ _ _ (by first | omega | (simp; done) | (simp; omega) | (simp only [World.size_alloc, World.size_setCell, World.size_drew] at *; omega))) | (with_reducible refine OwnI.far ?_ (by first | omega | (simp; done) | (simp; omega) | (simp only [World.size_alloc, World.size_setCell, World.size_drew] at *; omega)) _) | (with_reducible refine OwnI.alloc ?_ _) | (with_reducible refine OwnI.drewN ?_ _) | (with_reducible refine OwnI.drew ?_) | (with_reducible assumption) | (refine Hid.out ?_; with_reducible assumption) | (apply OwnI.turn; (with_reducible assumption); exact (by first | omega | (simp; done) | (simp; omega) | (simp only [World.size_alloc, World.size_setCell, World.size_drew] at *; omega))) | (apply OwnI.only; (with_reducible assumption); exact (by first | omega | (simp; done) | (simp; omega) | (simp only [World.size_alloc, World.size_setCell, World.size_drew] at *; omega))) | (apply OwnI.belowD; (with_reducible assumption))))), by (refine Lib.hid ?_; (repeat' (first | (with_reducible exact Below.refl _ _) | (with_reducible refine belS ?_ (by first | omega | (simp; done) | (simp; omega) | (simp only [World.size_alloc, World.size_setCell, World.size_drew] at *; omega))) | (with_reducible refine belA ?_ (by first | omega | (simp; done) | (simp; omega) | (simp only [World.size_alloc, World.size_setCell, World.size_drew] at *; omega))) | (with_reducible refine bel_drewN ?_ _) | (with_reducible refine Below.drew ?_) | (with_reducible assumption) | (refine Hid.out ?_; with_reducible assumption) | (apply belV; (with_reducible assumption); exact (by first | omega | (simp; done) | (simp; omega) | (simp only [World.size_alloc, World.size_setCell, World.size_drew] at *; omega))))))⟩
  case round =>
    obtain ⟨k, hk, rfl, hown, hbel⟩ := hrel
    by_cases hlt : k < ps.length
    · obtain ⟨b, off, p, rfl, hb, hp, _, _, hc⟩ := (HK.out.below hbel.out).at_ hlt
      obtain ⟨p0, p1⟩ := HPI.out p (List.mem_of_getElem? hp)
      obtain ⟨j, rfl⟩ := Int.eq_ofNat_of_zero_le p0
      have NX := Lib.hid (cset_next (n := ws.length) hp)
      clear hp
      have cl := cset_len ps ws.length k
      obtain ⟨o1, o2⟩ := hown.out.at_ (k := j) (by omega)
      have gt : (cset ps ws.length k)[j]? = some ((cset ps ws.length k).getD j 0) := getD_mem (by omega)
      have GT := Lib.hid gt; clear gt cl
      go_wp2_with fail
      go_roundw
      case rel => exact ⟨k + 1, by omega, by go_num, Lib.hid (by rw [← NX.out]; exact hown.out.set_ GT.out 1), by (refine Lib.hid ?_; (repeat' (first | (with_reducible exact Below.refl _ _) | (with_reducible refine belS ?_ (by first | omega | (simp; done) | (simp; omega) | (simp only [World.size_alloc, World.size_setCell, World.size_drew] at *; omega))) | (with_reducible refine belA ?_ (by first | omega | (simp; done) | (simp; omega) | (simp only [World.size_alloc, World.size_setCell, World.size_drew] at *; omega))) | (with_reducible refine bel_drewN ?_ _) | (with_reducible refine Below.drew ?_) | (with_reducible assumption) | (refine Hid.out ?_; with_reducible assumption) | (apply belV; (with_reducible assumption); exact (by first | omega | (simp; done) | (simp; omega) | (simp only [World.size_alloc, World.size_setCell, World.size_drew] at *; omega))))))⟩
      case measure => simp [intOf]; omega
    · have hke : k = ps.length := by omega
      subst hke
      have H0 : Hid (OwnI wr w.heap.size (lft ws C ps 0)) := hown
      clear hown
      go_wp2_with fail
      go_loopw [9, 10] (fun s9 s10 wr => ∃ (j : Nat) (u10 : Value), j ≤ ws.length ∧ s9 = .int .i64 j ∧ s10 = u10 ∧ Hid (OwnI wr w.heap.size (lft ws C ps j)) ∧ Hid (Below w.heap.size w wr)) (fun s9 _ _ => ws.length - (intOf s9).toNat)
      case atStart => exact ⟨0, _, by omega, rfl, rfl, H0, hbel⟩
      case round =>
        obtain ⟨j, u10, hj, rfl, rfl, hown, hbel⟩ := hrel
        clear H0
        have zr := hbel.out.size
        by_cases hlt : j < ws.length
        · have KR : Hid (Ints wr Q ps.length ps) := Lib.hid (HK.out.below hbel.out)
          have hqm : ps.length ≤ maxLen := by unfold maxLen; omega
          go_wp2_with fail
          refine (spec_isIn _ _ _ ps (j : Int) _ KR.out hqm).mono ?_
          rintro e wl ⟨rfl, rfl⟩
          cases hin : decide ((j : Int) ∈ ps)
          · obtain ⟨b', off', x, rfl, hb', hx, _, _, hcx⟩ := (HJ.out.below hbel.out).at_ hlt
            obtain ⟨x1, x2⟩ := HW.out x (List.mem_of_getElem? hx)
            obtain ⟨W, rfl⟩ := Int.eq_ofNat_of_zero_le (show 0 ≤ x by omega)
            obtain ⟨lv, lp⟩ := lft_at HC.out hlt
            have v0 := lp hin
            have ev : lval ws C (ps.length - 1) (lft ws C ps j) j = ((ps.length : Int) - 1) - best (lft ws C ps j) ws ((C : Int) - W).toNat := by unfold lval; rw [getD_of hx]
            have HV := Lib.hid lv; clear lv lp
            have HX := Lib.hid hx; clear hx
            have ll := lft_len ws C ps j
            obtain ⟨o1, o2⟩ := hown.out.at_ (k := j) (by omega)
            have gt : (lft ws C ps j)[j]? = some ((lft ws C ps j).getD j 0) := getD_mem (by omega)
            have GT := Lib.hid gt; clear gt
            have HLL := Lib.hid ll; clear ll
            have bz := best_zero (lft ws C ps j) ws HV.out HW.out
            have bb := best_bd (ws := ws) HV.out ((C : Int) - W).toNat
            rw [ev] at v0
            by_cases hge : W ≤ C
            · obtain ⟨q, hq'⟩ : ∃ q : Nat, q = C - W := ⟨_, rfl⟩
              have eqw : IntKind.i64.wrap ((C : Int) - (W : Int)) = (q : Int) := by rw [IntWalk.i64_in _ ⟨by omega, by omega⟩]; omega
              have hqq : ((C : Int) - W).toNat = q := by omega
              have hq99 : q ≤ 99 := by omega
              rw [hqq] at ev v0 bb
              obtain ⟨T, hT⟩ : ∃ T, T = ktab (lft ws C ps j) ws q := ⟨_, rfl⟩
              have t1 : q < T.length := by rw [hT, ktab_len]; omega
              have t2 : T.length ≤ 1000 := by rw [hT, ktab_len]; omega
              have t3 : T.getD q 0 = best (lft ws C ps j) ws q := by rw [hT]; exact ktab_at (by rw [HLL.out]) HV.out HW.out l2 (Nat.le_refl _)
              have HT := Lib.hid hT; clear hT
              obtain ⟨m, hm⟩ : ∃ m, m = best (lft ws C ps j) ws q := ⟨_, rfl⟩
              rw [← hm] at ev v0 bb t3
              have HT3 := Lib.hid t3; clear t3
              have NX := Lib.hid (lft_out (v := max 0 ((ps.length : Int) - 1 - m)) hin (by rw [ev]; omega))
              clear ev hm bz hq' hqq
              have hmx : ¬ ((ps.length : Int) - 1 - m) < 0 := by omega
              obtain ⟨bb0, bb1⟩ := bb
              have IL : Hid (Ints wr (some ⟨w.heap.size, 0, none⟩) ws.length (lft ws C ps j)) := Lib.hid (by have := hown.out.ints (fun x hx => by have := HV.out x hx; exact ⟨by omega, by omega⟩); rwa [HLL.out] at this)
              have cW := hcx
              go_wp2_with fail
              go_region_with
                ((first
                  | (go_at_call 47; refine (spec_kt _ _ _ _ _ _ _ q (lft ws C ps j) ws T _ (IL.out.below (by (repeat' (first | (with_reducible exact Below.refl _ _) | (with_reducible refine belS ?_ (by first | omega | (simp; done) | (simp; omega) | (simp only [World.size_alloc, World.size_setCell, World.size_drew] at *; omega))) | (with_reducible refine belA ?_ (by first | omega | (simp; done) | (simp; omega) | (simp only [World.size_alloc, World.size_setCell, World.size_drew] at *; omega))) | (with_reducible refine bel_drewN ?_ _) | (with_reducible refine Below.drew ?_) | (with_reducible assumption) | (refine Hid.out ?_; with_reducible assumption) | (apply belV; (with_reducible assumption); exact (by first | omega | (simp; done) | (simp; omega) | (simp only [World.size_alloc, World.size_setCell, World.size_drew] at *; omega))))))) (HJ.out.below (by (repeat' (first | (with_reducible exact Below.refl _ _) | (with_reducible refine belS ?_ (by first | omega | (simp; done) | (simp; omega) | (simp only [World.size_alloc, World.size_setCell, World.size_drew] at *; omega))) | (with_reducible refine belA ?_ (by first | omega | (simp; done) | (simp; omega) | (simp only [World.size_alloc, World.size_setCell, World.size_drew] at *; omega))) | (with_reducible refine bel_drewN ?_ _) | (with_reducible refine Below.drew ?_) | (with_reducible assumption) | (refine Hid.out ?_; with_reducible assumption) | (apply belV; (with_reducible assumption); exact (by first | omega | (simp; done) | (simp; omega) | (simp only [World.size_alloc, World.size_setCell, World.size_drew] at *; omega))))))) (by omega) rfl (by omega) (by omega) HW.out HT.out).mono ?_; rintro e w2 ⟨A2, d2, rfl, ho, hb⟩; have G2 : Hid (Below w.heap.size w w2) := belU hb (by (repeat' (first | (with_reducible exact Below.refl _ _) | (with_reducible refine belS ?_ (by first | omega | (simp; done) | (simp; omega) | (simp only [World.size_alloc, World.size_setCell, World.size_drew] at *; omega))) | (with_reducible refine belA ?_ (by first | omega | (simp; done) | (simp; omega) | (simp only [World.size_alloc, World.size_setCell, World.size_drew] at *; omega))) | (with_reducible refine bel_drewN ?_ _) | (with_reducible refine Below.drew ?_) | (with_reducible assumption) | (refine Hid.out ?_; with_reducible assumption) | (apply belV; (with_reducible assumption); exact (by first | omega | (simp; done) | (simp; omega) | (simp only [World.size_alloc, World.size_setCell, World.size_drew] at *; omega)))))) (by first | omega | (simp; done) | (simp; omega) | (simp only [World.size_alloc, World.size_setCell, World.size_drew] at *; omega)); (try simp only [World.size_alloc, World.size_setCell, World.size_drew, World.heap_drewN] at ho); have W2 := Lib.hid ho; clear ho; have z2 := hb.size; (try simp at z2); obtain ⟨hc2, hf2⟩ := bcell hb; have D2 := Lib.hid hb; clear hb; have cW2 := (HJ.out.below (w' := w2) (by (repeat' (first | (with_reducible exact Below.refl _ _) | (with_reducible refine belS ?_ (by first | omega | (simp; done) | (simp; omega) | (simp only [World.size_alloc, World.size_setCell, World.size_drew] at *; omega))) | (with_reducible refine belA ?_ (by first | omega | (simp; done) | (simp; omega) | (simp only [World.size_alloc, World.size_setCell, World.size_drew] at *; omega))) | (with_reducible refine bel_drewN ?_ _) | (with_reducible refine Below.drew ?_) | (with_reducible assumption) | (refine Hid.out ?_; with_reducible assumption) | (apply belV; (with_reducible assumption); exact (by first | omega | (simp; done) | (simp; omega) | (simp only [World.size_alloc, World.size_setCell, World.size_drew] at *; omega))))))).cellAt HX.out; obtain ⟨bT, oT, mm, rfl, -, hmm, -, -, hcT⟩ := (OwnS.ints W2.out).at_ t1; have emm : mm = m := Eq.trans (Eq.symm (getD_of hmm)) HT3.out; clear hmm; subst emm)))
              all_goals
                have O2 : Hid (OwnI w2 w.heap.size (lft ws C ps j)) := Lib.hid (OwnI.belowD D2 (by first | exact hown.out.drew | exact hown.out | exact hown.out.drewN _))
                have lc2 := HLL.out
                obtain ⟨p1, p2⟩ := O2.out.at_ (k := j) (by omega)
                clear lc2
                go_wp2_with fail
                go_roundw
                case rel => exact ⟨j + 1, _, by omega, by go_num, rfl, Lib.hid (by rw [← NX.out]; exact O2.out.set_ GT.out _), (by (refine Lib.hid ?_; (repeat' (first | (with_reducible exact Below.refl _ _) | (with_reducible refine belS ?_ (by first | omega | (simp; done) | (simp; omega) | (simp only [World.size_alloc, World.size_setCell, World.size_drew] at *; omega))) | (with_reducible refine belA ?_ (by first | omega | (simp; done) | (simp; omega) | (simp only [World.size_alloc, World.size_setCell, World.size_drew] at *; omega))) | (with_reducible refine bel_drewN ?_ _) | (with_reducible refine Below.drew ?_) | (with_reducible assumption) | (refine Hid.out ?_; with_reducible assumption) | (apply belV; (with_reducible assumption); exact (by first | omega | (simp; done) | (simp; omega) | (simp only [World.size_alloc, World.size_setCell, World.size_drew] at *; omega)))))))⟩
                case measure => simp [intOf]; omega
            · have hqq : ((C : Int) - W).toNat = 0 := by omega
              rw [hqq, bz] at ev
              have NX := Lib.hid (lft_out (v := max 0 ((ps.length : Int) - 1)) hin (by rw [ev]; omega))
              clear ev v0 bz bb hqq
              have cW := hcx
              go_wp2_with fail
              go_roundw
              case rel => exact ⟨j + 1, _, by omega, by go_num, rfl, Lib.hid (by rw [← NX.out]; exact hown.out.set_ GT.out _), (by (refine Lib.hid ?_; (repeat' (first | (with_reducible exact Below.refl _ _) | (with_reducible refine belS ?_ (by first | omega | (simp; done) | (simp; omega) | (simp only [World.size_alloc, World.size_setCell, World.size_drew] at *; omega))) | (with_reducible refine belA ?_ (by first | omega | (simp; done) | (simp; omega) | (simp only [World.size_alloc, World.size_setCell, World.size_drew] at *; omega))) | (with_reducible refine bel_drewN ?_ _) | (with_reducible refine Below.drew ?_) | (with_reducible assumption) | (refine Hid.out ?_; with_reducible assumption) | (apply belV; (with_reducible assumption); exact (by first | omega | (simp; done) | (simp; omega) | (simp only [World.size_alloc, World.size_setCell, World.size_drew] at *; omega)))))))⟩
              case measure => simp [intOf]; omega
          · have NX := Lib.hid (lft_in (ws := ws) (a := (C : Int)) hin)
            go_wp2_with fail
            go_roundw
            case rel => exact ⟨j + 1, _, by omega, by go_num, rfl, Lib.hid (by rw [NX.out]; exact hown.out), hbel⟩
            case measure => simp [intOf]; omega
        · have hje : j = ws.length := by omega
          subst hje
          have ll := lft_len ws C ps ws.length
          have B := Lib.hid (lft_bd ws C ps HC.out)
          go_wp2_with fail
          go_ret
          exact ⟨some ⟨w.heap.size, 0, none⟩, ws.length, by rw [ll]; rfl, OwnS.of_own hown.out (Nat.le_refl _) hown.out.1 B.out.1 B.out.2, hbel.out⟩
end Go.Proofs.Ytfidahpaidkhgab
