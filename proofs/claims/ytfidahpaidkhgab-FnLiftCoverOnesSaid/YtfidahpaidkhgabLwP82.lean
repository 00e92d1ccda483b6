
/-
  The walk of the law on lifted covers: the items of the cover keep 1, and no coefficient can be greater.
-/
import Derived.Test.YtfidahpaidkhgabLwP81
import Derived.Test.YtfidahpaidkhgabQb
set_option linter.unusedSimpArgs false
set_option linter.unusedVariables false
namespace Go.Proofs.Ytfidahpaidkhgab
open Go.RowKit

theorem kLift_facts {ws ps : List Int} {a : Int} (h : 0 < (kLift ws a ps).length) : isCov ws a ps = true ∧ kLift ws a ps = lft ws a ps ws.length := by
  cases h1 : isCov ws a ps with
  | false => rw [kLift_1 h1] at h; simp at h
  | true =>
    by_cases h2 : mCov ws a ps = ps
    · exact ⟨rfl, kLift_3 h1 h2⟩
    · rw [kLift_2 h2] at h; simp at h

set_option maxHeartbeats 8000000 in
set_option maxRecDepth 100000 in
theorem FnLiftCoverOnes_walk (a : Option Addr) (len cap : Nat) (w : World) (h : By w.heap.size w a len cap) :
    Calls Try.prog 7 #[.slice a len cap] w fun e w' => e = .returned (.bool true) ∧ Below w.heap.size w w' := by
  obtain ⟨i0, hi0, hz0, hz1, hz2⟩ := info_parts info_int
  have hl := h.1
  have hl2 := h.2.1
  unfold maxLen at hl2
  have H := Lib.hid h; clear h
  by_cases hbig : 1048576 < len
  · go_enter Try.func7, Try.ntmps7
    go_wp2_with fail
    go_ret
    exact ⟨rfl, Below.refl _ _⟩
  · go_enter Try.func7, Try.ntmps7
    go_wp2_with fail
    refine (DrawLiftCover_anyF _ _ _ _ H.out).mono ?_
    rintro e wdr ⟨A', Q, n', q, c', d, x, ws, ps, rfl, hj, hk, lc', mc', h12', hq20, x0, x1, hb⟩
    have Gdr : Hid (Below w.heap.size w wdr) := belU hb (by (repeat' (first | (with_reducible exact Below.refl _ _) | (with_reducible refine belS ?_ (by first | omega | (simp; done) | (simp; omega) | (simp only [World.size_alloc, World.size_setCell, World.size_drew] at *; omega))) | (with_reducible refine belA ?_ (by first | omega | (simp; done) | (simp; omega) | (simp only [World.size_alloc, World.size_setCell, World.size_drew] at *; omega))) | (with_reducible refine bel_drewN ?_ _) | (with_reducible refine Below.drew ?_) | (with_reducible assumption) | (refine Hid.out ?_; with_reducible assumption) | (apply belV; (with_reducible assumption); exact (by first | omega | (simp; done) | (simp; omega) | (simp only [World.size_alloc, World.size_setCell, World.size_drew] at *; omega)))))) (by first | omega | (simp; done) | (simp; omega) | (simp only [World.size_alloc, World.size_setCell, World.size_drew] at *; omega))
    have JF := Lib.hid hj; clear hj
    have KF := Lib.hid hk; clear hk
    have zdr := hb.size
    (try simp at zdr)
    have Ddr := Lib.hid hb; clear hb
    have J := Lib.hid JF.out.out
    have K := Lib.hid KF.out.out
    have hm' : n' ≤ maxLen := Nat.le_trans lc' mc'
    have hmq : q ≤ maxLen := by unfold maxLen; omega
    have hwl := J.out.len
    have hpl := K.out.len
    obtain ⟨T, hT⟩ : ∃ T, kLift ws x ps = T := ⟨_, rfl⟩
    have hTl : T.length ≤ 12 := by rw [← hT]; have := kLift_len ws x ps; omega
    have hTm : T.length ≤ maxLen := by unfold maxLen; omega
    have HF : Hid (0 < T.length → isCov ws x ps = true ∧ T = lft ws x ps ws.length) := Lib.hid (fun h0 => by rw [← hT] at h0 ⊢; exact kLift_facts h0)
    have HWL := Lib.hid hwl
    have HPL := Lib.hid hpl
    have E := Lib.hid hT; clear hT hwl hpl
    go_wp2_with fail
    refine (impl_LCt _ _ _ _ _ _ x ws ps T _ (J.out.below (by (repeat' (first | (with_reducible exact Below.refl _ _) | (with_reducible refine belS ?_ (by first | omega | (simp; done) | (simp; omega) | (simp only [World.size_alloc, World.size_setCell, World.size_drew] at *; omega))) | (with_reducible refine belA ?_ (by first | omega | (simp; done) | (simp; omega) | (simp only [World.size_alloc, World.size_setCell, World.size_drew] at *; omega))) | (with_reducible refine bel_drewN ?_ _) | (with_reducible refine Below.drew ?_) | (with_reducible assumption) | (refine Hid.out ?_; with_reducible assumption) | (apply belV; (with_reducible assumption); exact (by first | omega | (simp; done) | (simp; omega) | (simp only [World.size_alloc, World.size_setCell, World.size_drew] at *; omega))))))) (K.out.below (by (repeat' (first | (with_reducible exact Below.refl _ _) | (with_reducible refine belS ?_ (by first | omega | (simp; done) | (simp; omega) | (simp only [World.size_alloc, World.size_setCell, World.size_drew] at *; omega))) | (with_reducible refine belA ?_ (by first | omega | (simp; done) | (simp; omega) | (simp only [World.size_alloc, World.size_setCell, World.size_drew] at *; omega))) | (with_reducible refine bel_drewN ?_ _) | (with_reducible refine Below.drew ?_) | (with_reducible assumption) | (refine Hid.out ?_; with_reducible assumption) | (apply belV; (with_reducible assumption); exact (by first | omega | (simp; done) | (simp; omega) | (simp only [World.size_alloc, World.size_setCell, World.size_drew] at *; omega))))))) hm' hmq lc' E.out).mono ?_
    rintro e wim ⟨A1, d1, rfl, lcT, ho, hb⟩
    have Gim : Hid (Below w.heap.size w wim) := belU hb (by (repeat' (first | (with_reducible exact Below.refl _ _) | (with_reducible refine belS ?_ (by first | omega | (simp; done) | (simp; omega) | (simp only [World.size_alloc, World.size_setCell, World.size_drew] at *; omega))) | (with_reducible refine belA ?_ (by first | omega | (simp; done) | (simp; omega) | (simp only [World.size_alloc, World.size_setCell, World.size_drew] at *; omega))) | (with_reducible refine bel_drewN ?_ _) | (with_reducible refine Below.drew ?_) | (with_reducible assumption) | (refine Hid.out ?_; with_reducible assumption) | (apply belV; (with_reducible assumption); exact (by first | omega | (simp; done) | (simp; omega) | (simp only [World.size_alloc, World.size_setCell, World.size_drew] at *; omega)))))) (by first | omega | (simp; done) | (simp; omega) | (simp only [World.size_alloc, World.size_setCell, World.size_drew] at *; omega))
    (try simp only [World.size_alloc, World.size_setCell, World.size_drew, World.heap_drewN] at ho)
    have W1 := Lib.hid ho; clear ho
    have zim := hb.size
    (try simp at zim)
    have Dim := Lib.hid hb; clear hb
    go_wp2_with fail
    refine (spec_LCt _ _ _ _ _ _ x ws ps T _ (J.out.below (by (repeat' (first | (with_reducible exact Below.refl _ _) | (with_reducible refine belS ?_ (by first | omega | (simp; done) | (simp; omega) | (simp only [World.size_alloc, World.size_setCell, World.size_drew] at *; omega))) | (with_reducible refine belA ?_ (by first | omega | (simp; done) | (simp; omega) | (simp only [World.size_alloc, World.size_setCell, World.size_drew] at *; omega))) | (with_reducible refine bel_drewN ?_ _) | (with_reducible refine Below.drew ?_) | (with_reducible assumption) | (refine Hid.out ?_; with_reducible assumption) | (apply belV; (with_reducible assumption); exact (by first | omega | (simp; done) | (simp; omega) | (simp only [World.size_alloc, World.size_setCell, World.size_drew] at *; omega))))))) (K.out.below (by (repeat' (first | (with_reducible exact Below.refl _ _) | (with_reducible refine belS ?_ (by first | omega | (simp; done) | (simp; omega) | (simp only [World.size_alloc, World.size_setCell, World.size_drew] at *; omega))) | (with_reducible refine belA ?_ (by first | omega | (simp; done) | (simp; omega) | (simp only [World.size_alloc, World.size_setCell, World.size_drew] at *; omega))) | (with_reducible refine bel_drewN ?_ _) | (with_reducible refine Below.drew ?_) | (with_reducible assumption) | (refine Hid.out ?_; with_reducible assumption) | (apply belV; (with_reducible assumption); exact (by first | omega | (simp; done) | (simp; omega) | (simp only [World.size_alloc, World.size_setCell, World.size_drew] at *; omega))))))) hm' hmq lc' E.out).mono ?_
    rintro e wsp ⟨A2, d2, rfl, ho, hb⟩
    have Gsp : Hid (Below w.heap.size w wsp) := belU hb (by (repeat' (first | (with_reducible exact Below.refl _ _) | (with_reducible refine belS ?_ (by first | omega | (simp; done) | (simp; omega) | (simp only [World.size_alloc, World.size_setCell, World.size_drew] at *; omega))) | (with_reducible refine belA ?_ (by first | omega | (simp; done) | (simp; omega) | (simp only [World.size_alloc, World.size_setCell, World.size_drew] at *; omega))) | (with_reducible refine bel_drewN ?_ _) | (with_reducible refine Below.drew ?_) | (with_reducible assumption) | (refine Hid.out ?_; with_reducible assumption) | (apply belV; (with_reducible assumption); exact (by first | omega | (simp; done) | (simp; omega) | (simp only [World.size_alloc, World.size_setCell, World.size_drew] at *; omega)))))) (by first | omega | (simp; done) | (simp; omega) | (simp only [World.size_alloc, World.size_setCell, World.size_drew] at *; omega))
    (try simp only [World.size_alloc, World.size_setCell, World.size_drew, World.heap_drewN] at ho)
    have W2 := Lib.hid ho; clear ho
    have zsp := hb.size
    (try simp at zsp)
    have Dsp := Lib.hid hb; clear hb
    go_wp2_with fail
    refine (laws_equalInts _ _ _ _ _ T _ (OwnS.ints (OwnS.by_ W1 (by (repeat' (first | (with_reducible exact OwnS.madeAt _ _ _ (by first | omega | (simp; done) | (simp; omega) | (simp only [World.size_alloc, World.size_setCell, World.size_drew] at *; omega))) | (with_reducible refine OwnS.far ?_ (by first | omega | (simp; done) | (simp; omega) | (simp only [World.size_alloc, World.size_setCell, World.size_drew] at *; omega)) _) | (with_reducible refine OwnS.alloc ?_ _) | (with_reducible refine OwnS.drewN ?_ _) | (with_reducible refine OwnS.drew ?_) | (with_reducible assumption) | (refine Hid.out ?_; with_reducible assumption) | (apply OwnS.turn; (with_reducible assumption); exact (by first | omega | (simp; done) | (simp; omega) | (simp only [World.size_alloc, World.size_setCell, World.size_drew] at *; omega))) | (apply OwnS.only; (with_reducible assumption); exact (by first | omega | (simp; done) | (simp; omega) | (simp only [World.size_alloc, World.size_setCell, World.size_drew] at *; omega))) | (apply OwnS.belowD; (with_reducible assumption))))))) (OwnS.ints (OwnS.by_ W2 (by (repeat' (first | (with_reducible exact OwnS.madeAt _ _ _ (by first | omega | (simp; done) | (simp; omega) | (simp only [World.size_alloc, World.size_setCell, World.size_drew] at *; omega))) | (with_reducible refine OwnS.far ?_ (by first | omega | (simp; done) | (simp; omega) | (simp only [World.size_alloc, World.size_setCell, World.size_drew] at *; omega)) _) | (with_reducible refine OwnS.alloc ?_ _) | (with_reducible refine OwnS.drewN ?_ _) | (with_reducible refine OwnS.drew ?_) | (with_reducible assumption) | (refine Hid.out ?_; with_reducible assumption) | (apply OwnS.turn; (with_reducible assumption); exact (by first | omega | (simp; done) | (simp; omega) | (simp only [World.size_alloc, World.size_setCell, World.size_drew] at *; omega))) | (apply OwnS.only; (with_reducible assumption); exact (by first | omega | (simp; done) | (simp; omega) | (simp only [World.size_alloc, World.size_setCell, World.size_drew] at *; omega))) | (apply OwnS.belowD; (with_reducible assumption))))))) (by omega)).mono ?_
    rintro e we1 ⟨rfl, hb⟩
    have Ge1 : Hid (Below w.heap.size w we1) := belU hb (by (repeat' (first | (with_reducible exact Below.refl _ _) | (with_reducible refine belS ?_ (by first | omega | (simp; done) | (simp; omega) | (simp only [World.size_alloc, World.size_setCell, World.size_drew] at *; omega))) | (with_reducible refine belA ?_ (by first | omega | (simp; done) | (simp; omega) | (simp only [World.size_alloc, World.size_setCell, World.size_drew] at *; omega))) | (with_reducible refine bel_drewN ?_ _) | (with_reducible refine Below.drew ?_) | (with_reducible assumption) | (refine Hid.out ?_; with_reducible assumption) | (apply belV; (with_reducible assumption); exact (by first | omega | (simp; done) | (simp; omega) | (simp only [World.size_alloc, World.size_setCell, World.size_drew] at *; omega)))))) (by first | omega | (simp; done) | (simp; omega) | (simp only [World.size_alloc, World.size_setCell, World.size_drew] at *; omega))
    have ze1 := hb.size
    (try simp at ze1)
    have De1 := Lib.hid hb; clear hb
    have IT : Hid (Ints we1 A1 T.length T) := Lib.hid (OwnS.ints (OwnS.by_ W1 (by (repeat' (first | (with_reducible exact OwnS.madeAt _ _ _ (by first | omega | (simp; done) | (simp; omega) | (simp only [World.size_alloc, World.size_setCell, World.size_drew] at *; omega))) | (with_reducible refine OwnS.far ?_ (by first | omega | (simp; done) | (simp; omega) | (simp only [World.size_alloc, World.size_setCell, World.size_drew] at *; omega)) _) | (with_reducible refine OwnS.alloc ?_ _) | (with_reducible refine OwnS.drewN ?_ _) | (with_reducible refine OwnS.drew ?_) | (with_reducible assumption) | (refine Hid.out ?_; with_reducible assumption) | (apply OwnS.turn; (with_reducible assumption); exact (by first | omega | (simp; done) | (simp; omega) | (simp only [World.size_alloc, World.size_setCell, World.size_drew] at *; omega))) | (apply OwnS.only; (with_reducible assumption); exact (by first | omega | (simp; done) | (simp; omega) | (simp only [World.size_alloc, World.size_setCell, World.size_drew] at *; omega))) | (apply OwnS.belowD; (with_reducible assumption)))))))
    by_cases h0 : 0 < T.length
    · have hT0 : ((T.length : Int) == 0) = false := by rw [beq_eq_false_iff_ne]; omega
      obtain ⟨hcov, hTe⟩ := HF.out h0
      have hTn : T.length = n' := by rw [hTe, lft_len, HWL.out]
      have hend : ((T.length : Int) == (n' : Int)) = true := by rw [beq_iff_eq]; omega
      have LONE : Hid (∀ i, i < T.length → decide ((i : Int) ∈ ps) = true → T.getD i 0 = 1) := Lib.hid (fun i hi hm => by rw [hTe]; exact lft_one hcov (by rw [HWL.out]; omega) hm)
      have LZL : Hid (∀ i, i < T.length → zl T ps i T.length = lft ws x ps (i + 1)) := Lib.hid (fun i hi => by
        have hn : T.length = ws.length := by rw [hTn, HWL.out]
        rw [hn, hTe]; exact zl_end hcov (by omega))
      have LM : Hid (∀ i, (lft ws x ps i).length = T.length) := Lib.hid (fun i => by rw [lft_len, HWL.out, hTn])
      have LB : Hid (∀ i, i ≤ T.length → ∀ y ∈ lft ws x ps i, 0 ≤ y ∧ y ≤ 10) := Lib.hid (fun i hi => (lft_inv hcov i (by rw [HWL.out]; omega)).2.1)
      have LMORE : Hid (∀ i, i < T.length → decide ((i : Int) ∈ ps) = false → ws.getD i 0 ≤ x → covB ws x ((lft ws x ps (i + 1)).set i ((lft ws x ps (i + 1)).getD i 0 + 1)) ((q : Int) - 1) = false) := Lib.hid (fun i hi hm hw => by rw [← HPL.out]; exact lft_more hcov (by rw [HWL.out]; omega) hm hw)
      have HTN : Hid (T.length = n') := Lib.hid hTn
      clear hTe hcov hTn
      have BD : Hid (Below wdr.heap.size wdr we1) := Lib.hid (by (repeat' (first | (with_reducible exact Below.refl _ _) | (with_reducible refine belS ?_ (by first | omega | (simp; done) | (simp; omega) | (simp only [World.size_alloc, World.size_setCell, World.size_drew] at *; omega))) | (with_reducible refine belA ?_ (by first | omega | (simp; done) | (simp; omega) | (simp only [World.size_alloc, World.size_setCell, World.size_drew] at *; omega))) | (with_reducible refine bel_drewN ?_ _) | (with_reducible refine Below.drew ?_) | (with_reducible assumption) | (refine Hid.out ?_; with_reducible assumption) | (apply belV; (with_reducible assumption); exact (by first | omega | (simp; done) | (simp; omega) | (simp only [World.size_alloc, World.size_setCell, World.size_drew] at *; omega))))))
      obtain ⟨b1, o1, _, rfl, -, -, -, -, -⟩ := IT.out.at_ h0
      have zb := BD.out.size
      go_wp2_with fail
      go_loopw [7, 8, 9] (fun s7 s8 s9 wr => ∃ (i : Nat) (u8 u9 : Value), i ≤ T.length ∧ s7 = .int .i64 i ∧ s8 = u8 ∧ s9 = u9 ∧ Hid (Below we1.heap.size we1 wr)) (fun s7 _ _ _ => T.length - (intOf s7).toNat)
      case atStart => exact ⟨0, _, _, by omega, rfl, rfl, rfl, Lib.hid (Below.refl _ _)⟩
      case round =>
        obtain ⟨i, u8, u9, hil, rfl, rfl, rfl, hbel⟩ := hrel
        have GD : Hid (Below wdr.heap.size wdr wr) := Lib.hid (belU hbel.out BD.out zb)
        have zr := GD.out.size
        by_cases hlt : i < T.length
        · have IR := Lib.hid (IT.out.below hbel.out)
          obtain ⟨_, _, p, e, hbp, hp, p1, p2, hcp⟩ := IR.out.at_ hlt
          injection e with e; injection e with e1 e2; subst e1 e2
          have HP := Lib.hid hp; clear hp
          cases hin : decide ((i : Int) ∈ ps)
          · have hin' : i < n' := by have := HTN.out; omega
            have own0 := Lib.hid (World.ownsRow_made (base := wr.heap.size) (e := 3) (size := 1) wr #[] 0 (Nat.le_refl _) (Nat.zero_le _) rfl)
            have HW : Hid (Ints (wr.alloc (.cells #[] 3)) (some ⟨b1, o1, none⟩) T.length T) := IR.out.below (by (repeat' (first | (with_reducible exact Below.refl _ _) | (with_reducible refine belS ?_ (by first | omega | (simp; done) | (simp; omega) | (simp only [World.size_alloc, World.size_setCell, World.size_drew] at *; omega))) | (with_reducible refine belA ?_ (by first | omega | (simp; done) | (simp; omega) | (simp only [World.size_alloc, World.size_setCell, World.size_drew] at *; omega))) | (with_reducible refine bel_drewN ?_ _) | (with_reducible refine Below.drew ?_) | (with_reducible assumption) | (refine Hid.out ?_; with_reducible assumption) | (apply belV; (with_reducible assumption); exact (by first | omega | (simp; done) | (simp; omega) | (simp only [World.size_alloc, World.size_setCell, World.size_drew] at *; omega))))))
            have HTI := Lib.hid HW.out.2.1
            go_wp2_with fail
            refine (laws_isIn _ _ _ ps (i : Int) _ (K.out.below GD.out) hmq).mono ?_
            rintro e wl ⟨rfl, rfl⟩
            rw [hin]
            go_wp2_with (
              at_builtin
              refine wpList_append_own _ rfl (.tmp 55) (.tmp 56) 23 rfl wr.heap.size 3 i0 (.int .i64 0) 1 8 Try.underlying23 hi0 hz0 hz1 hz2 rfl (by decide) (.slice (some ⟨wr.heap.size, 0, none⟩) 0 0) 0 [] rfl own0.out ⟨b1, o1, none⟩ T.length d1 (T.map (Value.int .i64)) rfl ?c0 (news_at HW.out) (one_ints T) ?c3 ?c4 ?c5 ?_
              case c0 => rw [List.length_map]; omega
              case c3 => unfold maxLen; omega
              case c4 => omega
              case c5 => simp
              intro v4 w4 hown' hgrow hnil
              have N4 : v4 ≠ .slice none 0 0 := fun h => by have := (hnil.1 h).1; simp at this
              have R4 : Grow w4 wr.heap.size 3 v4 T := by unfold Grow; simpa using hown'
              have G4 : Hid (Below wr.heap.size wr w4) := ((Below.refl wr.heap.size wr).alloc (Nat.le_refl _) _).grown hgrow (by simp) (fun j hj => by simp [Value.ownBlock] at hj; omega)
              obtain ⟨g, c4, rfl, hg, og, lc4, mc4, ig⟩ := Grow.block R4 N4 HTI.out
              have OG := Lib.hid og
              clear hown' hgrow hnil R4 N4 og ig)
            obtain ⟨wo, hwo⟩ : ∃ wo, wo = wr := ⟨_, rfl⟩
            have GO : Hid (Below wdr.heap.size wdr wo) := Lib.hid (by rw [hwo]; exact GD.out)
            have EO : Hid (Below we1.heap.size we1 wo) := Lib.hid (by rw [hwo]; exact hbel.out)
            have F4 : Hid (Below wo.heap.size wo w4) := Lib.hid (by rw [hwo]; exact G4.out)
            have hgo : wo.heap.size ≤ g := by rw [hwo]; exact hg
            have zo1 := GO.out.size
            have zo2 := EO.out.size
            clear hwo
            have OGz : Hid (OwnI w4 g (zl T ps i (i + 1))) := Lib.hid (by rw [zl_low (Nat.le_refl _)]; exact OG.out)
            go_loopw [9] (fun s9 wr => ∃ m : Nat, i + 1 ≤ m ∧ m ≤ T.length ∧ s9 = .int .i64 m ∧ Hid (OwnI wr g (zl T ps i m)) ∧ Hid (Below wo.heap.size wo wr)) (fun s9 _ => T.length - (intOf s9).toNat)
            case atStart => exact ⟨i + 1, by omega, by omega, by go_num, OGz, F4⟩
            case round =>
              obtain ⟨m, him, hml, rfl, hown, hbel2⟩ := hrel
              have GQ : Hid (Below wdr.heap.size wdr wr) := Lib.hid (belU hbel2.out GO.out zo1)
              have EQ : Hid (Below we1.heap.size we1 wr) := Lib.hid (belU hbel2.out EO.out zo2)
              have zq := hbel2.out.size
              have zll := zl_len T ps i m
              by_cases hm2 : m < T.length
              · obtain ⟨o1', o2'⟩ := hown.out.at_ (k := m) (by omega)
                have gt : (zl T ps i m)[m]? = some ((zl T ps i m).getD m 0) := getD_mem (by omega)
                have GT := Lib.hid gt; clear gt
                have ZLL := Lib.hid zll; clear zll
                go_wp2_with fail
                refine (laws_isIn _ _ _ ps (m : Int) _ (K.out.below GQ.out) hmq).mono ?_
                rintro e wl ⟨rfl, rfl⟩
                cases hin2 : decide ((m : Int) ∈ ps)
                · have ZO := Lib.hid (zl_out (L := T) (ps := ps) (i := i) (m := m) (by omega) hin2)
                  go_wp2_with fail
                  go_roundw
                  case rel => exact ⟨m + 1, by omega, by omega, by go_num, Lib.hid (by rw [← ZO.out]; exact hown.out.set_ GT.out 0), by (refine Lib.hid ?_; (repeat' (first | (with_reducible exact Below.refl _ _) | (with_reducible refine belS ?_ (by first | omega | (simp; done) | (simp; omega) | (simp only [World.size_alloc, World.size_setCell, World.size_drew] at *; omega))) | (with_reducible refine belA ?_ (by first | omega | (simp; done) | (simp; omega) | (simp only [World.size_alloc, World.size_setCell, World.size_drew] at *; omega))) | (with_reducible refine bel_drewN ?_ _) | (with_reducible refine Below.drew ?_) | (with_reducible assumption) | (refine Hid.out ?_; with_reducible assumption) | (apply belV; (with_reducible assumption); exact (by first | omega | (simp; done) | (simp; omega) | (simp only [World.size_alloc, World.size_setCell, World.size_drew] at *; omega))))))⟩
                  case measure => simp [intOf]; omega
                · have ZI := Lib.hid (zl_in (L := T) (ps := ps) (i := i) (m := m) hin2)
                  go_wp2_with fail
                  go_roundw
                  case rel => exact ⟨m + 1, by omega, by omega, by go_num, Lib.hid (by rw [ZI.out]; exact hown.out), hbel2⟩
                  case measure => simp [intOf]; omega
              · have hme : m = T.length := by omega
                subst hme
                obtain ⟨M, hM⟩ : ∃ M, M = lft ws x ps (i + 1) := ⟨_, rfl⟩
                have OM : Hid (OwnI wr g M) := Lib.hid (by rw [hM, ← LZL.out i hlt]; exact hown.out)
                have MB : Hid (∀ y ∈ M, 0 ≤ y ∧ y ≤ 10) := Lib.hid (by rw [hM]; exact LB.out (i + 1) (by omega))
                have MO : Hid (ws.getD i 0 ≤ x → covB ws x (M.set i (M.getD i 0 + 1)) ((q : Int) - 1) = false) := Lib.hid (by rw [hM]; exact LMORE.out i hlt hin)
                have ml : M.length = T.length := by rw [hM]; exact LM.out _
                clear hM zll hown
                obtain ⟨m1, m2⟩ := OM.out.at_ (k := i) (by omega)
                have gt : M[i]? = some (M.getD i 0) := getD_mem (by omega)
                obtain ⟨y, hy⟩ : ∃ y, y = M.getD i 0 := ⟨_, rfl⟩
                rw [← hy] at m1 gt
                have MO' : Hid (ws.getD i 0 ≤ x → covB ws x (M.set i (y + 1)) ((q : Int) - 1) = false) := Lib.hid (by rw [hy]; exact MO.out)
                clear hy MO
                obtain ⟨y0, y1⟩ := MB.out y (List.mem_of_getElem? gt)
                have GT := Lib.hid gt; clear gt
                have ML := Lib.hid ml; clear ml
                obtain ⟨bw, ow, _, rfl, hbw, -, -, -, -⟩ := J.out.at_ hin'
                obtain ⟨_, _, v, e, hbv, hv, _, _, hcw⟩ := (J.out.below GQ.out).at_ hin'
                injection e with e; injection e with e1 e2; subst e1 e2
                have hne1 : ¬ g = bw := by omega
                have hne2 : ¬ bw = g := by omega
                have HV : Hid (ws.getD i 0 = v) := Lib.hid (getD_of hv)
                clear hv
                have JQ : Hid (Ints wr (some ⟨bw, ow, none⟩) n' ws) := Lib.hid (J.out.below GQ.out)
                by_cases hle : v ≤ x
                · have S6 : Hid (Below wo.heap.size wo (wr.setCell ⟨g, i, none⟩ (.int .i64 (y + 1)))) := by (refine Lib.hid ?_; (repeat' (first | (with_reducible exact Below.refl _ _) | (with_reducible refine belS ?_ (by first | omega | (simp; done) | (simp; omega) | (simp only [World.size_alloc, World.size_setCell, World.size_drew] at *; omega))) | (with_reducible refine belA ?_ (by first | omega | (simp; done) | (simp; omega) | (simp only [World.size_alloc, World.size_setCell, World.size_drew] at *; omega))) | (with_reducible refine bel_drewN ?_ _) | (with_reducible refine Below.drew ?_) | (with_reducible assumption) | (refine Hid.out ?_; with_reducible assumption) | (apply belV; (with_reducible assumption); exact (by first | omega | (simp; done) | (simp; omega) | (simp only [World.size_alloc, World.size_setCell, World.size_drew] at *; omega))))))
                  have I6 : Hid (Ints (wr.setCell ⟨g, i, none⟩ (.int .i64 (y + 1))) (some ⟨g, 0, none⟩) T.length (M.set i (y + 1))) := Lib.hid (by
                    have := (OM.out.set_ GT.out (y + 1)).ints (fun z hz => by
                      rcases List.mem_or_eq_of_mem_set hz with h | h
                      · have := MB.out z h; exact ⟨by omega, by omega⟩
                      · exact ⟨by omega, by omega⟩)
                    rwa [List.length_set, ML.out] at this)
                  have J6 : Hid (Ints (wr.setCell ⟨g, i, none⟩ (.int .i64 (y + 1))) (some ⟨bw, ow, none⟩) n' ws) := Lib.hid (J.out.below (belU S6.out GO.out zo1))
                  have C6 := Lib.hid (MO'.out (by rw [HV.out]; exact hle))
                  go_wp2_with fail
                  refine (impl_CHt _ _ _ _ _ _ x _ false ws (M.set i (y + 1)) _ J6.out I6.out hm' hTm lc' lc4 C6.out).mono ?_
                  rintro e w6 ⟨rfl, hb6⟩
                  have E6 : Hid (Below we1.heap.size we1 w6) := Lib.hid (belU (belT S6.out hb6) EO.out zo2)
                  clear hb6
                  go_wp2_with fail
                  go_roundw
                  case rel => exact ⟨i + 1, _, _, by omega, by go_num, rfl, rfl, E6⟩
                  case measure => simp [intOf]; omega
                · go_wp2_with fail
                  go_roundw
                  case rel => exact ⟨i + 1, _, _, by omega, by go_num, rfl, rfl, by (refine Lib.hid ?_; (repeat' (first | (with_reducible exact Below.refl _ _) | (with_reducible refine belS ?_ (by first | omega | (simp; done) | (simp; omega) | (simp only [World.size_alloc, World.size_setCell, World.size_drew] at *; omega))) | (with_reducible refine belA ?_ (by first | omega | (simp; done) | (simp; omega) | (simp only [World.size_alloc, World.size_setCell, World.size_drew] at *; omega))) | (with_reducible refine bel_drewN ?_ _) | (with_reducible refine Below.drew ?_) | (with_reducible assumption) | (refine Hid.out ?_; with_reducible assumption) | (apply belV; (with_reducible assumption); exact (by first | omega | (simp; done) | (simp; omega) | (simp only [World.size_alloc, World.size_setCell, World.size_drew] at *; omega))))))⟩
                  case measure => simp [intOf]; omega
          · have hx1 : p = 1 := by rw [← LONE.out i hlt hin, getD_of HP.out]
            subst hx1
            go_wp2_with fail
            refine (laws_isIn _ _ _ ps (i : Int) _ (K.out.below GD.out) hmq).mono ?_
            rintro e wl ⟨rfl, rfl⟩
            rw [hin]
            go_wp2_with fail
            go_roundw
            case rel => exact ⟨i + 1, _, _, by omega, by go_num, rfl, rfl, hbel⟩
            case measure => simp [intOf]; omega
        · have GE : Hid (Below w.heap.size w wr) := Lib.hid (belT Gdr.out GD.out)
          go_wp2_with fail
          go_ret
          exact ⟨rfl, GE.out⟩
    · have hT0 : ((T.length : Int) == 0) = true := by rw [beq_iff_eq]; omega
      go_wp2_with fail
      refine (spec_LCt _ _ _ _ _ _ x ws ps T _ (J.out.below (by (repeat' (first | (with_reducible exact Below.refl _ _) | (with_reducible refine belS ?_ (by first | omega | (simp; done) | (simp; omega) | (simp only [World.size_alloc, World.size_setCell, World.size_drew] at *; omega))) | (with_reducible refine belA ?_ (by first | omega | (simp; done) | (simp; omega) | (simp only [World.size_alloc, World.size_setCell, World.size_drew] at *; omega))) | (with_reducible refine bel_drewN ?_ _) | (with_reducible refine Below.drew ?_) | (with_reducible assumption) | (refine Hid.out ?_; with_reducible assumption) | (apply belV; (with_reducible assumption); exact (by first | omega | (simp; done) | (simp; omega) | (simp only [World.size_alloc, World.size_setCell, World.size_drew] at *; omega))))))) (K.out.below (by (repeat' (first | (with_reducible exact Below.refl _ _) | (with_reducible refine belS ?_ (by first | omega | (simp; done) | (simp; omega) | (simp only [World.size_alloc, World.size_setCell, World.size_drew] at *; omega))) | (with_reducible refine belA ?_ (by first | omega | (simp; done) | (simp; omega) | (simp only [World.size_alloc, World.size_setCell, World.size_drew] at *; omega))) | (with_reducible refine bel_drewN ?_ _) | (with_reducible refine Below.drew ?_) | (with_reducible assumption) | (refine Hid.out ?_; with_reducible assumption) | (apply belV; (with_reducible assumption); exact (by first | omega | (simp; done) | (simp; omega) | (simp only [World.size_alloc, World.size_setCell, World.size_drew] at *; omega))))))) hm' hmq lc' E.out).mono ?_
      rintro e wsp2 ⟨A3, d3, rfl, ho, hb⟩
      have Gsp2 : Hid (Below w.heap.size w wsp2) := belU hb (by (repeat' (first | (with_reducible exact Below.refl _ _) | (with_reducible refine belS ?_ (by first | omega | (simp; done) | (simp; omega) | (simp only [World.size_alloc, World.size_setCell, World.size_drew] at *; omega))) | (with_reducible refine belA ?_ (by first | omega | (simp; done) | (simp; omega) | (simp only [World.size_alloc, World.size_setCell, World.size_drew] at *; omega))) | (with_reducible refine bel_drewN ?_ _) | (with_reducible refine Below.drew ?_) | (with_reducible assumption) | (refine Hid.out ?_; with_reducible assumption) | (apply belV; (with_reducible assumption); exact (by first | omega | (simp; done) | (simp; omega) | (simp only [World.size_alloc, World.size_setCell, World.size_drew] at *; omega)))))) (by first | omega | (simp; done) | (simp; omega) | (simp only [World.size_alloc, World.size_setCell, World.size_drew] at *; omega))
      (try simp only [World.size_alloc, World.size_setCell, World.size_drew, World.heap_drewN] at ho)
      have W3 := Lib.hid ho; clear ho
      have zsp2 := hb.size
      (try simp at zsp2)
      have Dsp2 := Lib.hid hb; clear hb
      go_wp2_with fail
      refine (laws_equalInts _ _ _ _ _ T _ (IT.out.below (by (repeat' (first | (with_reducible exact Below.refl _ _) | (with_reducible refine belS ?_ (by first | omega | (simp; done) | (simp; omega) | (simp only [World.size_alloc, World.size_setCell, World.size_drew] at *; omega))) | (with_reducible refine belA ?_ (by first | omega | (simp; done) | (simp; omega) | (simp only [World.size_alloc, World.size_setCell, World.size_drew] at *; omega))) | (with_reducible refine bel_drewN ?_ _) | (with_reducible refine Below.drew ?_) | (with_reducible assumption) | (refine Hid.out ?_; with_reducible assumption) | (apply belV; (with_reducible assumption); exact (by first | omega | (simp; done) | (simp; omega) | (simp only [World.size_alloc, World.size_setCell, World.size_drew] at *; omega))))))) (OwnS.ints (OwnS.by_ W3 (by (repeat' (first | (with_reducible exact OwnS.madeAt _ _ _ (by first | omega | (simp; done) | (simp; omega) | (simp only [World.size_alloc, World.size_setCell, World.size_drew] at *; omega))) | (with_reducible refine OwnS.far ?_ (by first | omega | (simp; done) | (simp; omega) | (simp only [World.size_alloc, World.size_setCell, World.size_drew] at *; omega)) _) | (with_reducible refine OwnS.alloc ?_ _) | (with_reducible refine OwnS.drewN ?_ _) | (with_reducible refine OwnS.drew ?_) | (with_reducible assumption) | (refine Hid.out ?_; with_reducible assumption) | (apply OwnS.turn; (with_reducible assumption); exact (by first | omega | (simp; done) | (simp; omega) | (simp only [World.size_alloc, World.size_setCell, World.size_drew] at *; omega))) | (apply OwnS.only; (with_reducible assumption); exact (by first | omega | (simp; done) | (simp; omega) | (simp only [World.size_alloc, World.size_setCell, World.size_drew] at *; omega))) | (apply OwnS.belowD; (with_reducible assumption))))))) (by omega)).mono ?_
      rintro e we2 ⟨rfl, hb⟩
      have Ge2 : Hid (Below w.heap.size w we2) := belU hb (by (repeat' (first | (with_reducible exact Below.refl _ _) | (with_reducible refine belS ?_ (by first | omega | (simp; done) | (simp; omega) | (simp only [World.size_alloc, World.size_setCell, World.size_drew] at *; omega))) | (with_reducible refine belA ?_ (by first | omega | (simp; done) | (simp; omega) | (simp only [World.size_alloc, World.size_setCell, World.size_drew] at *; omega))) | (with_reducible refine bel_drewN ?_ _) | (with_reducible refine Below.drew ?_) | (with_reducible assumption) | (refine Hid.out ?_; with_reducible assumption) | (apply belV; (with_reducible assumption); exact (by first | omega | (simp; done) | (simp; omega) | (simp only [World.size_alloc, World.size_setCell, World.size_drew] at *; omega)))))) (by first | omega | (simp; done) | (simp; omega) | (simp only [World.size_alloc, World.size_setCell, World.size_drew] at *; omega))
      have ze2 := hb.size
      (try simp at ze2)
      have De2 := Lib.hid hb; clear hb
      go_wp2_with fail
      go_ret
      exact ⟨rfl, by (repeat' (first | (with_reducible exact Below.refl _ _) | (with_reducible refine belS ?_ (by first | omega | (simp; done) | (simp; omega) | (simp only [World.size_alloc, World.size_setCell, World.size_drew] at *; omega))) | (with_reducible refine belA ?_ (by first | omega | (simp; done) | (simp; omega) | (simp only [World.size_alloc, World.size_setCell, World.size_drew] at *; omega))) | (with_reducible refine bel_drewN ?_ _) | (with_reducible refine Below.drew ?_) | (with_reducible assumption) | (refine Hid.out ?_; with_reducible assumption) | (apply belV; (with_reducible assumption); exact (by first | omega | (simp; done) | (simp; omega) | (simp only [World.size_alloc, World.size_setCell, World.size_drew] at *; omega)))))⟩
end Go.Proofs.Ytfidahpaidkhgab
