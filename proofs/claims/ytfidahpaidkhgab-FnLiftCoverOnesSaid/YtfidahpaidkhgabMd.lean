
/-
  Minimal covers: what the program's MinimalCover answers.
-/
import Derived.Test.YtfidahpaidkhgabMc
set_option linter.unusedSimpArgs false
set_option linter.unusedVariables false
namespace Go.Proofs.Ytfidahpaidkhgab
open Go.RowKit

set_option maxHeartbeats 1000000 in
theorem lib_CloneG (b off n c : Nat) (xs : List Int) (w : World) (hI : Ints w (some ⟨b, off, none⟩) n xs) (hn : n ≤ 1048576) : Calls Try.prog 83 #[.slice (some ⟨b, off, none⟩) n c] w (CopyEnd xs w) := by
  obtain ⟨i0, hi0, hz0, hz1, hz2⟩ := info_parts info_int
  have HI := Lib.hid hI
  have HL := Lib.hid hI.len
  clear hI
  have own0 := Lib.hid (World.ownsRow_made (base := w.heap.size) (e := 3) (size := 1) w #[] 0 (Nat.le_refl _) (Nat.zero_le _) rfl)
  have HW : Hid (Ints (w.alloc (.cells #[] 3)) (some ⟨b, off, none⟩) n xs) := HI.out.below (by (repeat' (first | (with_reducible exact Below.refl _ _) | (with_reducible refine belS ?_ (by first | omega | (simp; done) | (simp; omega) | (simp only [World.size_alloc, World.size_setCell, World.size_drew] at *; omega))) | (with_reducible refine belA ?_ (by first | omega | (simp; done) | (simp; omega) | (simp only [World.size_alloc, World.size_setCell, World.size_drew] at *; omega))) | (with_reducible refine bel_drewN ?_ _) | (with_reducible refine Below.drew ?_) | (with_reducible assumption) | (refine Hid.out ?_; with_reducible assumption) | (apply belV; (with_reducible assumption); exact (by first | omega | (simp; done) | (simp; omega) | (simp only [World.size_alloc, World.size_setCell, World.size_drew] at *; omega))))))
  have hnil := fun W => run_eql_slice_nil (P := Try.prog) W 23 3 (some ⟨b, off, none⟩) n c Try.underlying23
  simp only [Option.isNone_some] at hnil
  go_enter Try.func83, Try.ntmps83
  go_wp2_with (
    at_builtin
    refine wpList_append_own _ rfl (.tmp 5) (.tmp 6) 23 rfl w.heap.size 3 i0 (.int .i64 0) 1 8 Try.underlying23 hi0 hz0 hz1 hz2 rfl (by decide) (.slice (some ⟨w.heap.size, 0, none⟩) 0 0) 0 [] rfl own0.out ⟨b, off, none⟩ n c (xs.map (Value.int .i64)) rfl ?c0 (news_at HW.out) (one_ints xs) ?c3 ?c4 ?c5 ?_
    case c0 => rw [List.length_map, HL.out]; omega
    case c3 => unfold maxLen; omega
    case c4 => omega
    case c5 => simp
    intro v' w1 hown' hgrow hnil2
    have O1 : Hid (Grow w1 w.heap.size 3 v' xs) := Lib.hid (by
      unfold Grow
      have e := HL.out
      subst e
      simpa using hown')
    have N1 : Hid (v' ≠ .slice none 0 0) := Lib.hid (fun h => by have := (hnil2.1 h).1; simp at this)
    have G1 : Hid (Below w.heap.size w w1) := ((Below.refl w.heap.size w).alloc (Nat.le_refl _) _).grown hgrow (by simp) (fun j hj => by simp [Value.ownBlock] at hj; omega)
    clear hown' hgrow hnil2)
  go_ret
  exact ⟨v', N1.out, rfl, O1.out, G1.out⟩

def capt (b1 b2 : Nat) : Value := .func (.func 54) #[] #[.pointer (some ⟨b1, 0, none⟩), .pointer (some ⟨b2, 0, none⟩)]
set_option maxHeartbeats 1000000 in
theorem impl_MC1 (A' Q : Option Addr) (n' q c' d b1 b2 : Nat) (a : Int) (ws ps : List Int) (w : World) (hJ : Ints w A' n' ws) (hK : Ints w Q q ps) (h1 : Box w b1 #[.slice A' n' c']) (h2 : Box w b2 #[.int .i64 a]) (hn' : n' ≤ maxLen) (hq : q ≤ maxLen) :
    Calls Try.prog 54 #[.slice Q q d, .pointer (some ⟨b1, 0, none⟩), .pointer (some ⟨b2, 0, none⟩)] w fun e w' => e = .returned (.bool (isCov ws a ps)) ∧ Below w.heap.size w w' := by
  have c1 := Box.facts1 h1
  have c2 := Box.facts1 h2
  clear h1 h2
  have HJ := Lib.hid hJ; clear hJ
  have HK := Lib.hid hK; clear hK
  go_enter Try.func54, Try.ntmps54
  go_wp2_with fail
  refine (impl_IsCover _ _ _ _ _ _ a ws ps _ (HJ.out.below (by (repeat' (first | (with_reducible exact Below.refl _ _) | (with_reducible refine belS ?_ (by first | omega | (simp; done) | (simp; omega) | (simp only [World.size_alloc, World.size_setCell, World.size_drew] at *; omega))) | (with_reducible refine belA ?_ (by first | omega | (simp; done) | (simp; omega) | (simp only [World.size_alloc, World.size_setCell, World.size_drew] at *; omega))) | (with_reducible refine bel_drewN ?_ _) | (with_reducible refine Below.drew ?_) | (with_reducible assumption) | (refine Hid.out ?_; with_reducible assumption) | (apply belV; (with_reducible assumption); exact (by first | omega | (simp; done) | (simp; omega) | (simp only [World.size_alloc, World.size_setCell, World.size_drew] at *; omega))))))) (HK.out.below (by (repeat' (first | (with_reducible exact Below.refl _ _) | (with_reducible refine belS ?_ (by first | omega | (simp; done) | (simp; omega) | (simp only [World.size_alloc, World.size_setCell, World.size_drew] at *; omega))) | (with_reducible refine belA ?_ (by first | omega | (simp; done) | (simp; omega) | (simp only [World.size_alloc, World.size_setCell, World.size_drew] at *; omega))) | (with_reducible refine bel_drewN ?_ _) | (with_reducible refine Below.drew ?_) | (with_reducible assumption) | (refine Hid.out ?_; with_reducible assumption) | (apply belV; (with_reducible assumption); exact (by first | omega | (simp; done) | (simp; omega) | (simp only [World.size_alloc, World.size_setCell, World.size_drew] at *; omega))))))) hn' hq).mono ?_
  rintro e w1 ⟨rfl, hb⟩
  have G1 : Hid (Below w.heap.size w w1) := belU hb (by (repeat' (first | (with_reducible exact Below.refl _ _) | (with_reducible refine belS ?_ (by first | omega | (simp; done) | (simp; omega) | (simp only [World.size_alloc, World.size_setCell, World.size_drew] at *; omega))) | (with_reducible refine belA ?_ (by first | omega | (simp; done) | (simp; omega) | (simp only [World.size_alloc, World.size_setCell, World.size_drew] at *; omega))) | (with_reducible refine bel_drewN ?_ _) | (with_reducible refine Below.drew ?_) | (with_reducible assumption) | (refine Hid.out ?_; with_reducible assumption) | (apply belV; (with_reducible assumption); exact (by first | omega | (simp; done) | (simp; omega) | (simp only [World.size_alloc, World.size_setCell, World.size_drew] at *; omega)))))) (by first | omega | (simp; done) | (simp; omega) | (simp only [World.size_alloc, World.size_setCell, World.size_drew] at *; omega))
  have z1 := hb.size
  (try simp at z1)
  have D1 := Lib.hid hb; clear hb
  go_wp2_with fail
  go_ret
  exact ⟨rfl, by (repeat' (first | (with_reducible exact Below.refl _ _) | (with_reducible refine belS ?_ (by first | omega | (simp; done) | (simp; omega) | (simp only [World.size_alloc, World.size_setCell, World.size_drew] at *; omega))) | (with_reducible refine belA ?_ (by first | omega | (simp; done) | (simp; omega) | (simp only [World.size_alloc, World.size_setCell, World.size_drew] at *; omega))) | (with_reducible refine bel_drewN ?_ _) | (with_reducible refine Below.drew ?_) | (with_reducible assumption) | (refine Hid.out ?_; with_reducible assumption) | (apply belV; (with_reducible assumption); exact (by first | omega | (simp; done) | (simp; omega) | (simp only [World.size_alloc, World.size_setCell, World.size_drew] at *; omega)))))⟩

set_option maxHeartbeats 8000000 in
set_option maxRecDepth 100000 in
theorem impl_withoutSpare (A' : Option Addr) (b off n' c' q d b1 b2 : Nat) (a : Int) (ws ps : List Int) (w : World) (hJ : Ints w A' n' ws) (hK : Ints w (some ⟨b, off, none⟩) q ps) (h1 : Box w b1 #[.slice A' n' c']) (h2 : Box w b2 #[.int .i64 a]) (hn' : n' ≤ maxLen) (hq : q ≤ 1000) (hv : vWts ws a = true) (has : ascB ps ws.length = true) :
    Calls Try.prog 55 #[.slice (some ⟨b, off, none⟩) q d, .func (.func 54) #[] #[.pointer (some ⟨b1, 0, none⟩), .pointer (some ⟨b2, 0, none⟩)]] w (SliceEnd (mCov ws a ps) w) := by
  have HQ := Lib.hid hK.len
  have hpb := hK.2.1
  have HJ := Lib.hid hJ; clear hJ
  have HK := Lib.hid hK; clear hK
  have HPB := Lib.hid hpb; clear hpb
  have B1 := Lib.hid h1; clear h1
  have B2 := Lib.hid h2; clear h2
  have HV := Lib.hid hv; clear hv
  have HA := Lib.hid has; clear has
  go_enter Try.func55, Try.ntmps55
  go_wp2_with fail
  refine (lib_CloneG _ _ _ _ ps _ HK.out (by omega)).mono ?_
  rintro e w1 ⟨v, hne, rfl, hgr, hb⟩
  obtain ⟨g, cg, rfl, hg1, og, lc, mc, ig⟩ := Grow.block hgr hne HPB.out
  have OG := Lib.hid og
  have G1 := Lib.hid hb
  clear hb hgr hne ig og
  go_wp2_with fail
  go_loopw [5, 6, 7] (fun s5 s6 s7 wr => ∃ (i g c : Nat) (out : List Int) (u7 : Value), s5 = .slice (some ⟨g, 0, none⟩) out.length c ∧ out.length ≤ c ∧ c ≤ maxLen ∧ s6 = .int .i64 i ∧ s7 = u7 ∧ i ≤ out.length ∧ out.length ≤ 1000 ∧ w.heap.size ≤ g ∧ Hid (OwnI wr g out) ∧ Hid (∀ x ∈ out, x ∈ ps) ∧ Hid (ascB out ws.length = true) ∧ Hid (mcov ws a (out.length - i) i out = mCov ws a ps) ∧ Hid (Below w.heap.size w wr)) (fun s5 s6 _ _ => lenV s5 - (intOf s6).toNat)
  case atStart => exact ⟨0, g, cg, ps, _, rfl, lc, mc, rfl, rfl, by omega, by rw [HQ.out]; exact hq, hg1, OG, Lib.hid (fun x hx => hx), HA, Lib.hid rfl, G1⟩
  case round =>
    obtain ⟨i, g, c, out, u7, rfl, hlc, hmc, rfl, rfl, hi, hl, hg, hown, hmem, hasc, hmcv, hbel⟩ := hrel
    have hmc' := hmc
    unfold maxLen at hmc'
    have hOI : ∀ x ∈ out, I64 x := fun x hx => HPB.out x (hmem.out x hx)
    by_cases hlt : i < out.length
    · have IO : Hid (Ints wr (some ⟨g, 0, none⟩) out.length out) := Lib.hid (hown.out.ints hOI)
      have ol := outAt_len hlt
      have HOI : Hid (∀ x ∈ outAt out i, I64 x) := Lib.hid (fun x hx => hOI x (outAt_mem x hx))
      have HOL := Lib.hid ol; clear ol
      have HOO := Lib.hid hOI; clear hOI
      have AS := Lib.hid (asc_out hasc.out hlt)
      have zr := hbel.out.size
      have hwk : IntKind.i64.wrap ((i : Int) + 1) = (i : Int) + 1 := IntWalk.i64_in _ ⟨by omega, by omega⟩
      go_wp2_with fail
      refine (lib_CloneG _ _ _ _ out _ IO.out (by omega)).mono ?_
      rintro e w2 ⟨v2, hne2, rfl, hgr2, hb2⟩
      obtain ⟨g2, c2, rfl, hg2, og2, lc2, mc2, ig2⟩ := Grow.block hgr2 hne2 HOO.out
      have O2 := Lib.hid og2
      have g2l := og2.1
      have G2 : Hid (Below w.heap.size w w2) := Lib.hid (belT hbel.out hb2)
      have D2 := Lib.hid hb2
      have z2 := hb2.size
      clear hb2 hgr2 hne2 ig2 og2
      have mc2' := mc2
      unfold maxLen at mc2'
      go_wp2_with fail
      refine (lib_Delete g2 _ c2 i _ _ out _ O2.out rfl lc2 mc2 hlt rfl (by omega)).mono ?_
      rintro e w3 ⟨rfl, ho3, ht3⟩
      have O3 := Lib.hid ho3
      have T3 := Lib.hid ht3
      have z3 := ht3.size
      have G3 : Hid (Below w.heap.size w w3) := Lib.hid (Below.turn G2.out ht3 (by omega) (by omega))
      clear ho3 ht3
      have I3 : Hid (Ints w3 (some ⟨g2, 0, none⟩) (out.length - 1) (outAt out i)) := Lib.hid (by rw [← HOL.out]; exact O3.out.ints HOI.out)
      have hlm : out.length - 1 ≤ maxLen := by unfold maxLen; omega
      have OO3 : Hid (OwnI w3 g out) := Lib.hid (OwnI.turn T3 (by have := hown.out.1; omega) (hown.out.below D2.out))
      go_wp2_with fail
      refine (impl_MC1 _ _ _ _ _ _ b1 b2 a ws (outAt out i) _ (HJ.out.below G3.out) I3.out (B1.out.below G3.out) (B2.out.below G3.out) hn' hlm).mono ?_
      rintro e w4 ⟨rfl, hb4⟩
      have G4 : Hid (Below w.heap.size w w4) := Lib.hid (belT G3.out hb4)
      have D4 := Lib.hid hb4
      clear hb4
      rw [isCov_3 HV.out AS.out]
      by_cases hcv : a < sumW ws (outAt out i)
      · have ecv : decide (a < sumW ws (outAt out i)) = true := by simp [hcv]
        have NX := Lib.hid (mcov_yes hlt hmcv.out hcv)
        rw [ecv]
        clear hcv ecv
        go_wp2_with fail
        go_roundw
        case rel => exact ⟨i, g2, c2, outAt out i, _, (by rw [HOL.out]), (by rw [HOL.out]; omega), mc2, rfl, rfl, by have := HOL.out; omega, by have := HOL.out; omega, by omega, Lib.hid (O3.out.below D4.out), Lib.hid (fun x hx => hmem.out x (outAt_mem x hx)), AS, NX, G4⟩
        case measure => have := HOL.out; simp [intOf, lenV]; omega
      · have ecv : decide (a < sumW ws (outAt out i)) = false := by simp [hcv]
        have NX := Lib.hid (mcov_no hlt hmcv.out hcv)
        rw [ecv]
        clear hcv ecv
        go_wp2_with fail
        go_roundw
        case rel => exact ⟨i + 1, g, c, out, _, rfl, hlc, hmc, by go_num, rfl, by omega, hl, hg, Lib.hid (OO3.out.below D4.out), hmem, hasc, NX, G4⟩
        case measure => simp [intOf, lenV]; omega
    · have E := Lib.hid (mcov_end (by omega) hmcv.out)
      go_wp2_with fail
      go_ret
      exact SliceEnd.pass E.out.symm (OwnS.of_own (hi := wr.heap.size) hown.out hg hown.out.1 hOI (by omega)) (Nat.le_refl _) (Nat.le_refl _) hbel.out

set_option maxHeartbeats 4000000 in
set_option maxRecDepth 100000 in
theorem impl_MinimalCover (A' Q : Option Addr) (n' q c' d : Nat) (a : Int) (ws ps : List Int) (w : World) (hJ : Ints w A' n' ws) (hK : Ints w Q q ps) (hn' : n' ≤ maxLen) (hq : q ≤ maxLen) :
    Calls Try.prog 20 #[.slice A' n' c', .int .i64 a, .slice Q q d] w (SliceEnd (kMin ws a ps) w) := by
  have HJL := Lib.hid hJ.len
  have HKL := Lib.hid hK.len
  have HJ := Lib.hid hJ; clear hJ
  have HK := Lib.hid hK; clear hK
  have hmf : ∀ (fn : Fn) (first cap : Array Value) (w : World), (Instr.makeFunc fn first cap).run Try.prog w = .ok (.func fn first cap) w := fun _ _ _ _ => rfl
  cases h1 : isCov ws a ps
  · have E := Lib.hid (kMin_1 h1)
    go_enter Try.func20, Try.ntmps20
    go_wp2_with fail
    refine (impl_MC1 _ _ _ _ _ _ w.heap.size (w.heap.size+1) a ws ps _ (HJ.out.below (by (repeat' (first | (with_reducible exact Below.refl _ _) | (with_reducible refine belS ?_ (by first | omega | (simp; done) | (simp; omega) | (simp only [World.size_alloc, World.size_setCell, World.size_drew] at *; omega))) | (with_reducible refine belA ?_ (by first | omega | (simp; done) | (simp; omega) | (simp only [World.size_alloc, World.size_setCell, World.size_drew] at *; omega))) | (with_reducible refine bel_drewN ?_ _) | (with_reducible refine Below.drew ?_) | (with_reducible assumption) | (refine Hid.out ?_; with_reducible assumption) | (apply belV; (with_reducible assumption); exact (by first | omega | (simp; done) | (simp; omega) | (simp only [World.size_alloc, World.size_setCell, World.size_drew] at *; omega))))))) (HK.out.below (by (repeat' (first | (with_reducible exact Below.refl _ _) | (with_reducible refine belS ?_ (by first | omega | (simp; done) | (simp; omega) | (simp only [World.size_alloc, World.size_setCell, World.size_drew] at *; omega))) | (with_reducible refine belA ?_ (by first | omega | (simp; done) | (simp; omega) | (simp only [World.size_alloc, World.size_setCell, World.size_drew] at *; omega))) | (with_reducible refine bel_drewN ?_ _) | (with_reducible refine Below.drew ?_) | (with_reducible assumption) | (refine Hid.out ?_; with_reducible assumption) | (apply belV; (with_reducible assumption); exact (by first | omega | (simp; done) | (simp; omega) | (simp only [World.size_alloc, World.size_setCell, World.size_drew] at *; omega))))))) (by (repeat' (first | (with_reducible exact Box.new _ _ _ (by first | omega | (simp; done) | (simp; omega) | (simp only [World.size_alloc, World.size_setCell, World.size_drew] at *; omega))) | (with_reducible refine Box.far ?_ (by first | omega | (simp; done) | (simp; omega) | (simp only [World.size_alloc, World.size_setCell, World.size_drew] at *; omega)) _) | (apply Box.put3_0) | (apply Box.put3_1) | (apply Box.put3_2) | (apply Box.put2_0) | (apply Box.put2_1) | (with_reducible refine Box.alloc ?_ _) | (with_reducible refine Box.drewN ?_ _) | (with_reducible refine Box.drew ?_) | (with_reducible assumption) | (refine Hid.out ?_; with_reducible assumption) | (apply Box.only; (with_reducible assumption); exact (by first | omega | (simp; done) | (simp; omega) | (simp only [World.size_alloc, World.size_setCell, World.size_drew] at *; omega))) | (apply Box.belowD; (with_reducible assumption))))) (by (repeat' (first | (with_reducible exact Box.new _ _ _ (by first | omega | (simp; done) | (simp; omega) | (simp only [World.size_alloc, World.size_setCell, World.size_drew] at *; omega))) | (with_reducible refine Box.far ?_ (by first | omega | (simp; done) | (simp; omega) | (simp only [World.size_alloc, World.size_setCell, World.size_drew] at *; omega)) _) | (apply Box.put3_0) | (apply Box.put3_1) | (apply Box.put3_2) | (apply Box.put2_0) | (apply Box.put2_1) | (with_reducible refine Box.alloc ?_ _) | (with_reducible refine Box.drewN ?_ _) | (with_reducible refine Box.drew ?_) | (with_reducible assumption) | (refine Hid.out ?_; with_reducible assumption) | (apply Box.only; (with_reducible assumption); exact (by first | omega | (simp; done) | (simp; omega) | (simp only [World.size_alloc, World.size_setCell, World.size_drew] at *; omega))) | (apply Box.belowD; (with_reducible assumption))))) hn' hq).mono ?_
    rintro e w1 ⟨rfl, hb⟩
    have G1 : Hid (Below w.heap.size w w1) := belU hb (by (repeat' (first | (with_reducible exact Below.refl _ _) | (with_reducible refine belS ?_ (by first | omega | (simp; done) | (simp; omega) | (simp only [World.size_alloc, World.size_setCell, World.size_drew] at *; omega))) | (with_reducible refine belA ?_ (by first | omega | (simp; done) | (simp; omega) | (simp only [World.size_alloc, World.size_setCell, World.size_drew] at *; omega))) | (with_reducible refine bel_drewN ?_ _) | (with_reducible refine Below.drew ?_) | (with_reducible assumption) | (refine Hid.out ?_; with_reducible assumption) | (apply belV; (with_reducible assumption); exact (by first | omega | (simp; done) | (simp; omega) | (simp only [World.size_alloc, World.size_setCell, World.size_drew] at *; omega)))))) (by first | omega | (simp; done) | (simp; omega) | (simp only [World.size_alloc, World.size_setCell, World.size_drew] at *; omega))
    have X_1 : Hid (Box w1 (w.heap.size) #[.slice A' n' c']) := Lib.hid (Box.below (by (repeat' (first | (with_reducible exact Box.new _ _ _ (by first | omega | (simp; done) | (simp; omega) | (simp only [World.size_alloc, World.size_setCell, World.size_drew] at *; omega))) | (with_reducible refine Box.far ?_ (by first | omega | (simp; done) | (simp; omega) | (simp only [World.size_alloc, World.size_setCell, World.size_drew] at *; omega)) _) | (apply Box.put3_0) | (apply Box.put3_1) | (apply Box.put3_2) | (apply Box.put2_0) | (apply Box.put2_1) | (with_reducible refine Box.alloc ?_ _) | (with_reducible refine Box.drewN ?_ _) | (with_reducible refine Box.drew ?_) | (with_reducible assumption) | (refine Hid.out ?_; with_reducible assumption) | (apply Box.only; (with_reducible assumption); exact (by first | omega | (simp; done) | (simp; omega) | (simp only [World.size_alloc, World.size_setCell, World.size_drew] at *; omega))) | (apply Box.belowD; (with_reducible assumption))))) hb)
    have yX_1 : w.heap.size < w1.heap.size := X_1.out.1
    have X_1c := Box.facts1 X_1.out
    have Y_1 : Hid (Box w1 (w.heap.size+1) #[.int .i64 a]) := Lib.hid (Box.below (by (repeat' (first | (with_reducible exact Box.new _ _ _ (by first | omega | (simp; done) | (simp; omega) | (simp only [World.size_alloc, World.size_setCell, World.size_drew] at *; omega))) | (with_reducible refine Box.far ?_ (by first | omega | (simp; done) | (simp; omega) | (simp only [World.size_alloc, World.size_setCell, World.size_drew] at *; omega)) _) | (apply Box.put3_0) | (apply Box.put3_1) | (apply Box.put3_2) | (apply Box.put2_0) | (apply Box.put2_1) | (with_reducible refine Box.alloc ?_ _) | (with_reducible refine Box.drewN ?_ _) | (with_reducible refine Box.drew ?_) | (with_reducible assumption) | (refine Hid.out ?_; with_reducible assumption) | (apply Box.only; (with_reducible assumption); exact (by first | omega | (simp; done) | (simp; omega) | (simp only [World.size_alloc, World.size_setCell, World.size_drew] at *; omega))) | (apply Box.belowD; (with_reducible assumption))))) hb)
    have yY_1 : w.heap.size+1 < w1.heap.size := Y_1.out.1
    have Y_1c := Box.facts1 Y_1.out
    have z1 := hb.size
    (try simp at z1)
    have D1 := Lib.hid hb; clear hb
    go_wp2_with fail
    go_ret
    exact SliceEnd.nil E.out (by (repeat' (first | (with_reducible exact Below.refl _ _) | (with_reducible refine belS ?_ (by first | omega | (simp; done) | (simp; omega) | (simp only [World.size_alloc, World.size_setCell, World.size_drew] at *; omega))) | (with_reducible refine belA ?_ (by first | omega | (simp; done) | (simp; omega) | (simp only [World.size_alloc, World.size_setCell, World.size_drew] at *; omega))) | (with_reducible refine bel_drewN ?_ _) | (with_reducible refine Below.drew ?_) | (with_reducible assumption) | (refine Hid.out ?_; with_reducible assumption) | (apply belV; (with_reducible assumption); exact (by first | omega | (simp; done) | (simp; omega) | (simp only [World.size_alloc, World.size_setCell, World.size_drew] at *; omega))))))
  · have E := Lib.hid (kMin_2 h1)
    have hq0 := cov_some h1 HK.out
    obtain ⟨b, off, _, rfl, -, -, -, -, -⟩ := HK.out.at_ hq0
    have hql : q ≤ 1000 := by have := (cov_len h1).1; rw [HKL.out] at this; omega
    have h2 := h1
    simp only [isCov, Bool.and_eq_true] at h2
    have HV := Lib.hid h2.1
    have HA := Lib.hid h2.2.1
    clear h2
    go_enter Try.func20, Try.ntmps20
    go_wp2_with fail
    refine (impl_MC1 _ _ _ _ _ _ w.heap.size (w.heap.size+1) a ws ps _ (HJ.out.below (by (repeat' (first | (with_reducible exact Below.refl _ _) | (with_reducible refine belS ?_ (by first | omega | (simp; done) | (simp; omega) | (simp only [World.size_alloc, World.size_setCell, World.size_drew] at *; omega))) | (with_reducible refine belA ?_ (by first | omega | (simp; done) | (simp; omega) | (simp only [World.size_alloc, World.size_setCell, World.size_drew] at *; omega))) | (with_reducible refine bel_drewN ?_ _) | (with_reducible refine Below.drew ?_) | (with_reducible assumption) | (refine Hid.out ?_; with_reducible assumption) | (apply belV; (with_reducible assumption); exact (by first | omega | (simp; done) | (simp; omega) | (simp only [World.size_alloc, World.size_setCell, World.size_drew] at *; omega))))))) (HK.out.below (by (repeat' (first | (with_reducible exact Below.refl _ _) | (with_reducible refine belS ?_ (by first | omega | (simp; done) | (simp; omega) | (simp only [World.size_alloc, World.size_setCell, World.size_drew] at *; omega))) | (with_reducible refine belA ?_ (by first | omega | (simp; done) | (simp; omega) | (simp only [World.size_alloc, World.size_setCell, World.size_drew] at *; omega))) | (with_reducible refine bel_drewN ?_ _) | (with_reducible refine Below.drew ?_) | (with_reducible assumption) | (refine Hid.out ?_; with_reducible assumption) | (apply belV; (with_reducible assumption); exact (by first | omega | (simp; done) | (simp; omega) | (simp only [World.size_alloc, World.size_setCell, World.size_drew] at *; omega))))))) (by (repeat' (first | (with_reducible exact Box.new _ _ _ (by first | omega | (simp; done) | (simp; omega) | (simp only [World.size_alloc, World.size_setCell, World.size_drew] at *; omega))) | (with_reducible refine Box.far ?_ (by first | omega | (simp; done) | (simp; omega) | (simp only [World.size_alloc, World.size_setCell, World.size_drew] at *; omega)) _) | (apply Box.put3_0) | (apply Box.put3_1) | (apply Box.put3_2) | (apply Box.put2_0) | (apply Box.put2_1) | (with_reducible refine Box.alloc ?_ _) | (with_reducible refine Box.drewN ?_ _) | (with_reducible refine Box.drew ?_) | (with_reducible assumption) | (refine Hid.out ?_; with_reducible assumption) | (apply Box.only; (with_reducible assumption); exact (by first | omega | (simp; done) | (simp; omega) | (simp only [World.size_alloc, World.size_setCell, World.size_drew] at *; omega))) | (apply Box.belowD; (with_reducible assumption))))) (by (repeat' (first | (with_reducible exact Box.new _ _ _ (by first | omega | (simp; done) | (simp; omega) | (simp only [World.size_alloc, World.size_setCell, World.size_drew] at *; omega))) | (with_reducible refine Box.far ?_ (by first | omega | (simp; done) | (simp; omega) | (simp only [World.size_alloc, World.size_setCell, World.size_drew] at *; omega)) _) | (apply Box.put3_0) | (apply Box.put3_1) | (apply Box.put3_2) | (apply Box.put2_0) | (apply Box.put2_1) | (with_reducible refine Box.alloc ?_ _) | (with_reducible refine Box.drewN ?_ _) | (with_reducible refine Box.drew ?_) | (with_reducible assumption) | (refine Hid.out ?_; with_reducible assumption) | (apply Box.only; (with_reducible assumption); exact (by first | omega | (simp; done) | (simp; omega) | (simp only [World.size_alloc, World.size_setCell, World.size_drew] at *; omega))) | (apply Box.belowD; (with_reducible assumption))))) hn' hq).mono ?_
    rintro e w1 ⟨rfl, hb⟩
    have G1 : Hid (Below w.heap.size w w1) := belU hb (by (repeat' (first | (with_reducible exact Below.refl _ _) | (with_reducible refine belS ?_ (by first | omega | (simp; done) | (simp; omega) | (simp only [World.size_alloc, World.size_setCell, World.size_drew] at *; omega))) | (with_reducible refine belA ?_ (by first | omega | (simp; done) | (simp; omega) | (simp only [World.size_alloc, World.size_setCell, World.size_drew] at *; omega))) | (with_reducible refine bel_drewN ?_ _) | (with_reducible refine Below.drew ?_) | (with_reducible assumption) | (refine Hid.out ?_; with_reducible assumption) | (apply belV; (with_reducible assumption); exact (by first | omega | (simp; done) | (simp; omega) | (simp only [World.size_alloc, World.size_setCell, World.size_drew] at *; omega)))))) (by first | omega | (simp; done) | (simp; omega) | (simp only [World.size_alloc, World.size_setCell, World.size_drew] at *; omega))
    have X_1 : Hid (Box w1 (w.heap.size) #[.slice A' n' c']) := Lib.hid (Box.below (by (repeat' (first | (with_reducible exact Box.new _ _ _ (by first | omega | (simp; done) | (simp; omega) | (simp only [World.size_alloc, World.size_setCell, World.size_drew] at *; omega))) | (with_reducible refine Box.far ?_ (by first | omega | (simp; done) | (simp; omega) | (simp only [World.size_alloc, World.size_setCell, World.size_drew] at *; omega)) _) | (apply Box.put3_0) | (apply Box.put3_1) | (apply Box.put3_2) | (apply Box.put2_0) | (apply Box.put2_1) | (with_reducible refine Box.alloc ?_ _) | (with_reducible refine Box.drewN ?_ _) | (with_reducible refine Box.drew ?_) | (with_reducible assumption) | (refine Hid.out ?_; with_reducible assumption) | (apply Box.only; (with_reducible assumption); exact (by first | omega | (simp; done) | (simp; omega) | (simp only [World.size_alloc, World.size_setCell, World.size_drew] at *; omega))) | (apply Box.belowD; (with_reducible assumption))))) hb)
    have yX_1 : w.heap.size < w1.heap.size := X_1.out.1
    have X_1c := Box.facts1 X_1.out
    have Y_1 : Hid (Box w1 (w.heap.size+1) #[.int .i64 a]) := Lib.hid (Box.below (by (repeat' (first | (with_reducible exact Box.new _ _ _ (by first | omega | (simp; done) | (simp; omega) | (simp only [World.size_alloc, World.size_setCell, World.size_drew] at *; omega))) | (with_reducible refine Box.far ?_ (by first | omega | (simp; done) | (simp; omega) | (simp only [World.size_alloc, World.size_setCell, World.size_drew] at *; omega)) _) | (apply Box.put3_0) | (apply Box.put3_1) | (apply Box.put3_2) | (apply Box.put2_0) | (apply Box.put2_1) | (with_reducible refine Box.alloc ?_ _) | (with_reducible refine Box.drewN ?_ _) | (with_reducible refine Box.drew ?_) | (with_reducible assumption) | (refine Hid.out ?_; with_reducible assumption) | (apply Box.only; (with_reducible assumption); exact (by first | omega | (simp; done) | (simp; omega) | (simp only [World.size_alloc, World.size_setCell, World.size_drew] at *; omega))) | (apply Box.belowD; (with_reducible assumption))))) hb)
    have yY_1 : w.heap.size+1 < w1.heap.size := Y_1.out.1
    have Y_1c := Box.facts1 Y_1.out
    have z1 := hb.size
    (try simp at z1)
    have D1 := Lib.hid hb; clear hb
    go_wp2_with fail
    refine (impl_withoutSpare _ _ _ _ _ _ _ w.heap.size (w.heap.size+1) a ws ps _ (HJ.out.below (by (repeat' (first | (with_reducible exact Below.refl _ _) | (with_reducible refine belS ?_ (by first | omega | (simp; done) | (simp; omega) | (simp only [World.size_alloc, World.size_setCell, World.size_drew] at *; omega))) | (with_reducible refine belA ?_ (by first | omega | (simp; done) | (simp; omega) | (simp only [World.size_alloc, World.size_setCell, World.size_drew] at *; omega))) | (with_reducible refine bel_drewN ?_ _) | (with_reducible refine Below.drew ?_) | (with_reducible assumption) | (refine Hid.out ?_; with_reducible assumption) | (apply belV; (with_reducible assumption); exact (by first | omega | (simp; done) | (simp; omega) | (simp only [World.size_alloc, World.size_setCell, World.size_drew] at *; omega))))))) (HK.out.below (by (repeat' (first | (with_reducible exact Below.refl _ _) | (with_reducible refine belS ?_ (by first | omega | (simp; done) | (simp; omega) | (simp only [World.size_alloc, World.size_setCell, World.size_drew] at *; omega))) | (with_reducible refine belA ?_ (by first | omega | (simp; done) | (simp; omega) | (simp only [World.size_alloc, World.size_setCell, World.size_drew] at *; omega))) | (with_reducible refine bel_drewN ?_ _) | (with_reducible refine Below.drew ?_) | (with_reducible assumption) | (refine Hid.out ?_; with_reducible assumption) | (apply belV; (with_reducible assumption); exact (by first | omega | (simp; done) | (simp; omega) | (simp only [World.size_alloc, World.size_setCell, World.size_drew] at *; omega))))))) (by (repeat' (first | (with_reducible exact Box.new _ _ _ (by first | omega | (simp; done) | (simp; omega) | (simp only [World.size_alloc, World.size_setCell, World.size_drew] at *; omega))) | (with_reducible refine Box.far ?_ (by first | omega | (simp; done) | (simp; omega) | (simp only [World.size_alloc, World.size_setCell, World.size_drew] at *; omega)) _) | (apply Box.put3_0) | (apply Box.put3_1) | (apply Box.put3_2) | (apply Box.put2_0) | (apply Box.put2_1) | (with_reducible refine Box.alloc ?_ _) | (with_reducible refine Box.drewN ?_ _) | (with_reducible refine Box.drew ?_) | (with_reducible assumption) | (refine Hid.out ?_; with_reducible assumption) | (apply Box.only; (with_reducible assumption); exact (by first | omega | (simp; done) | (simp; omega) | (simp only [World.size_alloc, World.size_setCell, World.size_drew] at *; omega))) | (apply Box.belowD; (with_reducible assumption))))) (by (repeat' (first | (with_reducible exact Box.new _ _ _ (by first | omega | (simp; done) | (simp; omega) | (simp only [World.size_alloc, World.size_setCell, World.size_drew] at *; omega))) | (with_reducible refine Box.far ?_ (by first | omega | (simp; done) | (simp; omega) | (simp only [World.size_alloc, World.size_setCell, World.size_drew] at *; omega)) _) | (apply Box.put3_0) | (apply Box.put3_1) | (apply Box.put3_2) | (apply Box.put2_0) | (apply Box.put2_1) | (with_reducible refine Box.alloc ?_ _) | (with_reducible refine Box.drewN ?_ _) | (with_reducible refine Box.drew ?_) | (with_reducible assumption) | (refine Hid.out ?_; with_reducible assumption) | (apply Box.only; (with_reducible assumption); exact (by first | omega | (simp; done) | (simp; omega) | (simp only [World.size_alloc, World.size_setCell, World.size_drew] at *; omega))) | (apply Box.belowD; (with_reducible assumption))))) hn' hql HV.out HA.out).mono ?_
    rintro e w2 ⟨A1, c1, rfl, ho, hb⟩
    have G2 : Hid (Below w.heap.size w w2) := belU hb (by (repeat' (first | (with_reducible exact Below.refl _ _) | (with_reducible refine belS ?_ (by first | omega | (simp; done) | (simp; omega) | (simp only [World.size_alloc, World.size_setCell, World.size_drew] at *; omega))) | (with_reducible refine belA ?_ (by first | omega | (simp; done) | (simp; omega) | (simp only [World.size_alloc, World.size_setCell, World.size_drew] at *; omega))) | (with_reducible refine bel_drewN ?_ _) | (with_reducible refine Below.drew ?_) | (with_reducible assumption) | (refine Hid.out ?_; with_reducible assumption) | (apply belV; (with_reducible assumption); exact (by first | omega | (simp; done) | (simp; omega) | (simp only [World.size_alloc, World.size_setCell, World.size_drew] at *; omega)))))) (by first | omega | (simp; done) | (simp; omega) | (simp only [World.size_alloc, World.size_setCell, World.size_drew] at *; omega))
    (try simp only [World.size_alloc, World.size_setCell, World.size_drew, World.heap_drewN] at ho)
    have W1 := Lib.hid ho; clear ho
    have X_2 : Hid (Box w2 (w.heap.size) #[.slice A' n' c']) := Lib.hid (Box.below (by (repeat' (first | (with_reducible exact Box.new _ _ _ (by first | omega | (simp; done) | (simp; omega) | (simp only [World.size_alloc, World.size_setCell, World.size_drew] at *; omega))) | (with_reducible refine Box.far ?_ (by first | omega | (simp; done) | (simp; omega) | (simp only [World.size_alloc, World.size_setCell, World.size_drew] at *; omega)) _) | (apply Box.put3_0) | (apply Box.put3_1) | (apply Box.put3_2) | (apply Box.put2_0) | (apply Box.put2_1) | (with_reducible refine Box.alloc ?_ _) | (with_reducible refine Box.drewN ?_ _) | (with_reducible refine Box.drew ?_) | (with_reducible assumption) | (refine Hid.out ?_; with_reducible assumption) | (apply Box.only; (with_reducible assumption); exact (by first | omega | (simp; done) | (simp; omega) | (simp only [World.size_alloc, World.size_setCell, World.size_drew] at *; omega))) | (apply Box.belowD; (with_reducible assumption))))) hb)
    have yX_2 : w.heap.size < w2.heap.size := X_2.out.1
    have X_2c := Box.facts1 X_2.out
    have Y_2 : Hid (Box w2 (w.heap.size+1) #[.int .i64 a]) := Lib.hid (Box.below (by (repeat' (first | (with_reducible exact Box.new _ _ _ (by first | omega | (simp; done) | (simp; omega) | (simp only [World.size_alloc, World.size_setCell, World.size_drew] at *; omega))) | (with_reducible refine Box.far ?_ (by first | omega | (simp; done) | (simp; omega) | (simp only [World.size_alloc, World.size_setCell, World.size_drew] at *; omega)) _) | (apply Box.put3_0) | (apply Box.put3_1) | (apply Box.put3_2) | (apply Box.put2_0) | (apply Box.put2_1) | (with_reducible refine Box.alloc ?_ _) | (with_reducible refine Box.drewN ?_ _) | (with_reducible refine Box.drew ?_) | (with_reducible assumption) | (refine Hid.out ?_; with_reducible assumption) | (apply Box.only; (with_reducible assumption); exact (by first | omega | (simp; done) | (simp; omega) | (simp only [World.size_alloc, World.size_setCell, World.size_drew] at *; omega))) | (apply Box.belowD; (with_reducible assumption))))) hb)
    have yY_2 : w.heap.size+1 < w2.heap.size := Y_2.out.1
    have Y_2c := Box.facts1 Y_2.out
    have z2 := hb.size
    (try simp at z2)
    have D2 := Lib.hid hb; clear hb
    go_wp2_with fail
    go_ret
    exact SliceEnd.pass E.out W1.out (by omega) (Nat.le_refl _) (by (repeat' (first | (with_reducible exact Below.refl _ _) | (with_reducible refine belS ?_ (by first | omega | (simp; done) | (simp; omega) | (simp only [World.size_alloc, World.size_setCell, World.size_drew] at *; omega))) | (with_reducible refine belA ?_ (by first | omega | (simp; done) | (simp; omega) | (simp only [World.size_alloc, World.size_setCell, World.size_drew] at *; omega))) | (with_reducible refine bel_drewN ?_ _) | (with_reducible refine Below.drew ?_) | (with_reducible assumption) | (refine Hid.out ?_; with_reducible assumption) | (apply belV; (with_reducible assumption); exact (by first | omega | (simp; done) | (simp; omega) | (simp only [World.size_alloc, World.size_setCell, World.size_drew] at *; omega))))))
end Go.Proofs.Ytfidahpaidkhgab
