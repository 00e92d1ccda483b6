
/-
  The walk of the law on minimal covers: they have nothing to spare.
-/
import Derived.Test.YtfidahpaidkhgabLwP77
import Derived.Test.YtfidahpaidkhgabMd
import Derived.Test.YtfidahpaidkhgabQ9
set_option linter.unusedSimpArgs false
set_option linter.unusedVariables false
namespace Go.Proofs.Ytfidahpaidkhgab
open Go.RowKit

set_option maxHeartbeats 2000000 in
set_option maxRecDepth 100000 in
theorem laws_without (A : Option Addr) (n c i : Nat) (a : Int) (xs : List Int) (w : World) (hI : Ints w A n xs) (hn : n ≤ 1000) (hi : i < n) (ha : a = (i : Int)) :
    Calls Try.prog 24 #[.slice A n c, .int .i64 a] w (CopyEnd (outAt xs i) w) := by
  obtain ⟨i0, hi0, hz0, hz1, hz2⟩ := info_parts info_int
  subst ha
  have HL := Lib.hid hI.len
  have HI := Lib.hid hI; clear hI
  go_enter Try.func24, Try.ntmps24
  go_wp2_with fail
  go_loopw [5, 6] (fun s5 s6 wr => ∃ (k : Nat) (v : Value), k ≤ n ∧ v = s5 ∧ s6 = .int .i64 k ∧ Hid (v ≠ .slice none 0 0) ∧ Hid (Grow wr w.heap.size 3 v (wo xs i k)) ∧ Hid (Below w.heap.size w wr)) (fun _ s6 _ => n - (intOf s6).toNat)
  case atStart => exact ⟨0, _, by omega, rfl, rfl, Lib.hid (by simp), Lib.hid (by rw [wo_0]; exact Grow.lit0 w (Nat.le_refl _) 3), by (refine Lib.hid ?_; (repeat' (first | (with_reducible exact Below.refl _ _) | (with_reducible refine belS ?_ (by first | omega | (simp; done) | (simp; omega) | (simp only [World.size_alloc, World.size_setCell, World.size_drew] at *; omega))) | (with_reducible refine belA ?_ (by first | omega | (simp; done) | (simp; omega) | (simp only [World.size_alloc, World.size_setCell, World.size_drew] at *; omega))) | (with_reducible refine bel_drewN ?_ _) | (with_reducible refine Below.drew ?_) | (with_reducible assumption) | (refine Hid.out ?_; with_reducible assumption) | (apply belV; (with_reducible assumption); exact (by first | omega | (simp; done) | (simp; omega) | (simp only [World.size_alloc, World.size_setCell, World.size_drew] at *; omega))))))⟩
  case round =>
    obtain ⟨k, v, hk, rfl, rfl, hne, hgr, hbel⟩ := hrel
    have zr := hbel.out.size
    have hil := wo_len (xs := xs) (i := i) (k := k)
    by_cases hlt : k < n
    · obtain ⟨b, off, x, rfl, hb, hx, hlo, hhi, hc⟩ := (HI.out.below hbel.out).at_ hlt
      have HX := Lib.hid hx; clear hx
      by_cases hki : k = i
      · subst hki
        go_wp2_with fail
        go_roundw
        case rel => exact ⟨k + 1, _, by omega, rfl, by go_num, hne, Lib.hid (by rw [wo_same]; exact hgr.out), hbel⟩
        case measure => simp [intOf]; omega
      · have e1 : ((k : Int) != (i : Int)) = true := by simp; omega
        go_wp2_with (
          at_builtin
          refine wpList_append_own _ rfl (.tmp 17) (.tmp 22) 23 rfl w.heap.size 3 i0 (.int .i64 0) 1 8 Try.underlying23 hi0 hz0 hz1 hz2 rfl (by decide) v _ _ rfl (hgr.out.alloc _).own ⟨wr.heap.size, 0, none⟩ 1 1 [.int .i64 x] rfl rfl ?c1 ?c2 ?c3 ?c4 ?c5 ?_
          case c1 => intro j u hj; (rcases j with _ | j <;> simp at hj); subst hj; simp [go_sem]
          case c2 => intro u hu; simp at hu; subst hu; rfl
          case c3 => unfold maxLen; omega
          case c4 => omega
          case c5 => simp; omega
          intro v' w4 hown' hgrow hnil
          have R4 : Hid (Grow w4 w.heap.size 3 v' (wo xs i (k + 1))) := Lib.hid (by rw [wo_next HX.out hki]; exact Grow.snoc hown')
          have N4 : Hid (v' ≠ .slice none 0 0) := Lib.hid (fun h => by have := hnil.1 h; omega)
          have G4 : Hid (Below w.heap.size w w4) := Lib.hid (Below.grown (hbel.out.alloc (by omega) _) hgrow (by simp; omega) (fun j hj => by have := hgr.out.row j hj; omega))
          clear hown' hgrow hnil)
        go_roundw
        case rel => exact ⟨k + 1, _, by omega, rfl, by go_num, N4, R4, G4⟩
        case measure => simp [intOf]; omega
    · have hke : k = n := by omega
      subst hke
      have R := hgr.out
      have e : wo xs i k = outAt xs i := by rw [← HL.out]; exact wo_end (by rw [HL.out]; exact hi)
      rw [e] at R
      have RR := Lib.hid R
      clear R e
      go_wp2_with fail
      go_ret
      exact ⟨v, hne.out, rfl, RR.out, hbel.out⟩

theorem impl_MCt (A' Q : Option Addr) (n' q c' d : Nat) (a : Int) (ws ps T : List Int) (w : World) (hJ : Ints w A' n' ws) (hK : Ints w Q q ps) (hn' : n' ≤ maxLen) (hq : q ≤ maxLen) (hT : kMin ws a ps = T) :
    Calls Try.prog 20 #[.slice A' n' c', .int .i64 a, .slice Q q d] w (SliceEnd T w) := by
  subst hT; exact impl_MinimalCover A' Q n' q c' d a ws ps w hJ hK hn' hq
theorem spec_MCt (A' Q : Option Addr) (n' q c' d : Nat) (a : Int) (ws ps T : List Int) (w : World) (hJ : Ints w A' n' ws) (hK : Ints w Q q ps) (hn' : n' ≤ maxLen) (hq : q ≤ maxLen) (hT : kMin ws a ps = T) :
    Calls Try.prog 21 #[.slice A' n' c', .int .i64 a, .slice Q q d] w (SliceEnd T w) := by
  subst hT; exact spec_MinimalCover A' Q n' q c' d a ws ps w hJ hK hn' hq
theorem impl_ICt (A' Q : Option Addr) (n' q c' d : Nat) (a : Int) (b : Bool) (ws ps : List Int) (w : World) (hJ : Ints w A' n' ws) (hK : Ints w Q q ps) (hn' : n' ≤ maxLen) (hq : q ≤ maxLen) (hb : isCov ws a ps = b) :
    Calls Try.prog 23 #[.slice A' n' c', .int .i64 a, .slice Q q d] w fun e w' => e = .returned (.bool b) ∧ Below w.heap.size w w' := by
  subst hb; exact impl_IsCover A' Q n' q c' d a ws ps w hJ hK hn' hq

set_option maxHeartbeats 2000000 in
theorem DrawMinimalCover_any (len cap : Nat) (a : Option Addr) (w : World) (h : By w.heap.size w a len cap) : Calls Try.prog 19 #[.slice a len cap] w (SetDrawn w) := by
  have H := Lib.hid h; clear h
  go_enter Try.func19, Try.ntmps19
  go_wp2_with fail
  refine (DrawIsCover_any _ _ _ _ (H.out.below (by (repeat' (first | (with_reducible exact Below.refl _ _) | (with_reducible refine belS ?_ (by first | omega | (simp; done) | (simp; omega) | (simp only [World.size_alloc, World.size_setCell, World.size_drew] at *; omega))) | (with_reducible refine belA ?_ (by first | omega | (simp; done) | (simp; omega) | (simp only [World.size_alloc, World.size_setCell, World.size_drew] at *; omega))) | (with_reducible refine bel_drewN ?_ _) | (with_reducible refine Below.drew ?_) | (with_reducible assumption) | (refine Hid.out ?_; with_reducible assumption) | (apply belV; (with_reducible assumption); exact (by first | omega | (simp; done) | (simp; omega) | (simp only [World.size_alloc, World.size_setCell, World.size_drew] at *; omega)))))))).mono ?_
  rintro e w1 ⟨A', Q, n', q, c', d, x, ws, ps, rfl, hj, hk, lc', mc', lq, mq, h12', hq20, x0, x1, hb⟩
  have G1 : Hid (Below w.heap.size w w1) := belU hb (by (repeat' (first | (with_reducible exact Below.refl _ _) | (with_reducible refine belS ?_ (by first | omega | (simp; done) | (simp; omega) | (simp only [World.size_alloc, World.size_setCell, World.size_drew] at *; omega))) | (with_reducible refine belA ?_ (by first | omega | (simp; done) | (simp; omega) | (simp only [World.size_alloc, World.size_setCell, World.size_drew] at *; omega))) | (with_reducible refine bel_drewN ?_ _) | (with_reducible refine Below.drew ?_) | (with_reducible assumption) | (refine Hid.out ?_; with_reducible assumption) | (apply belV; (with_reducible assumption); exact (by first | omega | (simp; done) | (simp; omega) | (simp only [World.size_alloc, World.size_setCell, World.size_drew] at *; omega)))))) (by first | omega | (simp; done) | (simp; omega) | (simp only [World.size_alloc, World.size_setCell, World.size_drew] at *; omega))
  have J := Lib.hid hj; clear hj
  have K := Lib.hid hk; clear hk
  have z1 := hb.size
  (try simp at z1)
  have D1 := Lib.hid hb; clear hb
  go_wp2_with fail
  refine bodyPost_ret (v := .tuple #[.slice A' n' c', .int .i64 x, .slice Q q d]) (by simp [results, Try.results19, go_sem, *]) rfl ⟨A', Q, n', q, c', d, x, ws, ps, rfl, J.out, K.out, lc', mc', lq, mq, h12', hq20, x0, x1, by (repeat' (first | (with_reducible exact Below.refl _ _) | (with_reducible refine belS ?_ (by first | omega | (simp; done) | (simp; omega) | (simp only [World.size_alloc, World.size_setCell, World.size_drew] at *; omega))) | (with_reducible refine belA ?_ (by first | omega | (simp; done) | (simp; omega) | (simp only [World.size_alloc, World.size_setCell, World.size_drew] at *; omega))) | (with_reducible refine bel_drewN ?_ _) | (with_reducible refine Below.drew ?_) | (with_reducible assumption) | (refine Hid.out ?_; with_reducible assumption) | (apply belV; (with_reducible assumption); exact (by first | omega | (simp; done) | (simp; omega) | (simp only [World.size_alloc, World.size_setCell, World.size_drew] at *; omega)))))⟩

set_option maxHeartbeats 8000000 in
set_option maxRecDepth 100000 in
theorem FnMinimalCover_walk (a : Option Addr) (len cap : Nat) (w : World) (h : By w.heap.size w a len cap) :
    Calls Try.prog 5 #[.slice a len cap] w fun e w' => e = .returned (.bool true) ∧ Below w.heap.size w w' := by
  have hl := h.1
  have hl2 := h.2.1
  unfold maxLen at hl2
  have H := Lib.hid h; clear h
  by_cases hbig : 1048576 < len
  · go_enter Try.func5, Try.ntmps5
    go_wp2_with fail
    go_ret
    exact ⟨rfl, Below.refl _ _⟩
  · go_enter Try.func5, Try.ntmps5
    go_wp2_with fail
    refine (DrawMinimalCover_any _ _ _ _ H.out).mono ?_
    rintro e wdr ⟨A', Q, n', q, c', d, x, ws, ps, rfl, hj, hk, lc', mc', lq, mq, h12', hq20, x0, x1, hb⟩
    have Gdr : Hid (Below w.heap.size w wdr) := belU hb (by (repeat' (first | (with_reducible exact Below.refl _ _) | (with_reducible refine belS ?_ (by first | omega | (simp; done) | (simp; omega) | (simp only [World.size_alloc, World.size_setCell, World.size_drew] at *; omega))) | (with_reducible refine belA ?_ (by first | omega | (simp; done) | (simp; omega) | (simp only [World.size_alloc, World.size_setCell, World.size_drew] at *; omega))) | (with_reducible refine bel_drewN ?_ _) | (with_reducible refine Below.drew ?_) | (with_reducible assumption) | (refine Hid.out ?_; with_reducible assumption) | (apply belV; (with_reducible assumption); exact (by first | omega | (simp; done) | (simp; omega) | (simp only [World.size_alloc, World.size_setCell, World.size_drew] at *; omega)))))) (by first | omega | (simp; done) | (simp; omega) | (simp only [World.size_alloc, World.size_setCell, World.size_drew] at *; omega))
    have J := Lib.hid hj; clear hj
    have K := Lib.hid hk; clear hk
    have zdr := hb.size
    (try simp at zdr)
    have Ddr := Lib.hid hb; clear hb
    have hm' : n' ≤ maxLen := Nat.le_trans lc' mc'
    have hmq : q ≤ maxLen := Nat.le_trans lq mq
    cases hcov : isCov ws x ps
    · have E := Lib.hid (kMin_1 hcov)
      go_wp2_with fail
      refine (impl_MCt _ _ _ _ _ _ x ws ps [] _ (J.out.below (by (repeat' (first | (with_reducible exact Below.refl _ _) | (with_reducible refine belS ?_ (by first | omega | (simp; done) | (simp; omega) | (simp only [World.size_alloc, World.size_setCell, World.size_drew] at *; omega))) | (with_reducible refine belA ?_ (by first | omega | (simp; done) | (simp; omega) | (simp only [World.size_alloc, World.size_setCell, World.size_drew] at *; omega))) | (with_reducible refine bel_drewN ?_ _) | (with_reducible refine Below.drew ?_) | (with_reducible assumption) | (refine Hid.out ?_; with_reducible assumption) | (apply belV; (with_reducible assumption); exact (by first | omega | (simp; done) | (simp; omega) | (simp only [World.size_alloc, World.size_setCell, World.size_drew] at *; omega))))))) (K.out.below (by (repeat' (first | (with_reducible exact Below.refl _ _) | (with_reducible refine belS ?_ (by first | omega | (simp; done) | (simp; omega) | (simp only [World.size_alloc, World.size_setCell, World.size_drew] at *; omega))) | (with_reducible refine belA ?_ (by first | omega | (simp; done) | (simp; omega) | (simp only [World.size_alloc, World.size_setCell, World.size_drew] at *; omega))) | (with_reducible refine bel_drewN ?_ _) | (with_reducible refine Below.drew ?_) | (with_reducible assumption) | (refine Hid.out ?_; with_reducible assumption) | (apply belV; (with_reducible assumption); exact (by first | omega | (simp; done) | (simp; omega) | (simp only [World.size_alloc, World.size_setCell, World.size_drew] at *; omega))))))) hm' hmq E.out).mono ?_
      rintro e wim ⟨A1, d1, rfl, ho, hb⟩
      have Gim : Hid (Below w.heap.size w wim) := belU hb (by (repeat' (first | (with_reducible exact Below.refl _ _) | (with_reducible refine belS ?_ (by first | omega | (simp; done) | (simp; omega) | (simp only [World.size_alloc, World.size_setCell, World.size_drew] at *; omega))) | (with_reducible refine belA ?_ (by first | omega | (simp; done) | (simp; omega) | (simp only [World.size_alloc, World.size_setCell, World.size_drew] at *; omega))) | (with_reducible refine bel_drewN ?_ _) | (with_reducible refine Below.drew ?_) | (with_reducible assumption) | (refine Hid.out ?_; with_reducible assumption) | (apply belV; (with_reducible assumption); exact (by first | omega | (simp; done) | (simp; omega) | (simp only [World.size_alloc, World.size_setCell, World.size_drew] at *; omega)))))) (by first | omega | (simp; done) | (simp; omega) | (simp only [World.size_alloc, World.size_setCell, World.size_drew] at *; omega))
      (try simp only [World.size_alloc, World.size_setCell, World.size_drew, World.heap_drewN] at ho)
      have W1 := Lib.hid ho; clear ho
      have zim := hb.size
      (try simp at zim)
      have Dim := Lib.hid hb; clear hb
      go_wp2_with fail
      refine (spec_MCt _ _ _ _ _ _ x ws ps [] _ (J.out.below (by (repeat' (first | (with_reducible exact Below.refl _ _) | (with_reducible refine belS ?_ (by first | omega | (simp; done) | (simp; omega) | (simp only [World.size_alloc, World.size_setCell, World.size_drew] at *; omega))) | (with_reducible refine belA ?_ (by first | omega | (simp; done) | (simp; omega) | (simp only [World.size_alloc, World.size_setCell, World.size_drew] at *; omega))) | (with_reducible refine bel_drewN ?_ _) | (with_reducible refine Below.drew ?_) | (with_reducible assumption) | (refine Hid.out ?_; with_reducible assumption) | (apply belV; (with_reducible assumption); exact (by first | omega | (simp; done) | (simp; omega) | (simp only [World.size_alloc, World.size_setCell, World.size_drew] at *; omega))))))) (K.out.below (by (repeat' (first | (with_reducible exact Below.refl _ _) | (with_reducible refine belS ?_ (by first | omega | (simp; done) | (simp; omega) | (simp only [World.size_alloc, World.size_setCell, World.size_drew] at *; omega))) | (with_reducible refine belA ?_ (by first | omega | (simp; done) | (simp; omega) | (simp only [World.size_alloc, World.size_setCell, World.size_drew] at *; omega))) | (with_reducible refine bel_drewN ?_ _) | (with_reducible refine Below.drew ?_) | (with_reducible assumption) | (refine Hid.out ?_; with_reducible assumption) | (apply belV; (with_reducible assumption); exact (by first | omega | (simp; done) | (simp; omega) | (simp only [World.size_alloc, World.size_setCell, World.size_drew] at *; omega))))))) hm' hmq E.out).mono ?_
      rintro e wsp ⟨A2, d2, rfl, ho, hb⟩
      have Gsp : Hid (Below w.heap.size w wsp) := belU hb (by (repeat' (first | (with_reducible exact Below.refl _ _) | (with_reducible refine belS ?_ (by first | omega | (simp; done) | (simp; omega) | (simp only [World.size_alloc, World.size_setCell, World.size_drew] at *; omega))) | (with_reducible refine belA ?_ (by first | omega | (simp; done) | (simp; omega) | (simp only [World.size_alloc, World.size_setCell, World.size_drew] at *; omega))) | (with_reducible refine bel_drewN ?_ _) | (with_reducible refine Below.drew ?_) | (with_reducible assumption) | (refine Hid.out ?_; with_reducible assumption) | (apply belV; (with_reducible assumption); exact (by first | omega | (simp; done) | (simp; omega) | (simp only [World.size_alloc, World.size_setCell, World.size_drew] at *; omega)))))) (by first | omega | (simp; done) | (simp; omega) | (simp only [World.size_alloc, World.size_setCell, World.size_drew] at *; omega))
      (try simp only [World.size_alloc, World.size_setCell, World.size_drew, World.heap_drewN] at ho)
      have W2 := Lib.hid ho; clear ho
      have zsp := hb.size
      (try simp at zsp)
      have Dsp := Lib.hid hb; clear hb
      go_wp2_with fail
      refine (laws_equalInts _ _ 0 _ _ [] _ (Ints.nil _ _) (Ints.nil _ _) (by omega)).mono ?_
      rintro e we1 ⟨rfl, hb⟩
      have Ge1 : Hid (Below w.heap.size w we1) := belU hb (by (repeat' (first | (with_reducible exact Below.refl _ _) | (with_reducible refine belS ?_ (by first | omega | (simp; done) | (simp; omega) | (simp only [World.size_alloc, World.size_setCell, World.size_drew] at *; omega))) | (with_reducible refine belA ?_ (by first | omega | (simp; done) | (simp; omega) | (simp only [World.size_alloc, World.size_setCell, World.size_drew] at *; omega))) | (with_reducible refine bel_drewN ?_ _) | (with_reducible refine Below.drew ?_) | (with_reducible assumption) | (refine Hid.out ?_; with_reducible assumption) | (apply belV; (with_reducible assumption); exact (by first | omega | (simp; done) | (simp; omega) | (simp only [World.size_alloc, World.size_setCell, World.size_drew] at *; omega)))))) (by first | omega | (simp; done) | (simp; omega) | (simp only [World.size_alloc, World.size_setCell, World.size_drew] at *; omega))
      have ze1 := hb.size
      (try simp at ze1)
      have De1 := Lib.hid hb; clear hb
      go_wp2_with fail
      refine (spec_MCt _ _ _ _ _ _ x ws ps [] _ (J.out.below (by (repeat' (first | (with_reducible exact Below.refl _ _) | (with_reducible refine belS ?_ (by first | omega | (simp; done) | (simp; omega) | (simp only [World.size_alloc, World.size_setCell, World.size_drew] at *; omega))) | (with_reducible refine belA ?_ (by first | omega | (simp; done) | (simp; omega) | (simp only [World.size_alloc, World.size_setCell, World.size_drew] at *; omega))) | (with_reducible refine bel_drewN ?_ _) | (with_reducible refine Below.drew ?_) | (with_reducible assumption) | (refine Hid.out ?_; with_reducible assumption) | (apply belV; (with_reducible assumption); exact (by first | omega | (simp; done) | (simp; omega) | (simp only [World.size_alloc, World.size_setCell, World.size_drew] at *; omega))))))) (K.out.below (by (repeat' (first | (with_reducible exact Below.refl _ _) | (with_reducible refine belS ?_ (by first | omega | (simp; done) | (simp; omega) | (simp only [World.size_alloc, World.size_setCell, World.size_drew] at *; omega))) | (with_reducible refine belA ?_ (by first | omega | (simp; done) | (simp; omega) | (simp only [World.size_alloc, World.size_setCell, World.size_drew] at *; omega))) | (with_reducible refine bel_drewN ?_ _) | (with_reducible refine Below.drew ?_) | (with_reducible assumption) | (refine Hid.out ?_; with_reducible assumption) | (apply belV; (with_reducible assumption); exact (by first | omega | (simp; done) | (simp; omega) | (simp only [World.size_alloc, World.size_setCell, World.size_drew] at *; omega))))))) hm' hmq E.out).mono ?_
      rintro e wsp2 ⟨A3, d3, rfl, ho, hb⟩
      have Gsp2 : Hid (Below w.heap.size w wsp2) := belU hb (by (repeat' (first | (with_reducible exact Below.refl _ _) | (with_reducible refine belS ?_ (by first | omega | (simp; done) | (simp; omega) | (simp only [World.size_alloc, World.size_setCell, World.size_drew] at *; omega))) | (with_reducible refine belA ?_ (by first | omega | (simp; done) | (simp; omega) | (simp only [World.size_alloc, World.size_setCell, World.size_drew] at *; omega))) | (with_reducible refine bel_drewN ?_ _) | (with_reducible refine Below.drew ?_) | (with_reducible assumption) | (refine Hid.out ?_; with_reducible assumption) | (apply belV; (with_reducible assumption); exact (by first | omega | (simp; done) | (simp; omega) | (simp only [World.size_alloc, World.size_setCell, World.size_drew] at *; omega)))))) (by first | omega | (simp; done) | (simp; omega) | (simp only [World.size_alloc, World.size_setCell, World.size_drew] at *; omega))
      (try simp only [World.size_alloc, World.size_setCell, World.size_drew, World.heap_drewN] at ho)
      have W3 := Lib.hid ho; clear ho
      have zsp2 := hb.size
      (try simp at zsp2)
      have Dsp2 := Lib.hid hb; clear hb
      go_wp2_with fail
      refine (laws_equalInts _ _ 0 _ _ [] _ (Ints.nil _ _) (Ints.nil _ _) (by omega)).mono ?_
      rintro e we2 ⟨rfl, hb⟩
      have Ge2 : Hid (Below w.heap.size w we2) := belU hb (by (repeat' (first | (with_reducible exact Below.refl _ _) | (with_reducible refine belS ?_ (by first | omega | (simp; done) | (simp; omega) | (simp only [World.size_alloc, World.size_setCell, World.size_drew] at *; omega))) | (with_reducible refine belA ?_ (by first | omega | (simp; done) | (simp; omega) | (simp only [World.size_alloc, World.size_setCell, World.size_drew] at *; omega))) | (with_reducible refine bel_drewN ?_ _) | (with_reducible refine Below.drew ?_) | (with_reducible assumption) | (refine Hid.out ?_; with_reducible assumption) | (apply belV; (with_reducible assumption); exact (by first | omega | (simp; done) | (simp; omega) | (simp only [World.size_alloc, World.size_setCell, World.size_drew] at *; omega)))))) (by first | omega | (simp; done) | (simp; omega) | (simp only [World.size_alloc, World.size_setCell, World.size_drew] at *; omega))
      have ze2 := hb.size
      (try simp at ze2)
      have De2 := Lib.hid hb; clear hb
      go_wp2_with fail
      go_ret
      exact ⟨rfl, by (repeat' (first | (with_reducible exact Below.refl _ _) | (with_reducible refine belS ?_ (by first | omega | (simp; done) | (simp; omega) | (simp only [World.size_alloc, World.size_setCell, World.size_drew] at *; omega))) | (with_reducible refine belA ?_ (by first | omega | (simp; done) | (simp; omega) | (simp only [World.size_alloc, World.size_setCell, World.size_drew] at *; omega))) | (with_reducible refine bel_drewN ?_ _) | (with_reducible refine Below.drew ?_) | (with_reducible assumption) | (refine Hid.out ?_; with_reducible assumption) | (apply belV; (with_reducible assumption); exact (by first | omega | (simp; done) | (simp; omega) | (simp only [World.size_alloc, World.size_setCell, World.size_drew] at *; omega)))))⟩
    · obtain ⟨m1, m2, m3, m4, m5, m6⟩ := mCov_facts hcov
      obtain ⟨T, hT⟩ : ∃ T, mCov ws x ps = T := ⟨_, rfl⟩
      rw [hT] at m1 m2 m3 m4 m5 m6
      have E : Hid (kMin ws x ps = T) := Lib.hid (by rw [kMin_2 hcov, hT])
      have ET : Hid (kMin ws x T = T) := Lib.hid (by rw [kMin_2 m1, m4])
      have M1 := Lib.hid m1
      have M2 := Lib.hid m2
      have M3 := Lib.hid m3
      clear m1 m2 m3 m4 hT
      have hT0 : ((T.length : Int) == 0) = false := by rw [beq_eq_false_iff_ne]; omega
      have hTm : T.length ≤ maxLen := by unfold maxLen; omega
      go_wp2_with fail
      refine (impl_MCt _ _ _ _ _ _ x ws ps T _ (J.out.below (by (repeat' (first | (with_reducible exact Below.refl _ _) | (with_reducible refine belS ?_ (by first | omega | (simp; done) | (simp; omega) | (simp only [World.size_alloc, World.size_setCell, World.size_drew] at *; omega))) | (with_reducible refine belA ?_ (by first | omega | (simp; done) | (simp; omega) | (simp only [World.size_alloc, World.size_setCell, World.size_drew] at *; omega))) | (with_reducible refine bel_drewN ?_ _) | (with_reducible refine Below.drew ?_) | (with_reducible assumption) | (refine Hid.out ?_; with_reducible assumption) | (apply belV; (with_reducible assumption); exact (by first | omega | (simp; done) | (simp; omega) | (simp only [World.size_alloc, World.size_setCell, World.size_drew] at *; omega))))))) (K.out.below (by (repeat' (first | (with_reducible exact Below.refl _ _) | (with_reducible refine belS ?_ (by first | omega | (simp; done) | (simp; omega) | (simp only [World.size_alloc, World.size_setCell, World.size_drew] at *; omega))) | (with_reducible refine belA ?_ (by first | omega | (simp; done) | (simp; omega) | (simp only [World.size_alloc, World.size_setCell, World.size_drew] at *; omega))) | (with_reducible refine bel_drewN ?_ _) | (with_reducible refine Below.drew ?_) | (with_reducible assumption) | (refine Hid.out ?_; with_reducible assumption) | (apply belV; (with_reducible assumption); exact (by first | omega | (simp; done) | (simp; omega) | (simp only [World.size_alloc, World.size_setCell, World.size_drew] at *; omega))))))) hm' hmq E.out).mono ?_
      rintro e wim ⟨A1, d1, rfl, ho, hb⟩
      have Gim : Hid (Below w.heap.size w wim) := belU hb (by (repeat' (first | (with_reducible exact Below.refl _ _) | (with_reducible refine belS ?_ (by first | omega | (simp; done) | (simp; omega) | (simp only [World.size_alloc, World.size_setCell, World.size_drew] at *; omega))) | (with_reducible refine belA ?_ (by first | omega | (simp; done) | (simp; omega) | (simp only [World.size_alloc, World.size_setCell, World.size_drew] at *; omega))) | (with_reducible refine bel_drewN ?_ _) | (with_reducible refine Below.drew ?_) | (with_reducible assumption) | (refine Hid.out ?_; with_reducible assumption) | (apply belV; (with_reducible assumption); exact (by first | omega | (simp; done) | (simp; omega) | (simp only [World.size_alloc, World.size_setCell, World.size_drew] at *; omega)))))) (by first | omega | (simp; done) | (simp; omega) | (simp only [World.size_alloc, World.size_setCell, World.size_drew] at *; omega))
      (try simp only [World.size_alloc, World.size_setCell, World.size_drew, World.heap_drewN] at ho)
      have W1 := Lib.hid ho; clear ho
      have zim := hb.size
      (try simp at zim)
      have Dim := Lib.hid hb; clear hb
      go_wp2_with fail
      refine (spec_MCt _ _ _ _ _ _ x ws ps T _ (J.out.below (by (repeat' (first | (with_reducible exact Below.refl _ _) | (with_reducible refine belS ?_ (by first | omega | (simp; done) | (simp; omega) | (simp only [World.size_alloc, World.size_setCell, World.size_drew] at *; omega))) | (with_reducible refine belA ?_ (by first | omega | (simp; done) | (simp; omega) | (simp only [World.size_alloc, World.size_setCell, World.size_drew] at *; omega))) | (with_reducible refine bel_drewN ?_ _) | (with_reducible refine Below.drew ?_) | (with_reducible assumption) | (refine Hid.out ?_; with_reducible assumption) | (apply belV; (with_reducible assumption); exact (by first | omega | (simp; done) | (simp; omega) | (simp only [World.size_alloc, World.size_setCell, World.size_drew] at *; omega))))))) (K.out.below (by (repeat' (first | (with_reducible exact Below.refl _ _) | (with_reducible refine belS ?_ (by first | omega | (simp; done) | (simp; omega) | (simp only [World.size_alloc, World.size_setCell, World.size_drew] at *; omega))) | (with_reducible refine belA ?_ (by first | omega | (simp; done) | (simp; omega) | (simp only [World.size_alloc, World.size_setCell, World.size_drew] at *; omega))) | (with_reducible refine bel_drewN ?_ _) | (with_reducible refine Below.drew ?_) | (with_reducible assumption) | (refine Hid.out ?_; with_reducible assumption) | (apply belV; (with_reducible assumption); exact (by first | omega | (simp; done) | (simp; omega) | (simp only [World.size_alloc, World.size_setCell, World.size_drew] at *; omega))))))) hm' hmq E.out).mono ?_
      rintro e wsp ⟨A2, d2, rfl, ho, hb⟩
      have Gsp : Hid (Below w.heap.size w wsp) := belU hb (by (repeat' (first | (with_reducible exact Below.refl _ _) | (with_reducible refine belS ?_ (by first | omega | (simp; done) | (simp; omega) | (simp only [World.size_alloc, World.size_setCell, World.size_drew] at *; omega))) | (with_reducible refine belA ?_ (by first | omega | (simp; done) | (simp; omega) | (simp only [World.size_alloc, World.size_setCell, World.size_drew] at *; omega))) | (with_reducible refine bel_drewN ?_ _) | (with_reducible refine Below.drew ?_) | (with_reducible assumption) | (refine Hid.out ?_; with_reducible assumption) | (apply belV; (with_reducible assumption); exact (by first | omega | (simp; done) | (simp; omega) | (simp only [World.size_alloc, World.size_setCell, World.size_drew] at *; omega)))))) (by first | omega | (simp; done) | (simp; omega) | (simp only [World.size_alloc, World.size_setCell, World.size_drew] at *; omega))
      (try simp only [World.size_alloc, World.size_setCell, World.size_drew, World.heap_drewN] at ho)
      have W2 := Lib.hid ho; clear ho
      have zsp := hb.size
      (try simp at zsp)
      have Dsp := Lib.hid hb; clear hb
      go_wp2_with fail
      refine (laws_equalInts _ _ _ _ _ T _ (OwnS.ints (OwnS.by_ W1 (by (repeat' (first | (with_reducible exact OwnS.madeAt _ _ _ (by first | omega | (simp; done) | (simp; omega) | (simp only [World.size_alloc, World.size_setCell, World.size_drew] at *; omega))) | (with_reducible refine OwnS.far ?_ (by first | omega | (simp; done) | (simp; omega) | (simp only [World.size_alloc, World.size_setCell, World.size_drew] at *; omega)) _) | (with_reducible refine OwnS.alloc ?_ _) | (with_reducible refine OwnS.drewN ?_ _) | (with_reducible refine OwnS.drew ?_) | (with_reducible assumption) | (refine Hid.out ?_; with_reducible assumption) | (apply OwnS.turn; (with_reducible assumption); exact (by first | omega | (simp; done) | (simp; omega) | (simp only [World.size_alloc, World.size_setCell, World.size_drew] at *; omega))) | (apply OwnS.only; (with_reducible assumption); exact (by first | omega | (simp; done) | (simp; omega) | (simp only [World.size_alloc, World.size_setCell, World.size_drew] at *; omega))) | (apply OwnS.belowD; (with_reducible assumption))))))) (OwnS.ints (OwnS.by_ W2 (by (repeat' (first | (with_reducible exact OwnS.madeAt _ _ _ (by first | omega | (simp; done) | (simp; omega) | (simp only [World.size_alloc, World.size_setCell, World.size_drew] at *; omega))) | (with_reducible refine OwnS.far ?_ (by first | omega | (simp; done) | (simp; omega) | (simp only [World.size_alloc, World.size_setCell, World.size_drew] at *; omega)) _) | (with_reducible refine OwnS.alloc ?_ _) | (with_reducible refine OwnS.drewN ?_ _) | (with_reducible refine OwnS.drew ?_) | (with_reducible assumption) | (refine Hid.out ?_; with_reducible assumption) | (apply OwnS.turn; (with_reducible assumption); exact (by first | omega | (simp; done) | (simp; omega) | (simp only [World.size_alloc, World.size_setCell, World.size_drew] at *; omega))) | (apply OwnS.only; (with_reducible assumption); exact (by first | omega | (simp; done) | (simp; omega) | (simp only [World.size_alloc, World.size_setCell, World.size_drew] at *; omega))) | (apply OwnS.belowD; (with_reducible assumption))))))) (by omega)).mono ?_
      rintro e we1 ⟨rfl, hb⟩
      have Ge1 : Hid (Below w.heap.size w we1) := belU hb (by (repeat' (first | (with_reducible exact Below.refl _ _) | (with_reducible refine belS ?_ (by first | omega | (simp; done) | (simp; omega) | (simp only [World.size_alloc, World.size_setCell, World.size_drew] at *; omega))) | (with_reducible refine belA ?_ (by first | omega | (simp; done) | (simp; omega) | (simp only [World.size_alloc, World.size_setCell, World.size_drew] at *; omega))) | (with_reducible refine bel_drewN ?_ _) | (with_reducible refine Below.drew ?_) | (with_reducible assumption) | (refine Hid.out ?_; with_reducible assumption) | (apply belV; (with_reducible assumption); exact (by first | omega | (simp; done) | (simp; omega) | (simp only [World.size_alloc, World.size_setCell, World.size_drew] at *; omega)))))) (by first | omega | (simp; done) | (simp; omega) | (simp only [World.size_alloc, World.size_setCell, World.size_drew] at *; omega))
      have ze1 := hb.size
      (try simp at ze1)
      have De1 := Lib.hid hb; clear hb
      have IT : Hid (Ints we1 A1 T.length T) := Lib.hid (OwnS.ints (OwnS.by_ W1 (by (repeat' (first | (with_reducible exact OwnS.madeAt _ _ _ (by first | omega | (simp; done) | (simp; omega) | (simp only [World.size_alloc, World.size_setCell, World.size_drew] at *; omega))) | (with_reducible refine OwnS.far ?_ (by first | omega | (simp; done) | (simp; omega) | (simp only [World.size_alloc, World.size_setCell, World.size_drew] at *; omega)) _) | (with_reducible refine OwnS.alloc ?_ _) | (with_reducible refine OwnS.drewN ?_ _) | (with_reducible refine OwnS.drew ?_) | (with_reducible assumption) | (refine Hid.out ?_; with_reducible assumption) | (apply OwnS.turn; (with_reducible assumption); exact (by first | omega | (simp; done) | (simp; omega) | (simp only [World.size_alloc, World.size_setCell, World.size_drew] at *; omega))) | (apply OwnS.only; (with_reducible assumption); exact (by first | omega | (simp; done) | (simp; omega) | (simp only [World.size_alloc, World.size_setCell, World.size_drew] at *; omega))) | (apply OwnS.belowD; (with_reducible assumption)))))))
      have BD : Hid (Below wdr.heap.size wdr we1) := Lib.hid (by (repeat' (first | (with_reducible exact Below.refl _ _) | (with_reducible refine belS ?_ (by first | omega | (simp; done) | (simp; omega) | (simp only [World.size_alloc, World.size_setCell, World.size_drew] at *; omega))) | (with_reducible refine belA ?_ (by first | omega | (simp; done) | (simp; omega) | (simp only [World.size_alloc, World.size_setCell, World.size_drew] at *; omega))) | (with_reducible refine bel_drewN ?_ _) | (with_reducible refine Below.drew ?_) | (with_reducible assumption) | (refine Hid.out ?_; with_reducible assumption) | (apply belV; (with_reducible assumption); exact (by first | omega | (simp; done) | (simp; omega) | (simp only [World.size_alloc, World.size_setCell, World.size_drew] at *; omega))))))
      obtain ⟨bT, oT, _, rfl, -, -, -, -, -⟩ := IT.out.at_ m5
      have zb := BD.out.size
      go_wp2_with fail
      go_loopw [7] (fun s7 wr => ∃ k : Nat, k ≤ T.length ∧ s7 = .int .i64 k ∧ Hid (Below we1.heap.size we1 wr)) (fun s7 _ => T.length - (intOf s7).toNat)
      case atStart => exact ⟨0, by omega, rfl, Lib.hid (Below.refl _ _)⟩
      case round =>
        obtain ⟨k, hk, rfl, hbel⟩ := hrel
        have GD : Hid (Below wdr.heap.size wdr wr) := Lib.hid (belU hbel.out BD.out zb)
        have zr := GD.out.size
        by_cases hlt : k < T.length
        · have IR := IT.out.below hbel.out
          obtain ⟨_, _, p, e, hbp, hp, p1, p2, hcp⟩ := IR.at_ hlt
          injection e with e; injection e with e1 e2; subst e1 e2
          have PM : decide (p ∈ ps) = true := by simp [M2.out p (List.mem_of_getElem? hp)]
          have IRR := Lib.hid IR
          have ol := outAt_len hlt
          have OL := Lib.hid ol
          have hom : (outAt T k).length ≤ maxLen := by rw [ol]; unfold maxLen; omega
          have HOM := Lib.hid hom
          have HI6 : Hid (∀ z ∈ outAt T k, I64 z) := Lib.hid (fun z hz => IR.2.1 z (outAt_mem z hz))
          clear hp IR ol hom
          go_wp2_with fail
          refine (laws_isIn _ _ _ ps p _ (K.out.below GD.out) hmq).mono ?_
          rintro e wl ⟨rfl, rfl⟩
          rw [PM]
          go_wp2_with fail
          refine (laws_without _ _ _ k _ T _ IRR.out (by omega) hlt rfl).mono ?_
          rintro e w5 ⟨v5, hne5, rfl, hgr5, hb5⟩
          obtain ⟨g5, c5, rfl, hg5, og5, lc5, mc5, ig5⟩ := Grow.block hgr5 hne5 HI6.out
          have I5 := Lib.hid ig5
          have D5 := Lib.hid hb5
          clear hgr5 hne5 og5 ig5 hb5
          go_wp2_with fail
          refine (impl_ICt _ _ _ _ _ _ x false ws (outAt T k) _ ((J.out.below GD.out).below D5.out) I5.out hm' HOM.out (M3.out k hlt)).mono ?_
          rintro e w6 ⟨rfl, hb6⟩
          have G6 : Hid (Below we1.heap.size we1 w6) := Lib.hid (belT (belT hbel.out D5.out) hb6)
          clear hb6
          go_wp2_with fail
          go_roundw
          case rel => exact ⟨k + 1, by omega, by go_num, G6⟩
          case measure => simp [intOf]; omega
        · have GE : Hid (Below w.heap.size w wr) := Lib.hid (belT Gdr.out GD.out)
          have ze := GE.out.size
          go_wp2_with fail
          refine (impl_ICt _ _ _ _ _ _ x true ws T _ (J.out.below GD.out) (IT.out.below hbel.out) hm' hTm M1.out).mono ?_
          rintro e wic ⟨rfl, hb⟩
          have Gic : Hid (Below w.heap.size w wic) := belU hb (by (repeat' (first | (with_reducible exact Below.refl _ _) | (with_reducible refine belS ?_ (by first | omega | (simp; done) | (simp; omega) | (simp only [World.size_alloc, World.size_setCell, World.size_drew] at *; omega))) | (with_reducible refine belA ?_ (by first | omega | (simp; done) | (simp; omega) | (simp only [World.size_alloc, World.size_setCell, World.size_drew] at *; omega))) | (with_reducible refine bel_drewN ?_ _) | (with_reducible refine Below.drew ?_) | (with_reducible assumption) | (refine Hid.out ?_; with_reducible assumption) | (apply belV; (with_reducible assumption); exact (by first | omega | (simp; done) | (simp; omega) | (simp only [World.size_alloc, World.size_setCell, World.size_drew] at *; omega)))))) (by first | omega | (simp; done) | (simp; omega) | (simp only [World.size_alloc, World.size_setCell, World.size_drew] at *; omega))
          have zic := hb.size
          (try simp at zic)
          have Dic := Lib.hid hb; clear hb
          go_wp2_with fail
          refine (impl_MCt _ _ _ _ _ _ x ws T T _ ((J.out.below GD.out).below Dic.out) ((IT.out.below hbel.out).below Dic.out) hm' hTm ET.out).mono ?_
          rintro e wmc ⟨A4, d4, rfl, ho, hb⟩
          have Gmc : Hid (Below w.heap.size w wmc) := belU hb (by (repeat' (first | (with_reducible exact Below.refl _ _) | (with_reducible refine belS ?_ (by first | omega | (simp; done) | (simp; omega) | (simp only [World.size_alloc, World.size_setCell, World.size_drew] at *; omega))) | (with_reducible refine belA ?_ (by first | omega | (simp; done) | (simp; omega) | (simp only [World.size_alloc, World.size_setCell, World.size_drew] at *; omega))) | (with_reducible refine bel_drewN ?_ _) | (with_reducible refine Below.drew ?_) | (with_reducible assumption) | (refine Hid.out ?_; with_reducible assumption) | (apply belV; (with_reducible assumption); exact (by first | omega | (simp; done) | (simp; omega) | (simp only [World.size_alloc, World.size_setCell, World.size_drew] at *; omega)))))) (by first | omega | (simp; done) | (simp; omega) | (simp only [World.size_alloc, World.size_setCell, World.size_drew] at *; omega))
          (try simp only [World.size_alloc, World.size_setCell, World.size_drew, World.heap_drewN] at ho)
          have W4 := Lib.hid ho; clear ho
          have zmc := hb.size
          (try simp at zmc)
          have Dmc := Lib.hid hb; clear hb
          go_wp2_with fail
          refine (laws_equalInts _ _ _ _ _ T _ (OwnS.ints W4.out) (((IT.out.below hbel.out).below Dic.out).below Dmc.out) (by omega)).mono ?_
          rintro e we4 ⟨rfl, hb⟩
          have Ge4 : Hid (Below w.heap.size w we4) := belU hb (by (repeat' (first | (with_reducible exact Below.refl _ _) | (with_reducible refine belS ?_ (by first | omega | (simp; done) | (simp; omega) | (simp only [World.size_alloc, World.size_setCell, World.size_drew] at *; omega))) | (with_reducible refine belA ?_ (by first | omega | (simp; done) | (simp; omega) | (simp only [World.size_alloc, World.size_setCell, World.size_drew] at *; omega))) | (with_reducible refine bel_drewN ?_ _) | (with_reducible refine Below.drew ?_) | (with_reducible assumption) | (refine Hid.out ?_; with_reducible assumption) | (apply belV; (with_reducible assumption); exact (by first | omega | (simp; done) | (simp; omega) | (simp only [World.size_alloc, World.size_setCell, World.size_drew] at *; omega)))))) (by first | omega | (simp; done) | (simp; omega) | (simp only [World.size_alloc, World.size_setCell, World.size_drew] at *; omega))
          have ze4 := hb.size
          (try simp at ze4)
          have De4 := Lib.hid hb; clear hb
          go_wp2_with fail
          go_ret
          exact ⟨rfl, Ge4.out⟩
end Go.Proofs.Ytfidahpaidkhgab
