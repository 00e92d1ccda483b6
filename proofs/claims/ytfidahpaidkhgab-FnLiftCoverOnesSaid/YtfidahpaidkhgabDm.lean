
/-
  The draws of the laws on lifted covers.
-/
import Derived.Test.YtfidahpaidkhgabDl
import Derived.Test.YtfidahpaidkhgabMd
import Derived.Test.YtfidahpaidkhgabLi
import Derived.Test.YtfidahpaidkhgabQ9
set_option linter.unusedSimpArgs false
set_option linter.unusedVariables false
namespace Go.Proofs.Ytfidahpaidkhgab
open Go.RowKit

theorem IntsF.ofOwn {w : World} {lo lo' hi : Nat} {A : Option Addr} {xs : List Int} (h : OwnS w lo hi A xs) (hl : lo' ≤ lo) : IntsF w lo' A xs.length xs := by
  refine ⟨h.ints, fun hn => ?_⟩
  obtain ⟨h0 | ⟨g, e, a, b, c⟩, h4⟩ := h
  · exfalso; simp_all
  · exact ⟨g, 0, e, by omega⟩
theorem By.wide2 {B B' len cap : Nat} {a : Option Addr} {w : World} (h : By B w a len cap) (hB : B ≤ B') : By B' w a len cap := by
  obtain ⟨h1, h2, h3⟩ := h
  refine ⟨h1, h2, ?_⟩
  rcases h3 with h0 | ⟨bb, off, ha, hbb, hc⟩
  · exact .inl h0
  · exact .inr ⟨bb, off, ha, by omega, hc⟩
theorem spec_MCu (A' Q : Option Addr) (n' q c' d : Nat) (a : Int) (ws ps T : List Int) (w : World) (hJ : Ints w A' n' ws) (hK : Ints w Q q ps) (hn' : n' ≤ maxLen) (hq : q ≤ maxLen) (hT : kMin ws a ps = T) :
    Calls Try.prog 21 #[.slice A' n' c', .int .i64 a, .slice Q q d] w (SliceEnd T w) := by
  subst hT; exact spec_MinimalCover A' Q n' q c' d a ws ps w hJ hK hn' hq

theorem kMin_len (ws : List Int) (x : Int) (ps : List Int) : (kMin ws x ps).length ≤ 20 := by
  cases h : isCov ws x ps
  · rw [kMin_1 h]; simp
  · have m := mCov_facts h
    rw [kMin_2 h]; omega

def SetDrawnF (w : World) (e : Ending) (w' : World) : Prop :=
  ∃ (A' Q : Option Addr) (n' q c' d : Nat) (a : Int) (ws ps : List Int), e = .returned (.tuple #[.slice A' n' c', .int .i64 a, .slice Q q d]) ∧ IntsF w' w.heap.size A' n' ws ∧ IntsF w' w.heap.size Q q ps ∧ n' ≤ c' ∧ c' ≤ maxLen ∧ n' ≤ 12 ∧ q ≤ 20 ∧ -1000 ≤ a ∧ a ≤ 1000 ∧ Below w.heap.size w w'
set_option maxHeartbeats 4000000 in
set_option maxRecDepth 100000 in
theorem DrawIsCover_anyF (len cap : Nat) (a : Option Addr) (w : World) (h : By w.heap.size w a len cap) : Calls Try.prog 53 #[.slice a len cap] w (SetDrawnF w) := by
  have H := Lib.hid h; clear h
  go_enter Try.func53, Try.ntmps53
  go_wp2_with fail
  refine (newReader_any w.heap.size _ _ _ _ (H.out.below (by (repeat' (first | (with_reducible exact Below.refl _ _) | (with_reducible refine belS ?_ (by first | omega | (simp; done) | (simp; omega) | (simp only [World.size_alloc, World.size_setCell, World.size_drew] at *; omega))) | (with_reducible refine belA ?_ (by first | omega | (simp; done) | (simp; omega) | (simp only [World.size_alloc, World.size_setCell, World.size_drew] at *; omega))) | (with_reducible refine bel_drewN ?_ _) | (with_reducible refine Below.drew ?_) | (with_reducible assumption) | (refine Hid.out ?_; with_reducible assumption) | (apply belV; (with_reducible assumption); exact (by first | omega | (simp; done) | (simp; omega) | (simp only [World.size_alloc, World.size_setCell, World.size_drew] at *; omega))))))) (by first | omega | (simp; done) | (simp; omega) | (simp only [World.size_alloc, World.size_setCell, World.size_drew] at *; omega))).mono ?_
  rintro e w1 ⟨rfl, hr, hb⟩
  have G1 : Hid (Below w.heap.size w w1) := belU hb (by (repeat' (first | (with_reducible exact Below.refl _ _) | (with_reducible refine belS ?_ (by first | omega | (simp; done) | (simp; omega) | (simp only [World.size_alloc, World.size_setCell, World.size_drew] at *; omega))) | (with_reducible refine belA ?_ (by first | omega | (simp; done) | (simp; omega) | (simp only [World.size_alloc, World.size_setCell, World.size_drew] at *; omega))) | (with_reducible refine bel_drewN ?_ _) | (with_reducible refine Below.drew ?_) | (with_reducible assumption) | (refine Hid.out ?_; with_reducible assumption) | (apply belV; (with_reducible assumption); exact (by first | omega | (simp; done) | (simp; omega) | (simp only [World.size_alloc, World.size_setCell, World.size_drew] at *; omega)))))) (by first | omega | (simp; done) | (simp; omega) | (simp only [World.size_alloc, World.size_setCell, World.size_drew] at *; omega))
  (try simp only [World.size_alloc, World.size_setCell, World.size_drew, World.heap_drewN] at hr)
  have R1 := Lib.hid hr; clear hr
  have z1 := hb.size
  (try simp at z1)
  have D1 := Lib.hid hb; clear hb
  have s1 := R1.out.2.1
  go_wp2_with fail
  refine (anyItems_any w.heap.size _ 0 _ R1.out (by omega)).mono ?_
  rintro e w2 ⟨A, A', n, n', c, c', x, vs, ws, rfl, hI, hJ, lc, mc, lc', mc', h12, h12', x0, x1, hr, ho⟩
  have z2 := ho.size
  have R2 := Lib.hid hr; clear hr
  have D2 := Lib.hid ho; clear ho
  have G2 : Hid (Below w.heap.size w w2) := Lib.hid (Below.trans (by (repeat' (first | (with_reducible exact Below.refl _ _) | (with_reducible refine belS ?_ (by first | omega | (simp; done) | (simp; omega) | (simp only [World.size_alloc, World.size_setCell, World.size_drew] at *; omega))) | (with_reducible refine belA ?_ (by first | omega | (simp; done) | (simp; omega) | (simp only [World.size_alloc, World.size_setCell, World.size_drew] at *; omega))) | (with_reducible refine bel_drewN ?_ _) | (with_reducible refine Below.drew ?_) | (with_reducible assumption) | (refine Hid.out ?_; with_reducible assumption) | (apply belV; (with_reducible assumption); exact (by first | omega | (simp; done) | (simp; omega) | (simp only [World.size_alloc, World.size_setCell, World.size_drew] at *; omega)))))) (Only.below D2.out (by first | omega | (simp; done) | (simp; omega) | (simp only [World.size_alloc, World.size_setCell, World.size_drew] at *; omega)) (by first | omega | (simp; done) | (simp; omega) | (simp only [World.size_alloc, World.size_setCell, World.size_drew] at *; omega))))
  (try simp at z2)
  (try simp only [World.size_alloc, World.size_setCell, World.size_drew, World.heap_drewN] at hI)
  have I := Lib.hid hI; clear hI
  (try simp only [World.size_alloc, World.size_setCell, World.size_drew, World.heap_drewN] at hJ)
  have J := Lib.hid hJ; clear hJ
  have J' : Hid (IntsF w2 w1.heap.size A' n' ws) := J
  clear I J
  have hmc : n' ≤ maxLen := Nat.le_trans lc' mc'
  unfold maxLen at hmc
  go_wp2_with fail
  refine (subset_any w.heap.size _ 40 n' _ R2.out (by omega) (by omega)).mono ?_
  rintro e w3 ⟨v3, xs, hl3, hb3, hn3, rfl, hgr, hr, ho⟩
  have z3 := ho.size
  have R3 := Lib.hid hr; clear hr
  have D3 := Lib.hid ho; clear ho
  have G3 : Hid (Below w.heap.size w w3) := Lib.hid (Below.trans (by (repeat' (first | (with_reducible exact Below.refl _ _) | (with_reducible refine belS ?_ (by first | omega | (simp; done) | (simp; omega) | (simp only [World.size_alloc, World.size_setCell, World.size_drew] at *; omega))) | (with_reducible refine belA ?_ (by first | omega | (simp; done) | (simp; omega) | (simp only [World.size_alloc, World.size_setCell, World.size_drew] at *; omega))) | (with_reducible refine bel_drewN ?_ _) | (with_reducible refine Below.drew ?_) | (with_reducible assumption) | (refine Hid.out ?_; with_reducible assumption) | (apply belV; (with_reducible assumption); exact (by first | omega | (simp; done) | (simp; omega) | (simp only [World.size_alloc, World.size_setCell, World.size_drew] at *; omega)))))) (Only.below D3.out (by first | omega | (simp; done) | (simp; omega) | (simp only [World.size_alloc, World.size_setCell, World.size_drew] at *; omega)) (by first | omega | (simp; done) | (simp; omega) | (simp only [World.size_alloc, World.size_setCell, World.size_drew] at *; omega))))
  (try simp at z3)
  (try simp only [World.size_alloc, World.size_setCell, World.size_drew, World.heap_drewN] at hgr)
  have GR3 := Lib.hid hgr; clear hgr
  have NE3 := Lib.hid hn3; clear hn3
  have XB3 := Lib.hid hb3; clear hb3
  obtain ⟨g3, c3, rfl, hg3, og3, lc3, mc3, ig3⟩ := Grow.block GR3.out NE3.out (fun x hx => by have := XB3.out x hx; exact ⟨by omega, by omega⟩)
  have OT := Lib.hid ig3
  clear ig3 og3
  go_wp2_with fail
  refine (spoil_any w.heap.size _ (40 + n') _ _ _ _ xs 11 _ R3.out OT.out (by omega) (by omega) (by omega)).mono ?_
  rintro e w5 ⟨A5, n5, c5, ps, rfl, hi5, lc5, mc5, hm5, hr, ho⟩
  have z5 := ho.size
  have R5 := Lib.hid hr; clear hr
  have D5 := Lib.hid ho; clear ho
  have G5 : Hid (Below w.heap.size w w5) := Lib.hid (Below.trans (by (repeat' (first | (with_reducible exact Below.refl _ _) | (with_reducible refine belS ?_ (by first | omega | (simp; done) | (simp; omega) | (simp only [World.size_alloc, World.size_setCell, World.size_drew] at *; omega))) | (with_reducible refine belA ?_ (by first | omega | (simp; done) | (simp; omega) | (simp only [World.size_alloc, World.size_setCell, World.size_drew] at *; omega))) | (with_reducible refine bel_drewN ?_ _) | (with_reducible refine Below.drew ?_) | (with_reducible assumption) | (refine Hid.out ?_; with_reducible assumption) | (apply belV; (with_reducible assumption); exact (by first | omega | (simp; done) | (simp; omega) | (simp only [World.size_alloc, World.size_setCell, World.size_drew] at *; omega)))))) (Only.below D5.out (by first | omega | (simp; done) | (simp; omega) | (simp only [World.size_alloc, World.size_setCell, World.size_drew] at *; omega)) (by first | omega | (simp; done) | (simp; omega) | (simp only [World.size_alloc, World.size_setCell, World.size_drew] at *; omega))))
  (try simp at z5)
  (try simp only [World.size_alloc, World.size_setCell, World.size_drew, World.heap_drewN] at hi5)
  have I5 := Lib.hid hi5; clear hi5
  have J6 : Hid (IntsF w5 w1.heap.size A' n' ws) := Lib.hid (IntsF.only D5 (by omega) (IntsF.only D3 (by omega) J'.out))
  have K6 : Hid (IntsF w5 w.heap.size A5 n5 ps) := Lib.hid (IntsF.lower2 I5.out (by omega))
  have L6 : Hid (IntsF w5 w.heap.size A' n' ws) := Lib.hid (IntsF.lower2 J6.out (by omega))
  go_wp2_with fail
  refine bodyPost_ret (v := .tuple #[.slice A' n' c', .int .i64 x, .slice A5 n5 c5]) (by simp [results, Try.results53, go_sem, *]) rfl ⟨A', A5, n', n5, c', c5, x, ws, ps, rfl, L6.out, K6.out, lc', mc', h12', by omega, x0, x1, by (repeat' (first | (with_reducible exact Below.refl _ _) | (with_reducible refine belS ?_ (by first | omega | (simp; done) | (simp; omega) | (simp only [World.size_alloc, World.size_setCell, World.size_drew] at *; omega))) | (with_reducible refine belA ?_ (by first | omega | (simp; done) | (simp; omega) | (simp only [World.size_alloc, World.size_setCell, World.size_drew] at *; omega))) | (with_reducible refine bel_drewN ?_ _) | (with_reducible refine Below.drew ?_) | (with_reducible assumption) | (refine Hid.out ?_; with_reducible assumption) | (apply belV; (with_reducible assumption); exact (by first | omega | (simp; done) | (simp; omega) | (simp only [World.size_alloc, World.size_setCell, World.size_drew] at *; omega)))))⟩

set_option maxHeartbeats 4000000 in
set_option maxRecDepth 100000 in
theorem DrawLiftCover_anyF (len cap : Nat) (a : Option Addr) (w : World) (h : By w.heap.size w a len cap) : Calls Try.prog 25 #[.slice a len cap] w (SetDrawnF w) := by
  have H := Lib.hid h; clear h
  go_enter Try.func25, Try.ntmps25
  go_wp2_with fail
  refine (newReader_any w.heap.size _ _ _ _ (H.out.below (by (repeat' (first | (with_reducible exact Below.refl _ _) | (with_reducible refine belS ?_ (by first | omega | (simp; done) | (simp; omega) | (simp only [World.size_alloc, World.size_setCell, World.size_drew] at *; omega))) | (with_reducible refine belA ?_ (by first | omega | (simp; done) | (simp; omega) | (simp only [World.size_alloc, World.size_setCell, World.size_drew] at *; omega))) | (with_reducible refine bel_drewN ?_ _) | (with_reducible refine Below.drew ?_) | (with_reducible assumption) | (refine Hid.out ?_; with_reducible assumption) | (apply belV; (with_reducible assumption); exact (by first | omega | (simp; done) | (simp; omega) | (simp only [World.size_alloc, World.size_setCell, World.size_drew] at *; omega))))))) (by first | omega | (simp; done) | (simp; omega) | (simp only [World.size_alloc, World.size_setCell, World.size_drew] at *; omega))).mono ?_
  rintro e w1 ⟨rfl, hr, hb⟩
  have G1 : Hid (Below w.heap.size w w1) := belU hb (by (repeat' (first | (with_reducible exact Below.refl _ _) | (with_reducible refine belS ?_ (by first | omega | (simp; done) | (simp; omega) | (simp only [World.size_alloc, World.size_setCell, World.size_drew] at *; omega))) | (with_reducible refine belA ?_ (by first | omega | (simp; done) | (simp; omega) | (simp only [World.size_alloc, World.size_setCell, World.size_drew] at *; omega))) | (with_reducible refine bel_drewN ?_ _) | (with_reducible refine Below.drew ?_) | (with_reducible assumption) | (refine Hid.out ?_; with_reducible assumption) | (apply belV; (with_reducible assumption); exact (by first | omega | (simp; done) | (simp; omega) | (simp only [World.size_alloc, World.size_setCell, World.size_drew] at *; omega)))))) (by first | omega | (simp; done) | (simp; omega) | (simp only [World.size_alloc, World.size_setCell, World.size_drew] at *; omega))
  (try simp only [World.size_alloc, World.size_setCell, World.size_drew, World.heap_drewN] at hr)
  have R1 := Lib.hid hr; clear hr
  have z1 := hb.size
  (try simp at z1)
  have D1 := Lib.hid hb; clear hb
  have s1 := R1.out.2.1
  go_wp2_with fail
  refine (DrawIsCover_anyF _ _ _ _ (By.wide2 (H.out.below (by (repeat' (first | (with_reducible exact Below.refl _ _) | (with_reducible refine belS ?_ (by first | omega | (simp; done) | (simp; omega) | (simp only [World.size_alloc, World.size_setCell, World.size_drew] at *; omega))) | (with_reducible refine belA ?_ (by first | omega | (simp; done) | (simp; omega) | (simp only [World.size_alloc, World.size_setCell, World.size_drew] at *; omega))) | (with_reducible refine bel_drewN ?_ _) | (with_reducible refine Below.drew ?_) | (with_reducible assumption) | (refine Hid.out ?_; with_reducible assumption) | (apply belV; (with_reducible assumption); exact (by first | omega | (simp; done) | (simp; omega) | (simp only [World.size_alloc, World.size_setCell, World.size_drew] at *; omega))))))) (by omega))).mono ?_
  rintro e w2 ⟨A', Q, n', q, c', d, x, ws, ps, rfl, hj, hk, lc', mc', h12', hq20, x0, x1, hb⟩
  have G2 : Hid (Below w.heap.size w w2) := belU hb (by (repeat' (first | (with_reducible exact Below.refl _ _) | (with_reducible refine belS ?_ (by first | omega | (simp; done) | (simp; omega) | (simp only [World.size_alloc, World.size_setCell, World.size_drew] at *; omega))) | (with_reducible refine belA ?_ (by first | omega | (simp; done) | (simp; omega) | (simp only [World.size_alloc, World.size_setCell, World.size_drew] at *; omega))) | (with_reducible refine bel_drewN ?_ _) | (with_reducible refine Below.drew ?_) | (with_reducible assumption) | (refine Hid.out ?_; with_reducible assumption) | (apply belV; (with_reducible assumption); exact (by first | omega | (simp; done) | (simp; omega) | (simp only [World.size_alloc, World.size_setCell, World.size_drew] at *; omega)))))) (by first | omega | (simp; done) | (simp; omega) | (simp only [World.size_alloc, World.size_setCell, World.size_drew] at *; omega))
  (try simp only [World.size_alloc, World.size_setCell, World.size_drew, World.heap_drewN] at hj)
  have J := Lib.hid hj; clear hj
  (try simp only [World.size_alloc, World.size_setCell, World.size_drew, World.heap_drewN] at hk)
  have K := Lib.hid hk; clear hk
  have z2 := hb.size
  (try simp at z2)
  have D2 := Lib.hid hb; clear hb
  have R2 := Lib.hid (Rd.below R1.out D2.out)
  have hm' : n' ≤ maxLen := Nat.le_trans lc' mc'
  have hmq : q ≤ maxLen := by unfold maxLen; omega
  obtain ⟨T, hT⟩ : ∃ T, kMin ws x ps = T := ⟨_, rfl⟩
  go_wp2_with fail
  refine (spec_MCu _ _ _ _ _ _ x ws ps T _ J.out.out K.out.out hm' hmq hT).mono ?_
  rintro e w3 ⟨A3, d3, rfl, ho, hb⟩
  have G3 : Hid (Below w.heap.size w w3) := belU hb (by (repeat' (first | (with_reducible exact Below.refl _ _) | (with_reducible refine belS ?_ (by first | omega | (simp; done) | (simp; omega) | (simp only [World.size_alloc, World.size_setCell, World.size_drew] at *; omega))) | (with_reducible refine belA ?_ (by first | omega | (simp; done) | (simp; omega) | (simp only [World.size_alloc, World.size_setCell, World.size_drew] at *; omega))) | (with_reducible refine bel_drewN ?_ _) | (with_reducible refine Below.drew ?_) | (with_reducible assumption) | (refine Hid.out ?_; with_reducible assumption) | (apply belV; (with_reducible assumption); exact (by first | omega | (simp; done) | (simp; omega) | (simp only [World.size_alloc, World.size_setCell, World.size_drew] at *; omega)))))) (by first | omega | (simp; done) | (simp; omega) | (simp only [World.size_alloc, World.size_setCell, World.size_drew] at *; omega))
  (try simp only [World.size_alloc, World.size_setCell, World.size_drew, World.heap_drewN] at ho)
  have W3 := Lib.hid ho; clear ho
  have z3 := hb.size
  (try simp at z3)
  have D3 := Lib.hid hb; clear hb
  have R3 := Lib.hid (Rd.below R2.out D3.out)
  have J3 := Lib.hid (J.out.below D3.out)
  have K3 := Lib.hid (K.out.below D3.out)
  have F3 := Lib.hid (IntsF.ofOwn W3.out (Nat.le_refl _))
  have hT20 : T.length ≤ 20 := by rw [← hT]; exact kMin_len ws x ps
  clear hT
  by_cases hT0 : 0 < T.length
  · go_wp2_with fail
    refine (pick_any w.heap.size _ 0 _ _ R3.out (by omega) (by omega) (by omega)).mono ?_
    rintro e w4 ⟨t, t0, t1, rfl, hr, ho⟩
    have z4 := ho.size
    have R4 := Lib.hid hr; clear hr
    have D4 := Lib.hid ho; clear ho
    have G4 : Hid (Below w.heap.size w w4) := Lib.hid (Below.trans (by (repeat' (first | (with_reducible exact Below.refl _ _) | (with_reducible refine belS ?_ (by first | omega | (simp; done) | (simp; omega) | (simp only [World.size_alloc, World.size_setCell, World.size_drew] at *; omega))) | (with_reducible refine belA ?_ (by first | omega | (simp; done) | (simp; omega) | (simp only [World.size_alloc, World.size_setCell, World.size_drew] at *; omega))) | (with_reducible refine bel_drewN ?_ _) | (with_reducible refine Below.drew ?_) | (with_reducible assumption) | (refine Hid.out ?_; with_reducible assumption) | (apply belV; (with_reducible assumption); exact (by first | omega | (simp; done) | (simp; omega) | (simp only [World.size_alloc, World.size_setCell, World.size_drew] at *; omega)))))) (Only.below D4.out (by first | omega | (simp; done) | (simp; omega) | (simp only [World.size_alloc, World.size_setCell, World.size_drew] at *; omega)) (by first | omega | (simp; done) | (simp; omega) | (simp only [World.size_alloc, World.size_setCell, World.size_drew] at *; omega))))
    (try simp at z4)
    have J4 : Hid (IntsF w4 w.heap.size A' n' ws) := Lib.hid (IntsF.lower2 (IntsF.only D4 (by omega) J3.out) (by omega))
    have K4 : Hid (IntsF w4 w.heap.size Q q ps) := Lib.hid (IntsF.lower2 (IntsF.only D4 (by omega) K3.out) (by omega))
    have F4 : Hid (IntsF w4 w.heap.size A3 T.length T) := Lib.hid (IntsF.lower2 (IntsF.only D4 (by omega) F3.out) (by omega))
    by_cases ht : 0 < t
    · go_wp2_with fail
      refine bodyPost_ret (v := .tuple #[.slice A' n' c', .int .i64 x, .slice A3 T.length d3]) (by simp [results, Try.results25, go_sem, *]) rfl ⟨A', A3, n', T.length, c', d3, x, ws, T, rfl, J4.out, F4.out, lc', mc', h12', by omega, x0, x1, by (repeat' (first | (with_reducible exact Below.refl _ _) | (with_reducible refine belS ?_ (by first | omega | (simp; done) | (simp; omega) | (simp only [World.size_alloc, World.size_setCell, World.size_drew] at *; omega))) | (with_reducible refine belA ?_ (by first | omega | (simp; done) | (simp; omega) | (simp only [World.size_alloc, World.size_setCell, World.size_drew] at *; omega))) | (with_reducible refine bel_drewN ?_ _) | (with_reducible refine Below.drew ?_) | (with_reducible assumption) | (refine Hid.out ?_; with_reducible assumption) | (apply belV; (with_reducible assumption); exact (by first | omega | (simp; done) | (simp; omega) | (simp only [World.size_alloc, World.size_setCell, World.size_drew] at *; omega)))))⟩
    · go_wp2_with fail
      refine bodyPost_ret (v := .tuple #[.slice A' n' c', .int .i64 x, .slice Q q d]) (by simp [results, Try.results25, go_sem, *]) rfl ⟨A', Q, n', q, c', d, x, ws, ps, rfl, J4.out, K4.out, lc', mc', h12', hq20, x0, x1, by (repeat' (first | (with_reducible exact Below.refl _ _) | (with_reducible refine belS ?_ (by first | omega | (simp; done) | (simp; omega) | (simp only [World.size_alloc, World.size_setCell, World.size_drew] at *; omega))) | (with_reducible refine belA ?_ (by first | omega | (simp; done) | (simp; omega) | (simp only [World.size_alloc, World.size_setCell, World.size_drew] at *; omega))) | (with_reducible refine bel_drewN ?_ _) | (with_reducible refine Below.drew ?_) | (with_reducible assumption) | (refine Hid.out ?_; with_reducible assumption) | (apply belV; (with_reducible assumption); exact (by first | omega | (simp; done) | (simp; omega) | (simp only [World.size_alloc, World.size_setCell, World.size_drew] at *; omega)))))⟩
  · go_wp2_with fail
    refine bodyPost_ret (v := .tuple #[.slice A' n' c', .int .i64 x, .slice Q q d]) (by simp [results, Try.results25, go_sem, *]) rfl ⟨A', Q, n', q, c', d, x, ws, ps, rfl, (IntsF.lower2 J3.out (by omega)), (IntsF.lower2 K3.out (by omega)), lc', mc', h12', hq20, x0, x1, by (repeat' (first | (with_reducible exact Below.refl _ _) | (with_reducible refine belS ?_ (by first | omega | (simp; done) | (simp; omega) | (simp only [World.size_alloc, World.size_setCell, World.size_drew] at *; omega))) | (with_reducible refine belA ?_ (by first | omega | (simp; done) | (simp; omega) | (simp only [World.size_alloc, World.size_setCell, World.size_drew] at *; omega))) | (with_reducible refine bel_drewN ?_ _) | (with_reducible refine Below.drew ?_) | (with_reducible assumption) | (refine Hid.out ?_; with_reducible assumption) | (apply belV; (with_reducible assumption); exact (by first | omega | (simp; done) | (simp; omega) | (simp only [World.size_alloc, World.size_setCell, World.size_drew] at *; omega)))))⟩
end Go.Proofs.Ytfidahpaidkhgab
