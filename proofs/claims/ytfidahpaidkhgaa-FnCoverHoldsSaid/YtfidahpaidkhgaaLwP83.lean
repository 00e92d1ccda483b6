
/-
  The walk of the law on bounds of inequalities: they are values of knapsacks.
-/
import Derived.Test.YtfidahpaidkhgaaLwP77
import Derived.Test.YtfidahpaidkhgaaDm
import Derived.Test.YtfidahpaidkhgaaLk
import Derived.Test.YtfidahpaidkhgaaKd
set_option linter.unusedSimpArgs false
set_option linter.unusedVariables false
namespace Go.Proofs.Ytfidahpaidkhgaa
open Go.RowKit

theorem spec_LCC (A' Q : Option Addr) (n' q c' d : Nat) (a : Int) (ws ps T : List Int) (w : World) (hJ : Ints w A' n' ws) (hK : Ints w Q q ps) (hn' : n' ≤ maxLen) (hq : q ≤ maxLen) (hc' : n' ≤ c') (hT : kLift ws a ps = T) :
    Calls Try.prog 31 #[.slice A' n' c', .int .i64 a, .slice Q q d] w (SliceEndC T w) := by
  subst hT; exact spec_LiftCoverC A' Q n' q c' d a ws ps w hJ hK hn' hq hc'
theorem impl_CHr (A A' : Option Addr) (n n' c c' : Nat) (a bd : Int) (r : Bool) (ws cs : List Int) (w : World) (hI : Ints w A n ws) (hJ : Ints w A' n' cs) (hn : n ≤ maxLen) (hn' : n' ≤ maxLen) (hc : n ≤ c) (hc' : n' ≤ c') (hr : covB ws a cs bd = r) :
    Calls Try.prog 28 #[.slice A n c, .int .i64 a, .slice A' n' c', .int .i64 bd] w fun e w' => e = .returned (.bool r) ∧ Below w.heap.size w w' := by
  subst hr; exact impl_CoverHolds A A' n n' c c' a bd ws cs w hI hJ hn hn' hc hc'
theorem spec_CHr (A A' : Option Addr) (n n' c c' : Nat) (a bd : Int) (r : Bool) (ws cs : List Int) (w : World) (hI : Ints w A n ws) (hJ : Ints w A' n' cs) (hn : n ≤ maxLen) (hn' : n' ≤ maxLen) (hr : covB ws a cs bd = r) :
    Calls Try.prog 27 #[.slice A n c, .int .i64 a, .slice A' n' c', .int .i64 bd] w fun e w' => e = .returned (.bool r) ∧ Below w.heap.size w w' := by
  subst hr; exact spec_CoverHolds A A' n n' c c' a bd ws cs w hI hJ hn hn'
theorem kLift_len' (ws : List Int) (a : Int) (ps : List Int) : (kLift ws a ps).length ≤ ws.length := by
  cases h1 : isCov ws a ps with
  | false => rw [kLift_1 h1]; simp
  | true =>
    by_cases h2 : mCov ws a ps = ps
    · rw [kLift_3 h1 h2, lft_len]; exact Nat.le_refl _
    · rw [kLift_2 h2]; simp

/-- Weights, a capacity, coefficients and a bound were drawn. -/
def CoverDrawn (w : World) (e : Ending) (w' : World) : Prop :=
  ∃ (A A' : Option Addr) (n n' c c' : Nat) (a bd : Int) (ws cs : List Int), e = .returned (.tuple #[.slice A n c, .int .i64 a, .slice A' n' c', .int .i64 bd]) ∧ Ints w' A n ws ∧ Ints w' A' n' cs ∧ n ≤ c ∧ c ≤ maxLen ∧ n' ≤ c' ∧ n ≤ 12 ∧ n' ≤ 13 ∧ -1000 ≤ a ∧ a ≤ 1000 ∧ -1 ≤ bd ∧ bd ≤ 20 ∧ Below w.heap.size w w'

set_option maxHeartbeats 2000000 in
set_option maxRecDepth 100000 in
theorem DrawCoverHolds_any (len cap : Nat) (a : Option Addr) (w : World) (h : By w.heap.size w a len cap) : Calls Try.prog 44 #[.slice a len cap] w (CoverDrawn w) := by
  have H := Lib.hid h; clear h
  go_enter Try.func44, Try.ntmps44
  go_wp2_with fail
  refine (newReader_any w.heap.size _ _ _ _ (H.out.below (by (repeat' (first | (with_reducible exact Below.refl _ _) | (with_reducible refine belS ?_ (by first | omega | (simp; done) | (simp; omega) | (simp only [World.size_alloc, World.size_setCell, World.size_drew] at *; omega))) | (with_reducible refine belA ?_ (by first | omega | (simp; done) | (simp; omega) | (simp only [World.size_alloc, World.size_setCell, World.size_drew] at *; omega))) | (with_reducible refine bel_drewN ?_ _) | (with_reducible refine Below.drew ?_) | (with_reducible assumption) | (refine Hid.out ?_; with_reducible assumption) | (apply belV; (with_reducible assumption); exact (by first | omega | (simp; done) | (simp; omega) | (simp only [World.size_alloc, World.size_setCell, World.size_drew] at *; omega))))))) (by first | omega | (simp; done) | (simp; omega) | (simp only [World.size_alloc, World.size_setCell, World.size_drew] at *; omega))).mono ?_
  rintro e w1 ⟨rfl, hr, hb⟩
  have G1 : Hid (Below w.heap.size w w1) := belU hb (by (repeat' (first | (with_reducible exact Below.refl _ _) | (with_reducible refine belS ?_ (by first | omega | (simp; done) | (simp; omega) | (simp only [World.size_alloc, World.size_setCell, World.size_drew] at *; omega))) | (with_reducible refine belA ?_ (by first | omega | (simp; done) | (simp; omega) | (simp only [World.size_alloc, World.size_setCell, World.size_drew] at *; omega))) | (with_reducible refine bel_drewN ?_ _) | (with_reducible refine Below.drew ?_) | (with_reducible assumption) | (refine Hid.out ?_; with_reducible assumption) | (apply belV; (with_reducible assumption); exact (by first | omega | (simp; done) | (simp; omega) | (simp only [World.size_alloc, World.size_setCell, World.size_drew] at *; omega)))))) (by first | omega | (simp; done) | (simp; omega) | (simp only [World.size_alloc, World.size_setCell, World.size_drew] at *; omega))
  (try simp only [World.size_alloc, World.size_setCell, World.size_drew, World.heap_drewN] at hr)
  have R1 := Lib.hid hr; clear hr
  have z1 := hb.size
  (try simp at z1)
  have D1 := Lib.hid hb; clear hb
  have s1 := R1.out.2.1
  go_wp2_with fail
  refine (DrawLiftCover_anyF _ _ _ _ (By.wide2 (H.out.below (by (repeat' (first | (with_reducible exact Below.refl _ _) | (with_reducible refine belS ?_ (by first | omega | (simp; done) | (simp; omega) | (simp only [World.size_alloc, World.size_setCell, World.size_drew] at *; omega))) | (with_reducible refine belA ?_ (by first | omega | (simp; done) | (simp; omega) | (simp only [World.size_alloc, World.size_setCell, World.size_drew] at *; omega))) | (with_reducible refine bel_drewN ?_ _) | (with_reducible refine Below.drew ?_) | (with_reducible assumption) | (refine Hid.out ?_; with_reducible assumption) | (apply belV; (with_reducible assumption); exact (by first | omega | (simp; done) | (simp; omega) | (simp only [World.size_alloc, World.size_setCell, World.size_drew] at *; omega))))))) (by omega))).mono ?_
  rintro e w2 ⟨A', Q, n', q, c', d, x, ws, ps, rfl, hj, hk, lc', mc', h12', hq20, x0, x1, hb⟩
  have G2 : Hid (Below w.heap.size w w2) := belU hb (by (repeat' (first | (with_reducible exact Below.refl _ _) | (with_reducible refine belS ?_ (by first | omega | (simp; done) | (simp; omega) | (simp only [World.size_alloc, World.size_setCell, World.size_drew] at *; omega))) | (with_reducible refine belA ?_ (by first | omega | (simp; done) | (simp; omega) | (simp only [World.size_alloc, World.size_setCell, World.size_drew] at *; omega))) | (with_reducible refine bel_drewN ?_ _) | (with_reducible refine Below.drew ?_) | (with_reducible assumption) | (refine Hid.out ?_; with_reducible assumption) | (apply belV; (with_reducible assumption); exact (by first | omega | (simp; done) | (simp; omega) | (simp only [World.size_alloc, World.size_setCell, World.size_drew] at *; omega)))))) (by first | omega | (simp; done) | (simp; omega) | (simp only [World.size_alloc, World.size_setCell, World.size_drew] at *; omega))
  (try simp only [World.size_alloc, World.size_setCell, World.size_drew, World.heap_drewN] at hj)
  have J := Lib.hid hj; clear hj
  (try simp only [World.size_alloc, World.size_setCell, World.size_drew, World.heap_drewN] at hk)
  have K := Lib.hid hk; clear hk
  have z2 := hb.size
  (try simp at z2)
  have D2 := Lib.hid hb; clear hb
  have R2 := Lib.hid (Rd.below R1.out D2.out)
  have hm' : n' ≤ maxLen := Nat.le_trans lc' mc'
  have hmq : q ≤ maxLen := by unfold maxLen; omega
  have hwl := J.out.out.len
  obtain ⟨T, hT⟩ : ∃ T, kLift ws x ps = T := ⟨_, rfl⟩
  have hTl : T.length ≤ 12 := by rw [← hT]; have := kLift_len' ws x ps; omega
  clear hwl
  go_wp2_with fail
  refine (spec_LCC _ _ _ _ _ _ x ws ps T _ J.out.out K.out.out hm' hmq lc' hT).mono ?_
  rintro e w3 ⟨A3, d3, rfl, lc3, ho, hb⟩
  have G3 : Hid (Below w.heap.size w w3) := belU hb (by (repeat' (first | (with_reducible exact Below.refl _ _) | (with_reducible refine belS ?_ (by first | omega | (simp; done) | (simp; omega) | (simp only [World.size_alloc, World.size_setCell, World.size_drew] at *; omega))) | (with_reducible refine belA ?_ (by first | omega | (simp; done) | (simp; omega) | (simp only [World.size_alloc, World.size_setCell, World.size_drew] at *; omega))) | (with_reducible refine bel_drewN ?_ _) | (with_reducible refine Below.drew ?_) | (with_reducible assumption) | (refine Hid.out ?_; with_reducible assumption) | (apply belV; (with_reducible assumption); exact (by first | omega | (simp; done) | (simp; omega) | (simp only [World.size_alloc, World.size_setCell, World.size_drew] at *; omega)))))) (by first | omega | (simp; done) | (simp; omega) | (simp only [World.size_alloc, World.size_setCell, World.size_drew] at *; omega))
  (try simp only [World.size_alloc, World.size_setCell, World.size_drew, World.heap_drewN] at ho)
  have W3 := Lib.hid ho; clear ho
  have z3 := hb.size
  (try simp at z3)
  have D3 := Lib.hid hb; clear hb
  clear hT
  have R3 := Lib.hid (Rd.below R2.out D3.out)
  have J3 := Lib.hid (J.out.below D3.out)
  have F3 := Lib.hid (IntsF.ofOwn W3.out (Nat.le_refl _))
  by_cases h0 : 0 < T.length
  · have hT0 : ((T.length : Int) == 0) = false := by rw [beq_eq_false_iff_ne]; omega
    go_wp2_with fail
    refine (pick_any w.heap.size _ 0 _ _ R3.out (by omega) (by omega) (by omega)).mono ?_
    rintro e w4 ⟨t, t0, t1, rfl, hr, ho⟩
    have z4 := ho.size
    have R4 := Lib.hid hr; clear hr
    have D4 := Lib.hid ho; clear ho
    have G4 : Hid (Below w.heap.size w w4) := Lib.hid (Below.trans (by (repeat' (first | (with_reducible exact Below.refl _ _) | (with_reducible refine belS ?_ (by first | omega | (simp; done) | (simp; omega) | (simp only [World.size_alloc, World.size_setCell, World.size_drew] at *; omega))) | (with_reducible refine belA ?_ (by first | omega | (simp; done) | (simp; omega) | (simp only [World.size_alloc, World.size_setCell, World.size_drew] at *; omega))) | (with_reducible refine bel_drewN ?_ _) | (with_reducible refine Below.drew ?_) | (with_reducible assumption) | (refine Hid.out ?_; with_reducible assumption) | (apply belV; (with_reducible assumption); exact (by first | omega | (simp; done) | (simp; omega) | (simp only [World.size_alloc, World.size_setCell, World.size_drew] at *; omega)))))) (Only.below D4.out (by first | omega | (simp; done) | (simp; omega) | (simp only [World.size_alloc, World.size_setCell, World.size_drew] at *; omega)) (by first | omega | (simp; done) | (simp; omega) | (simp only [World.size_alloc, World.size_setCell, World.size_drew] at *; omega))))
    (try simp at z4)
    have J4 : Hid (IntsF w4 w1.heap.size A' n' ws) := Lib.hid (IntsF.only D4 (by omega) J3.out)
    have F4 : Hid (IntsF w4 w1.heap.size A3 T.length T) := Lib.hid (IntsF.lower2 (IntsF.only D4 (by omega) F3.out) (by omega))
    by_cases ht : t = 0
    · subst ht
      go_wp2_with fail
      refine (some_any w.heap.size _ (1) n' 0 3 _ R4.out (by omega) (by omega) (by omega) (by omega) (by omega)).mono ?_
      rintro e w5 ⟨v5, ys, hl5, hb5, hn5, rfl, hgr, hr, ho⟩
      have z5 := ho.size
      have R5 := Lib.hid hr; clear hr
      have D5 := Lib.hid ho; clear ho
      have G5 : Hid (Below w.heap.size w w5) := Lib.hid (Below.trans (by (repeat' (first | (with_reducible exact Below.refl _ _) | (with_reducible refine belS ?_ (by first | omega | (simp; done) | (simp; omega) | (simp only [World.size_alloc, World.size_setCell, World.size_drew] at *; omega))) | (with_reducible refine belA ?_ (by first | omega | (simp; done) | (simp; omega) | (simp only [World.size_alloc, World.size_setCell, World.size_drew] at *; omega))) | (with_reducible refine bel_drewN ?_ _) | (with_reducible refine Below.drew ?_) | (with_reducible assumption) | (refine Hid.out ?_; with_reducible assumption) | (apply belV; (with_reducible assumption); exact (by first | omega | (simp; done) | (simp; omega) | (simp only [World.size_alloc, World.size_setCell, World.size_drew] at *; omega)))))) (Only.below D5.out (by first | omega | (simp; done) | (simp; omega) | (simp only [World.size_alloc, World.size_setCell, World.size_drew] at *; omega)) (by first | omega | (simp; done) | (simp; omega) | (simp only [World.size_alloc, World.size_setCell, World.size_drew] at *; omega))))
      (try simp at z5)
      (try simp only [World.size_alloc, World.size_setCell, World.size_drew, World.heap_drewN] at hgr)
      have GR5 := Lib.hid hgr; clear hgr
      have NE5 := Lib.hid hn5; clear hn5
      have XB5 := Lib.hid hb5; clear hb5
      obtain ⟨g5, c5, rfl, hg5, og5, lc5, mc5, ig5⟩ := Grow.block GR5.out NE5.out (fun x hx => by have := XB5.out x hx; exact ⟨by omega, by omega⟩)
      have OT : Hid (Ints w5 (some ⟨g5, 0, none⟩) n' ys) := Lib.hid (hl5 ▸ ig5)
      clear ig5 og5
      go_wp2_with fail
      refine (spoil_any w.heap.size _ (1 + n') _ _ _ _ ys 100 _ R5.out OT.out (by omega) (by omega) (by omega)).mono ?_
      rintro e w6 ⟨A6, n6, c6, cs, rfl, hi6, lc6, mc6, hm6, hr, ho⟩
      have z6 := ho.size
      have R6 := Lib.hid hr; clear hr
      have D6 := Lib.hid ho; clear ho
      have G6 : Hid (Below w.heap.size w w6) := Lib.hid (Below.trans (by (repeat' (first | (with_reducible exact Below.refl _ _) | (with_reducible refine belS ?_ (by first | omega | (simp; done) | (simp; omega) | (simp only [World.size_alloc, World.size_setCell, World.size_drew] at *; omega))) | (with_reducible refine belA ?_ (by first | omega | (simp; done) | (simp; omega) | (simp only [World.size_alloc, World.size_setCell, World.size_drew] at *; omega))) | (with_reducible refine bel_drewN ?_ _) | (with_reducible refine Below.drew ?_) | (with_reducible assumption) | (refine Hid.out ?_; with_reducible assumption) | (apply belV; (with_reducible assumption); exact (by first | omega | (simp; done) | (simp; omega) | (simp only [World.size_alloc, World.size_setCell, World.size_drew] at *; omega)))))) (Only.below D6.out (by first | omega | (simp; done) | (simp; omega) | (simp only [World.size_alloc, World.size_setCell, World.size_drew] at *; omega)) (by first | omega | (simp; done) | (simp; omega) | (simp only [World.size_alloc, World.size_setCell, World.size_drew] at *; omega))))
      (try simp at z6)
      (try simp only [World.size_alloc, World.size_setCell, World.size_drew, World.heap_drewN] at hi6)
      have I6 := Lib.hid hi6; clear hi6
      have J6 : Hid (IntsF w6 w1.heap.size A' n' ws) := Lib.hid (IntsF.only D6 (by omega) (IntsF.only D5 (by omega) J4.out))
      have F6 : Hid (IntsF w6 w1.heap.size A6 n6 cs) := Lib.hid (IntsF.lower2 I6.out (by omega))
      go_wp2_with fail
      refine (one_any w.heap.size _ (1 + n' + 3) _ _ [(q : Int) - 1, (q : Int), 0, 2, 5, -1] _ (R6.out.alloc _) (by omega) (by simp) (by simp) (by first | omega | (simp; done) | (simp; omega) | (simp only [World.size_alloc, World.size_setCell, World.size_drew] at *; omega)) (by simp) (lit_cells (l := [(q : Int) - 1, (q : Int), 0, 2, 5, -1]))).mono ?_
      rintro e w7 ⟨u, hu, rfl, hr, ho⟩
      have z7 := ho.size
      have R7 := Lib.hid hr; clear hr
      have D7 := Lib.hid ho; clear ho
      have G7 : Hid (Below w.heap.size w w7) := Lib.hid (Below.trans (by (repeat' (first | (with_reducible exact Below.refl _ _) | (with_reducible refine belS ?_ (by first | omega | (simp; done) | (simp; omega) | (simp only [World.size_alloc, World.size_setCell, World.size_drew] at *; omega))) | (with_reducible refine belA ?_ (by first | omega | (simp; done) | (simp; omega) | (simp only [World.size_alloc, World.size_setCell, World.size_drew] at *; omega))) | (with_reducible refine bel_drewN ?_ _) | (with_reducible refine Below.drew ?_) | (with_reducible assumption) | (refine Hid.out ?_; with_reducible assumption) | (apply belV; (with_reducible assumption); exact (by first | omega | (simp; done) | (simp; omega) | (simp only [World.size_alloc, World.size_setCell, World.size_drew] at *; omega)))))) (Only.below D7.out (by first | omega | (simp; done) | (simp; omega) | (simp only [World.size_alloc, World.size_setCell, World.size_drew] at *; omega)) (by first | omega | (simp; done) | (simp; omega) | (simp only [World.size_alloc, World.size_setCell, World.size_drew] at *; omega))))
      (try simp at z7)
      have bu : -1 ≤ u ∧ u ≤ 20 := by simp at hu; omega
      clear hu
      have JZ : Hid (IntsF w7 w1.heap.size A' n' ws) := Lib.hid (IntsF.only D7 (by omega) (IntsF.alloc J6.out _))
      have FZ : Hid (IntsF w7 w1.heap.size A6 n6 cs) := Lib.hid (IntsF.only D7 (by omega) (IntsF.alloc F6.out _))
      go_wp2_with fail
      refine bodyPost_ret (v := .tuple #[.slice A' n' c', .int .i64 x, .slice A6 n6 c6, .int .i64 u]) (by simp [results, Try.results44, go_sem, *]) rfl ⟨A', A6, n', n6, c', c6, x, u, ws, cs, rfl, JZ.out.out, FZ.out.out, lc', mc', lc6, h12', by omega, x0, x1, bu.1, bu.2, by (repeat' (first | (with_reducible exact Below.refl _ _) | (with_reducible refine belS ?_ (by first | omega | (simp; done) | (simp; omega) | (simp only [World.size_alloc, World.size_setCell, World.size_drew] at *; omega))) | (with_reducible refine belA ?_ (by first | omega | (simp; done) | (simp; omega) | (simp only [World.size_alloc, World.size_setCell, World.size_drew] at *; omega))) | (with_reducible refine bel_drewN ?_ _) | (with_reducible refine Below.drew ?_) | (with_reducible assumption) | (refine Hid.out ?_; with_reducible assumption) | (apply belV; (with_reducible assumption); exact (by first | omega | (simp; done) | (simp; omega) | (simp only [World.size_alloc, World.size_setCell, World.size_drew] at *; omega)))))⟩
    · have et : (t == 0) = false := by rw [beq_eq_false_iff_ne]; exact ht
      go_wp2_with fail
      refine (one_any w.heap.size _ (1) _ _ [(q : Int) - 1, (q : Int), 0, 2, 5, -1] _ (R4.out.alloc _) (by omega) (by simp) (by simp) (by first | omega | (simp; done) | (simp; omega) | (simp only [World.size_alloc, World.size_setCell, World.size_drew] at *; omega)) (by simp) (lit_cells (l := [(q : Int) - 1, (q : Int), 0, 2, 5, -1]))).mono ?_
      rintro e w5 ⟨u, hu, rfl, hr, ho⟩
      have z5 := ho.size
      have R5 := Lib.hid hr; clear hr
      have D5 := Lib.hid ho; clear ho
      have G5 : Hid (Below w.heap.size w w5) := Lib.hid (Below.trans (by (repeat' (first | (with_reducible exact Below.refl _ _) | (with_reducible refine belS ?_ (by first | omega | (simp; done) | (simp; omega) | (simp only [World.size_alloc, World.size_setCell, World.size_drew] at *; omega))) | (with_reducible refine belA ?_ (by first | omega | (simp; done) | (simp; omega) | (simp only [World.size_alloc, World.size_setCell, World.size_drew] at *; omega))) | (with_reducible refine bel_drewN ?_ _) | (with_reducible refine Below.drew ?_) | (with_reducible assumption) | (refine Hid.out ?_; with_reducible assumption) | (apply belV; (with_reducible assumption); exact (by first | omega | (simp; done) | (simp; omega) | (simp only [World.size_alloc, World.size_setCell, World.size_drew] at *; omega)))))) (Only.below D5.out (by first | omega | (simp; done) | (simp; omega) | (simp only [World.size_alloc, World.size_setCell, World.size_drew] at *; omega)) (by first | omega | (simp; done) | (simp; omega) | (simp only [World.size_alloc, World.size_setCell, World.size_drew] at *; omega))))
      (try simp at z5)
      have bu : -1 ≤ u ∧ u ≤ 20 := by simp at hu; omega
      clear hu
      have JZ : Hid (IntsF w5 w1.heap.size A' n' ws) := Lib.hid (IntsF.only D5 (by omega) (IntsF.alloc J4.out _))
      have FZ : Hid (IntsF w5 w1.heap.size A3 T.length T) := Lib.hid (IntsF.only D5 (by omega) (IntsF.alloc F4.out _))
      go_wp2_with fail
      refine bodyPost_ret (v := .tuple #[.slice A' n' c', .int .i64 x, .slice A3 T.length d3, .int .i64 u]) (by simp [results, Try.results44, go_sem, *]) rfl ⟨A', A3, n', T.length, c', d3, x, u, ws, T, rfl, JZ.out.out, FZ.out.out, lc', mc', lc3, h12', by omega, x0, x1, bu.1, bu.2, by (repeat' (first | (with_reducible exact Below.refl _ _) | (with_reducible refine belS ?_ (by first | omega | (simp; done) | (simp; omega) | (simp only [World.size_alloc, World.size_setCell, World.size_drew] at *; omega))) | (with_reducible refine belA ?_ (by first | omega | (simp; done) | (simp; omega) | (simp only [World.size_alloc, World.size_setCell, World.size_drew] at *; omega))) | (with_reducible refine bel_drewN ?_ _) | (with_reducible refine Below.drew ?_) | (with_reducible assumption) | (refine Hid.out ?_; with_reducible assumption) | (apply belV; (with_reducible assumption); exact (by first | omega | (simp; done) | (simp; omega) | (simp only [World.size_alloc, World.size_setCell, World.size_drew] at *; omega)))))⟩
  · have hT0 : ((T.length : Int) == 0) = true := by rw [beq_iff_eq]; omega
    go_wp2_with fail
    refine (some_any w.heap.size _ (0) n' 0 3 _ R3.out (by omega) (by omega) (by omega) (by omega) (by omega)).mono ?_
    rintro e w5 ⟨v5, ys, hl5, hb5, hn5, rfl, hgr, hr, ho⟩
    have z5 := ho.size
    have R5 := Lib.hid hr; clear hr
    have D5 := Lib.hid ho; clear ho
    have G5 : Hid (Below w.heap.size w w5) := Lib.hid (Below.trans (by (repeat' (first | (with_reducible exact Below.refl _ _) | (with_reducible refine belS ?_ (by first | omega | (simp; done) | (simp; omega) | (simp only [World.size_alloc, World.size_setCell, World.size_drew] at *; omega))) | (with_reducible refine belA ?_ (by first | omega | (simp; done) | (simp; omega) | (simp only [World.size_alloc, World.size_setCell, World.size_drew] at *; omega))) | (with_reducible refine bel_drewN ?_ _) | (with_reducible refine Below.drew ?_) | (with_reducible assumption) | (refine Hid.out ?_; with_reducible assumption) | (apply belV; (with_reducible assumption); exact (by first | omega | (simp; done) | (simp; omega) | (simp only [World.size_alloc, World.size_setCell, World.size_drew] at *; omega)))))) (Only.below D5.out (by first | omega | (simp; done) | (simp; omega) | (simp only [World.size_alloc, World.size_setCell, World.size_drew] at *; omega)) (by first | omega | (simp; done) | (simp; omega) | (simp only [World.size_alloc, World.size_setCell, World.size_drew] at *; omega))))
    (try simp at z5)
    (try simp only [World.size_alloc, World.size_setCell, World.size_drew, World.heap_drewN] at hgr)
    have GR5 := Lib.hid hgr; clear hgr
    have NE5 := Lib.hid hn5; clear hn5
    have XB5 := Lib.hid hb5; clear hb5
    obtain ⟨g5, c5, rfl, hg5, og5, lc5, mc5, ig5⟩ := Grow.block GR5.out NE5.out (fun x hx => by have := XB5.out x hx; exact ⟨by omega, by omega⟩)
    have OT : Hid (Ints w5 (some ⟨g5, 0, none⟩) n' ys) := Lib.hid (hl5 ▸ ig5)
    clear ig5 og5
    go_wp2_with fail
    refine (spoil_any w.heap.size _ (0 + n') _ _ _ _ ys 100 _ R5.out OT.out (by omega) (by omega) (by omega)).mono ?_
    rintro e w6 ⟨A6, n6, c6, cs, rfl, hi6, lc6, mc6, hm6, hr, ho⟩
    have z6 := ho.size
    have R6 := Lib.hid hr; clear hr
    have D6 := Lib.hid ho; clear ho
    have G6 : Hid (Below w.heap.size w w6) := Lib.hid (Below.trans (by (repeat' (first | (with_reducible exact Below.refl _ _) | (with_reducible refine belS ?_ (by first | omega | (simp; done) | (simp; omega) | (simp only [World.size_alloc, World.size_setCell, World.size_drew] at *; omega))) | (with_reducible refine belA ?_ (by first | omega | (simp; done) | (simp; omega) | (simp only [World.size_alloc, World.size_setCell, World.size_drew] at *; omega))) | (with_reducible refine bel_drewN ?_ _) | (with_reducible refine Below.drew ?_) | (with_reducible assumption) | (refine Hid.out ?_; with_reducible assumption) | (apply belV; (with_reducible assumption); exact (by first | omega | (simp; done) | (simp; omega) | (simp only [World.size_alloc, World.size_setCell, World.size_drew] at *; omega)))))) (Only.below D6.out (by first | omega | (simp; done) | (simp; omega) | (simp only [World.size_alloc, World.size_setCell, World.size_drew] at *; omega)) (by first | omega | (simp; done) | (simp; omega) | (simp only [World.size_alloc, World.size_setCell, World.size_drew] at *; omega))))
    (try simp at z6)
    (try simp only [World.size_alloc, World.size_setCell, World.size_drew, World.heap_drewN] at hi6)
    have I6 := Lib.hid hi6; clear hi6
    have J6 : Hid (IntsF w6 w1.heap.size A' n' ws) := Lib.hid (IntsF.only D6 (by omega) (IntsF.only D5 (by omega) J3.out))
    have F6 : Hid (IntsF w6 w1.heap.size A6 n6 cs) := Lib.hid (IntsF.lower2 I6.out (by omega))
    go_wp2_with fail
    refine (one_any w.heap.size _ (0 + n' + 3) _ _ [(q : Int) - 1, (q : Int), 0, 2, 5, -1] _ (R6.out.alloc _) (by omega) (by simp) (by simp) (by first | omega | (simp; done) | (simp; omega) | (simp only [World.size_alloc, World.size_setCell, World.size_drew] at *; omega)) (by simp) (lit_cells (l := [(q : Int) - 1, (q : Int), 0, 2, 5, -1]))).mono ?_
    rintro e w7 ⟨u, hu, rfl, hr, ho⟩
    have z7 := ho.size
    have R7 := Lib.hid hr; clear hr
    have D7 := Lib.hid ho; clear ho
    have G7 : Hid (Below w.heap.size w w7) := Lib.hid (Below.trans (by (repeat' (first | (with_reducible exact Below.refl _ _) | (with_reducible refine belS ?_ (by first | omega | (simp; done) | (simp; omega) | (simp only [World.size_alloc, World.size_setCell, World.size_drew] at *; omega))) | (with_reducible refine belA ?_ (by first | omega | (simp; done) | (simp; omega) | (simp only [World.size_alloc, World.size_setCell, World.size_drew] at *; omega))) | (with_reducible refine bel_drewN ?_ _) | (with_reducible refine Below.drew ?_) | (with_reducible assumption) | (refine Hid.out ?_; with_reducible assumption) | (apply belV; (with_reducible assumption); exact (by first | omega | (simp; done) | (simp; omega) | (simp only [World.size_alloc, World.size_setCell, World.size_drew] at *; omega)))))) (Only.below D7.out (by first | omega | (simp; done) | (simp; omega) | (simp only [World.size_alloc, World.size_setCell, World.size_drew] at *; omega)) (by first | omega | (simp; done) | (simp; omega) | (simp only [World.size_alloc, World.size_setCell, World.size_drew] at *; omega))))
    (try simp at z7)
    have bu : -1 ≤ u ∧ u ≤ 20 := by simp at hu; omega
    clear hu
    have JZ : Hid (IntsF w7 w1.heap.size A' n' ws) := Lib.hid (IntsF.only D7 (by omega) (IntsF.alloc J6.out _))
    have FZ : Hid (IntsF w7 w1.heap.size A6 n6 cs) := Lib.hid (IntsF.only D7 (by omega) (IntsF.alloc F6.out _))
    go_wp2_with fail
    refine bodyPost_ret (v := .tuple #[.slice A' n' c', .int .i64 x, .slice A6 n6 c6, .int .i64 u]) (by simp [results, Try.results44, go_sem, *]) rfl ⟨A', A6, n', n6, c', c6, x, u, ws, cs, rfl, JZ.out.out, FZ.out.out, lc', mc', lc6, h12', by omega, x0, x1, bu.1, bu.2, by (repeat' (first | (with_reducible exact Below.refl _ _) | (with_reducible refine belS ?_ (by first | omega | (simp; done) | (simp; omega) | (simp only [World.size_alloc, World.size_setCell, World.size_drew] at *; omega))) | (with_reducible refine belA ?_ (by first | omega | (simp; done) | (simp; omega) | (simp only [World.size_alloc, World.size_setCell, World.size_drew] at *; omega))) | (with_reducible refine bel_drewN ?_ _) | (with_reducible refine Below.drew ?_) | (with_reducible assumption) | (refine Hid.out ?_; with_reducible assumption) | (apply belV; (with_reducible assumption); exact (by first | omega | (simp; done) | (simp; omega) | (simp only [World.size_alloc, World.size_setCell, World.size_drew] at *; omega)))))⟩

set_option maxHeartbeats 8000000 in
set_option maxRecDepth 100000 in
theorem FnCoverHolds_walk (a : Option Addr) (len cap : Nat) (w : World) (h : By w.heap.size w a len cap) :
    Calls Try.prog 14 #[.slice a len cap] w fun e w' => e = .returned (.bool true) ∧ Below w.heap.size w w' := by
  have hl := h.1
  have hl2 := h.2.1
  unfold maxLen at hl2
  have H := Lib.hid h; clear h
  by_cases hbig : 1048576 < len
  · go_enter Try.func14, Try.ntmps14
    go_wp2_with fail
    go_ret
    exact ⟨rfl, Below.refl _ _⟩
  · go_enter Try.func14, Try.ntmps14
    go_wp2_with fail
    refine (DrawCoverHolds_any _ _ _ _ H.out).mono ?_
    rintro e wdr ⟨A, A', n, n', c, c', x, bd, ws, cs, rfl, hi, hj, lc, mc, lc', h12, h13, x0, x1, b0, b1, hb⟩
    have Gdr : Hid (Below w.heap.size w wdr) := belU hb (by (repeat' (first | (with_reducible exact Below.refl _ _) | (with_reducible refine belS ?_ (by first | omega | (simp; done) | (simp; omega) | (simp only [World.size_alloc, World.size_setCell, World.size_drew] at *; omega))) | (with_reducible refine belA ?_ (by first | omega | (simp; done) | (simp; omega) | (simp only [World.size_alloc, World.size_setCell, World.size_drew] at *; omega))) | (with_reducible refine bel_drewN ?_ _) | (with_reducible refine Below.drew ?_) | (with_reducible assumption) | (refine Hid.out ?_; with_reducible assumption) | (apply belV; (with_reducible assumption); exact (by first | omega | (simp; done) | (simp; omega) | (simp only [World.size_alloc, World.size_setCell, World.size_drew] at *; omega)))))) (by first | omega | (simp; done) | (simp; omega) | (simp only [World.size_alloc, World.size_setCell, World.size_drew] at *; omega))
    have I := Lib.hid hi; clear hi
    have J := Lib.hid hj; clear hj
    have zdr := hb.size
    (try simp at zdr)
    have Ddr := Lib.hid hb; clear hb
    have hm : n ≤ maxLen := Nat.le_trans lc mc
    have hm' : n' ≤ maxLen := by unfold maxLen; omega
    have E := Lib.hid (covB_any ws cs x bd)
    obtain ⟨r, hr⟩ : ∃ r, covB ws x cs bd = r := ⟨_, rfl⟩
    have HR := Lib.hid hr; clear hr
    go_wp2_with fail
    refine (impl_CHr _ _ _ _ _ _ x bd r ws cs _ (I.out.below (by (repeat' (first | (with_reducible exact Below.refl _ _) | (with_reducible refine belS ?_ (by first | omega | (simp; done) | (simp; omega) | (simp only [World.size_alloc, World.size_setCell, World.size_drew] at *; omega))) | (with_reducible refine belA ?_ (by first | omega | (simp; done) | (simp; omega) | (simp only [World.size_alloc, World.size_setCell, World.size_drew] at *; omega))) | (with_reducible refine bel_drewN ?_ _) | (with_reducible refine Below.drew ?_) | (with_reducible assumption) | (refine Hid.out ?_; with_reducible assumption) | (apply belV; (with_reducible assumption); exact (by first | omega | (simp; done) | (simp; omega) | (simp only [World.size_alloc, World.size_setCell, World.size_drew] at *; omega))))))) (J.out.below (by (repeat' (first | (with_reducible exact Below.refl _ _) | (with_reducible refine belS ?_ (by first | omega | (simp; done) | (simp; omega) | (simp only [World.size_alloc, World.size_setCell, World.size_drew] at *; omega))) | (with_reducible refine belA ?_ (by first | omega | (simp; done) | (simp; omega) | (simp only [World.size_alloc, World.size_setCell, World.size_drew] at *; omega))) | (with_reducible refine bel_drewN ?_ _) | (with_reducible refine Below.drew ?_) | (with_reducible assumption) | (refine Hid.out ?_; with_reducible assumption) | (apply belV; (with_reducible assumption); exact (by first | omega | (simp; done) | (simp; omega) | (simp only [World.size_alloc, World.size_setCell, World.size_drew] at *; omega))))))) hm hm' lc lc' HR.out).mono ?_
    rintro e wim ⟨rfl, hb⟩
    have Gim : Hid (Below w.heap.size w wim) := belU hb (by (repeat' (first | (with_reducible exact Below.refl _ _) | (with_reducible refine belS ?_ (by first | omega | (simp; done) | (simp; omega) | (simp only [World.size_alloc, World.size_setCell, World.size_drew] at *; omega))) | (with_reducible refine belA ?_ (by first | omega | (simp; done) | (simp; omega) | (simp only [World.size_alloc, World.size_setCell, World.size_drew] at *; omega))) | (with_reducible refine bel_drewN ?_ _) | (with_reducible refine Below.drew ?_) | (with_reducible assumption) | (refine Hid.out ?_; with_reducible assumption) | (apply belV; (with_reducible assumption); exact (by first | omega | (simp; done) | (simp; omega) | (simp only [World.size_alloc, World.size_setCell, World.size_drew] at *; omega)))))) (by first | omega | (simp; done) | (simp; omega) | (simp only [World.size_alloc, World.size_setCell, World.size_drew] at *; omega))
    have zim := hb.size
    (try simp at zim)
    have Dim := Lib.hid hb; clear hb
    go_wp2_with fail
    refine (spec_CHr _ _ _ _ _ _ x bd r ws cs _ (I.out.below (by (repeat' (first | (with_reducible exact Below.refl _ _) | (with_reducible refine belS ?_ (by first | omega | (simp; done) | (simp; omega) | (simp only [World.size_alloc, World.size_setCell, World.size_drew] at *; omega))) | (with_reducible refine belA ?_ (by first | omega | (simp; done) | (simp; omega) | (simp only [World.size_alloc, World.size_setCell, World.size_drew] at *; omega))) | (with_reducible refine bel_drewN ?_ _) | (with_reducible refine Below.drew ?_) | (with_reducible assumption) | (refine Hid.out ?_; with_reducible assumption) | (apply belV; (with_reducible assumption); exact (by first | omega | (simp; done) | (simp; omega) | (simp only [World.size_alloc, World.size_setCell, World.size_drew] at *; omega))))))) (J.out.below (by (repeat' (first | (with_reducible exact Below.refl _ _) | (with_reducible refine belS ?_ (by first | omega | (simp; done) | (simp; omega) | (simp only [World.size_alloc, World.size_setCell, World.size_drew] at *; omega))) | (with_reducible refine belA ?_ (by first | omega | (simp; done) | (simp; omega) | (simp only [World.size_alloc, World.size_setCell, World.size_drew] at *; omega))) | (with_reducible refine bel_drewN ?_ _) | (with_reducible refine Below.drew ?_) | (with_reducible assumption) | (refine Hid.out ?_; with_reducible assumption) | (apply belV; (with_reducible assumption); exact (by first | omega | (simp; done) | (simp; omega) | (simp only [World.size_alloc, World.size_setCell, World.size_drew] at *; omega))))))) hm hm' HR.out).mono ?_
    rintro e wsp ⟨rfl, hb⟩
    have Gsp : Hid (Below w.heap.size w wsp) := belU hb (by (repeat' (first | (with_reducible exact Below.refl _ _) | (with_reducible refine belS ?_ (by first | omega | (simp; done) | (simp; omega) | (simp only [World.size_alloc, World.size_setCell, World.size_drew] at *; omega))) | (with_reducible refine belA ?_ (by first | omega | (simp; done) | (simp; omega) | (simp only [World.size_alloc, World.size_setCell, World.size_drew] at *; omega))) | (with_reducible refine bel_drewN ?_ _) | (with_reducible refine Below.drew ?_) | (with_reducible assumption) | (refine Hid.out ?_; with_reducible assumption) | (apply belV; (with_reducible assumption); exact (by first | omega | (simp; done) | (simp; omega) | (simp only [World.size_alloc, World.size_setCell, World.size_drew] at *; omega)))))) (by first | omega | (simp; done) | (simp; omega) | (simp only [World.size_alloc, World.size_setCell, World.size_drew] at *; omega))
    have zsp := hb.size
    (try simp at zsp)
    have Dsp := Lib.hid hb; clear hb
    by_cases hb : bd < 0
    · go_wp2_with fail
      refine (spec_CHr _ _ _ _ _ _ x bd r ws cs _ (I.out.below (by (repeat' (first | (with_reducible exact Below.refl _ _) | (with_reducible refine belS ?_ (by first | omega | (simp; done) | (simp; omega) | (simp only [World.size_alloc, World.size_setCell, World.size_drew] at *; omega))) | (with_reducible refine belA ?_ (by first | omega | (simp; done) | (simp; omega) | (simp only [World.size_alloc, World.size_setCell, World.size_drew] at *; omega))) | (with_reducible refine bel_drewN ?_ _) | (with_reducible refine Below.drew ?_) | (with_reducible assumption) | (refine Hid.out ?_; with_reducible assumption) | (apply belV; (with_reducible assumption); exact (by first | omega | (simp; done) | (simp; omega) | (simp only [World.size_alloc, World.size_setCell, World.size_drew] at *; omega))))))) (J.out.below (by (repeat' (first | (with_reducible exact Below.refl _ _) | (with_reducible refine belS ?_ (by first | omega | (simp; done) | (simp; omega) | (simp only [World.size_alloc, World.size_setCell, World.size_drew] at *; omega))) | (with_reducible refine belA ?_ (by first | omega | (simp; done) | (simp; omega) | (simp only [World.size_alloc, World.size_setCell, World.size_drew] at *; omega))) | (with_reducible refine bel_drewN ?_ _) | (with_reducible refine Below.drew ?_) | (with_reducible assumption) | (refine Hid.out ?_; with_reducible assumption) | (apply belV; (with_reducible assumption); exact (by first | omega | (simp; done) | (simp; omega) | (simp only [World.size_alloc, World.size_setCell, World.size_drew] at *; omega))))))) hm hm' HR.out).mono ?_
      rintro e wsp2 ⟨rfl, hb⟩
      have Gsp2 : Hid (Below w.heap.size w wsp2) := belU hb (by (repeat' (first | (with_reducible exact Below.refl _ _) | (with_reducible refine belS ?_ (by first | omega | (simp; done) | (simp; omega) | (simp only [World.size_alloc, World.size_setCell, World.size_drew] at *; omega))) | (with_reducible refine belA ?_ (by first | omega | (simp; done) | (simp; omega) | (simp only [World.size_alloc, World.size_setCell, World.size_drew] at *; omega))) | (with_reducible refine bel_drewN ?_ _) | (with_reducible refine Below.drew ?_) | (with_reducible assumption) | (refine Hid.out ?_; with_reducible assumption) | (apply belV; (with_reducible assumption); exact (by first | omega | (simp; done) | (simp; omega) | (simp only [World.size_alloc, World.size_setCell, World.size_drew] at *; omega)))))) (by first | omega | (simp; done) | (simp; omega) | (simp only [World.size_alloc, World.size_setCell, World.size_drew] at *; omega))
      have zsp2 := hb.size
      (try simp at zsp2)
      have Dsp2 := Lib.hid hb; clear hb
      cases r
      all_goals
        go_wp2_with fail
        go_ret
        exact ⟨rfl, by (repeat' (first | (with_reducible exact Below.refl _ _) | (with_reducible refine belS ?_ (by first | omega | (simp; done) | (simp; omega) | (simp only [World.size_alloc, World.size_setCell, World.size_drew] at *; omega))) | (with_reducible refine belA ?_ (by first | omega | (simp; done) | (simp; omega) | (simp only [World.size_alloc, World.size_setCell, World.size_drew] at *; omega))) | (with_reducible refine bel_drewN ?_ _) | (with_reducible refine Below.drew ?_) | (with_reducible assumption) | (refine Hid.out ?_; with_reducible assumption) | (apply belV; (with_reducible assumption); exact (by first | omega | (simp; done) | (simp; omega) | (simp only [World.size_alloc, World.size_setCell, World.size_drew] at *; omega)))))⟩
    · go_wp2_with fail
      refine (impl_BestKnapsack _ _ _ _ _ _ x cs ws _ (J.out.below (by (repeat' (first | (with_reducible exact Below.refl _ _) | (with_reducible refine belS ?_ (by first | omega | (simp; done) | (simp; omega) | (simp only [World.size_alloc, World.size_setCell, World.size_drew] at *; omega))) | (with_reducible refine belA ?_ (by first | omega | (simp; done) | (simp; omega) | (simp only [World.size_alloc, World.size_setCell, World.size_drew] at *; omega))) | (with_reducible refine bel_drewN ?_ _) | (with_reducible refine Below.drew ?_) | (with_reducible assumption) | (refine Hid.out ?_; with_reducible assumption) | (apply belV; (with_reducible assumption); exact (by first | omega | (simp; done) | (simp; omega) | (simp only [World.size_alloc, World.size_setCell, World.size_drew] at *; omega))))))) (I.out.below (by (repeat' (first | (with_reducible exact Below.refl _ _) | (with_reducible refine belS ?_ (by first | omega | (simp; done) | (simp; omega) | (simp only [World.size_alloc, World.size_setCell, World.size_drew] at *; omega))) | (with_reducible refine belA ?_ (by first | omega | (simp; done) | (simp; omega) | (simp only [World.size_alloc, World.size_setCell, World.size_drew] at *; omega))) | (with_reducible refine bel_drewN ?_ _) | (with_reducible refine Below.drew ?_) | (with_reducible assumption) | (refine Hid.out ?_; with_reducible assumption) | (apply belV; (with_reducible assumption); exact (by first | omega | (simp; done) | (simp; omega) | (simp only [World.size_alloc, World.size_setCell, World.size_drew] at *; omega))))))) hm' hm lc' lc).mono ?_
      rintro e wbk ⟨A1, d1, rfl, ho, hb⟩
      have Gbk : Hid (Below w.heap.size w wbk) := belU hb (by (repeat' (first | (with_reducible exact Below.refl _ _) | (with_reducible refine belS ?_ (by first | omega | (simp; done) | (simp; omega) | (simp only [World.size_alloc, World.size_setCell, World.size_drew] at *; omega))) | (with_reducible refine belA ?_ (by first | omega | (simp; done) | (simp; omega) | (simp only [World.size_alloc, World.size_setCell, World.size_drew] at *; omega))) | (with_reducible refine bel_drewN ?_ _) | (with_reducible refine Below.drew ?_) | (with_reducible assumption) | (refine Hid.out ?_; with_reducible assumption) | (apply belV; (with_reducible assumption); exact (by first | omega | (simp; done) | (simp; omega) | (simp only [World.size_alloc, World.size_setCell, World.size_drew] at *; omega)))))) (by first | omega | (simp; done) | (simp; omega) | (simp only [World.size_alloc, World.size_setCell, World.size_drew] at *; omega))
      (try simp only [World.size_alloc, World.size_setCell, World.size_drew, World.heap_drewN] at ho)
      have W1 := Lib.hid ho; clear ho
      have zbk := hb.size
      (try simp at zbk)
      have Dbk := Lib.hid hb; clear hb
      obtain ⟨y, hy⟩ : ∃ y, kBestV cs ws x = y := ⟨_, rfl⟩
      rw [hy]
      have er : r = inB y 0 bd := by rw [← HR.out, E.out, hy]
      clear hy
      cases hin : inB y 0 bd
      · have := inB_not.1 hin
        subst er
        rw [hin]
        by_cases y0 : 0 ≤ y
        · have y1 : ¬ y ≤ bd := by omega
          go_wp2_with fail
          go_ret
          exact ⟨ret_b (show (!decide (y ≤ bd)) = true by simp [y1]), by (repeat' (first | (with_reducible exact Below.refl _ _) | (with_reducible refine belS ?_ (by first | omega | (simp; done) | (simp; omega) | (simp only [World.size_alloc, World.size_setCell, World.size_drew] at *; omega))) | (with_reducible refine belA ?_ (by first | omega | (simp; done) | (simp; omega) | (simp only [World.size_alloc, World.size_setCell, World.size_drew] at *; omega))) | (with_reducible refine bel_drewN ?_ _) | (with_reducible refine Below.drew ?_) | (with_reducible assumption) | (refine Hid.out ?_; with_reducible assumption) | (apply belV; (with_reducible assumption); exact (by first | omega | (simp; done) | (simp; omega) | (simp only [World.size_alloc, World.size_setCell, World.size_drew] at *; omega)))))⟩
        · go_wp2_with fail
          go_ret
          exact ⟨rfl, by (repeat' (first | (with_reducible exact Below.refl _ _) | (with_reducible refine belS ?_ (by first | omega | (simp; done) | (simp; omega) | (simp only [World.size_alloc, World.size_setCell, World.size_drew] at *; omega))) | (with_reducible refine belA ?_ (by first | omega | (simp; done) | (simp; omega) | (simp only [World.size_alloc, World.size_setCell, World.size_drew] at *; omega))) | (with_reducible refine bel_drewN ?_ _) | (with_reducible refine Below.drew ?_) | (with_reducible assumption) | (refine Hid.out ?_; with_reducible assumption) | (apply belV; (with_reducible assumption); exact (by first | omega | (simp; done) | (simp; omega) | (simp only [World.size_alloc, World.size_setCell, World.size_drew] at *; omega)))))⟩
      · obtain ⟨y0, y1⟩ := inB_iff.1 hin
        subst er
        rw [hin]
        go_wp2_with fail
        go_ret
        exact ⟨rfl, by (repeat' (first | (with_reducible exact Below.refl _ _) | (with_reducible refine belS ?_ (by first | omega | (simp; done) | (simp; omega) | (simp only [World.size_alloc, World.size_setCell, World.size_drew] at *; omega))) | (with_reducible refine belA ?_ (by first | omega | (simp; done) | (simp; omega) | (simp only [World.size_alloc, World.size_setCell, World.size_drew] at *; omega))) | (with_reducible refine bel_drewN ?_ _) | (with_reducible refine Below.drew ?_) | (with_reducible assumption) | (refine Hid.out ?_; with_reducible assumption) | (apply belV; (with_reducible assumption); exact (by first | omega | (simp; done) | (simp; omega) | (simp only [World.size_alloc, World.size_setCell, World.size_drew] at *; omega)))))⟩
end Go.Proofs.Ytfidahpaidkhgaa
