
/-
  The walk of the law on best choices: the best items fit.
-/
import Derived.Test.YtfidahpaidkhgabLwP77
import Derived.Test.YtfidahpaidkhgabQ8
set_option linter.unusedSimpArgs false
set_option linter.unusedVariables false
namespace Go.Proofs.Ytfidahpaidkhgab
open Go.RowKit

set_option maxHeartbeats 2000000 in
theorem DrawBestKnapsack_any (len cap : Nat) (a : Option Addr) (w : World) (h : By w.heap.size w a len cap) : Calls Try.prog 15 #[.slice a len cap] w (ItemsDrawn w) := by
  have H := Lib.hid h; clear h
  go_enter Try.func15, Try.ntmps15
  go_wp2_with fail
  refine (newReader_any w.heap.size _ _ _ _ (H.out.below (by (repeat' (first | (with_reducible exact Below.refl _ _) | (with_reducible refine belS ?_ (by first | omega | (simp; done) | (simp; omega) | (simp only [World.size_alloc, World.size_setCell, World.size_drew] at *; omega))) | (with_reducible refine belA ?_ (by first | omega | (simp; done) | (simp; omega) | (simp only [World.size_alloc, World.size_setCell, World.size_drew] at *; omega))) | (with_reducible refine bel_drewN ?_ _) | (with_reducible refine Below.drew ?_) | (with_reducible assumption) | (refine Hid.out ?_; with_reducible assumption) | (apply belV; (with_reducible assumption); exact (by first | omega | (simp; done) | (simp; omega) | (simp only [World.size_alloc, World.size_setCell, World.size_drew] at *; omega))))))) (by first | omega | (simp; done) | (simp; omega) | (simp only [World.size_alloc, World.size_setCell, World.size_drew] at *; omega))).mono ?_
  rintro e w1 ⟨rfl, hr, hb⟩
  have G1 : Hid (Below w.heap.size w w1) := belU hb (by (repeat' (first | (with_reducible exact Below.refl _ _) | (with_reducible refine belS ?_ (by first | omega | (simp; done) | (simp; omega) | (simp only [World.size_alloc, World.size_setCell, World.size_drew] at *; omega))) | (with_reducible refine belA ?_ (by first | omega | (simp; done) | (simp; omega) | (simp only [World.size_alloc, World.size_setCell, World.size_drew] at *; omega))) | (with_reducible refine bel_drewN ?_ _) | (with_reducible refine Below.drew ?_) | (with_reducible assumption) | (refine Hid.out ?_; with_reducible assumption) | (apply belV; (with_reducible assumption); exact (by first | omega | (simp; done) | (simp; omega) | (simp only [World.size_alloc, World.size_setCell, World.size_drew] at *; omega)))))) (by first | omega | (simp; done) | (simp; omega) | (simp only [World.size_alloc, World.size_setCell, World.size_drew] at *; omega))
  (try simp only [World.size_alloc, World.size_setCell, World.size_drew, World.heap_drewN] at hr)
  have R1 := Lib.hid hr; clear hr
  have z1 := hb.size
  (try simp at z1)
  have D1 := Lib.hid hb; clear hb
  have s1 := R1.out.2.1
  go_wp2_with fail
  refine (anyItems_any w.heap.size _ 0 _ R1.out (by omega)).mono ?_
  rintro e w2 ⟨A, A', n, n', c, c', x, vs, ws, rfl, hI, hJ, lc, mc, lc', mc', h12, h12', x0, x1, hr, ho⟩
  have z2 := ho.size
  have R2 := Lib.hid hr; clear hr
  have D2 := Lib.hid ho; clear ho
  have G2 : Hid (Below w.heap.size w w2) := Lib.hid (Below.trans (by (repeat' (first | (with_reducible exact Below.refl _ _) | (with_reducible refine belS ?_ (by first | omega | (simp; done) | (simp; omega) | (simp only [World.size_alloc, World.size_setCell, World.size_drew] at *; omega))) | (with_reducible refine belA ?_ (by first | omega | (simp; done) | (simp; omega) | (simp only [World.size_alloc, World.size_setCell, World.size_drew] at *; omega))) | (with_reducible refine bel_drewN ?_ _) | (with_reducible refine Below.drew ?_) | (with_reducible assumption) | (refine Hid.out ?_; with_reducible assumption) | (apply belV; (with_reducible assumption); exact (by first | omega | (simp; done) | (simp; omega) | (simp only [World.size_alloc, World.size_setCell, World.size_drew] at *; omega)))))) (Only.below D2.out (by first | omega | (simp; done) | (simp; omega) | (simp only [World.size_alloc, World.size_setCell, World.size_drew] at *; omega)) (by first | omega | (simp; done) | (simp; omega) | (simp only [World.size_alloc, World.size_setCell, World.size_drew] at *; omega))))
  (try simp at z2)
  (try simp only [World.size_alloc, World.size_setCell, World.size_drew, World.heap_drewN] at hI)
  have I := Lib.hid hI; clear hI
  (try simp only [World.size_alloc, World.size_setCell, World.size_drew, World.heap_drewN] at hJ)
  have J := Lib.hid hJ; clear hJ
  go_wp2_with fail
  refine bodyPost_ret (v := .tuple #[.slice A n c, .slice A' n' c', .int .i64 x]) (by simp [results, Try.results15, go_sem, *]) rfl ⟨A, A', n, n', c, c', x, vs, ws, rfl, I.out.out, J.out.out, lc, mc, lc', mc', h12, h12', x0, x1, by (repeat' (first | (with_reducible exact Below.refl _ _) | (with_reducible refine belS ?_ (by first | omega | (simp; done) | (simp; omega) | (simp only [World.size_alloc, World.size_setCell, World.size_drew] at *; omega))) | (with_reducible refine belA ?_ (by first | omega | (simp; done) | (simp; omega) | (simp only [World.size_alloc, World.size_setCell, World.size_drew] at *; omega))) | (with_reducible refine bel_drewN ?_ _) | (with_reducible refine Below.drew ?_) | (with_reducible assumption) | (refine Hid.out ?_; with_reducible assumption) | (apply belV; (with_reducible assumption); exact (by first | omega | (simp; done) | (simp; omega) | (simp only [World.size_alloc, World.size_setCell, World.size_drew] at *; omega)))))⟩

theorem impl_BK (A A' : Option Addr) (n n' c c' : Nat) (a : Int) (vs ws L : List Int) (v : Int) (w : World) (hI : Ints w A n vs) (hJ : Ints w A' n' ws) (hn : n ≤ maxLen) (hn' : n' ≤ maxLen) (hc : n ≤ c) (hc' : n' ≤ c') (hL : kBestL vs ws a = L) (hv : kBestV vs ws a = v) :
    Calls Try.prog 16 #[.slice A n c, .slice A' n' c', .int .i64 a] w (PairI L v w) := by
  subst hL hv; exact impl_BestKnapsack A A' n n' c c' a vs ws w hI hJ hn hn' hc hc'
theorem spec_BK (A A' : Option Addr) (n n' c c' : Nat) (a : Int) (vs ws L : List Int) (v : Int) (w : World) (hI : Ints w A n vs) (hJ : Ints w A' n' ws) (hn : n ≤ maxLen) (hn' : n' ≤ maxLen) (hc : n ≤ c) (hc' : n' ≤ c') (hL : kBestL vs ws a = L) (hv : kBestV vs ws a = v) :
    Calls Try.prog 17 #[.slice A n c, .slice A' n' c', .int .i64 a] w (PairI L v w) := by
  subst hL hv; exact spec_BestKnapsack A A' n n' c c' a vs ws w hI hJ hn hn' hc hc'
theorem impl_KV (A A' Q : Option Addr) (n n' q c c' d : Nat) (a v : Int) (vs ws ps : List Int) (w : World) (hI : Ints w A n vs) (hJ : Ints w A' n' ws) (hK : Ints w Q q ps) (hn : n ≤ maxLen) (hn' : n' ≤ maxLen) (hq : q ≤ maxLen) (hv : kVal vs ws a ps = v) :
    Calls Try.prog 18 #[.slice A n c, .slice A' n' c', .int .i64 a, .slice Q q d] w fun e w' => e = .returned (.int .i64 v) ∧ Below w.heap.size w w' := by
  subst hv; exact impl_KnapsackValue A A' Q n n' q c c' d a vs ws ps w hI hJ hK hn hn' hq

set_option maxHeartbeats 8000000 in
set_option maxRecDepth 100000 in
theorem FnBestKnapsack_walk (a : Option Addr) (len cap : Nat) (w : World) (h : By w.heap.size w a len cap) :
    Calls Try.prog 4 #[.slice a len cap] w fun e w' => e = .returned (.bool true) ∧ Below w.heap.size w w' := by
  obtain ⟨i0, hi0, hz0, hz1, hz2⟩ := info_parts info_int
  have hl := h.1
  have hl2 := h.2.1
  unfold maxLen at hl2
  have H := Lib.hid h; clear h
  by_cases hbig : 1048576 < len
  · go_enter Try.func4, Try.ntmps4
    go_wp2_with fail
    go_ret
    exact ⟨rfl, Below.refl _ _⟩
  · go_enter Try.func4, Try.ntmps4
    go_wp2_with fail
    refine (DrawBestKnapsack_any _ _ _ _ H.out).mono ?_
    rintro e wdr ⟨A, A', n, n', c, c', x, vs, ws, rfl, hi, hj, lc, mc, lc', mc', h12, h12', x0, x1, hb⟩
    have Gdr : Hid (Below w.heap.size w wdr) := belU hb (by (repeat' (first | (with_reducible exact Below.refl _ _) | (with_reducible refine belS ?_ (by first | omega | (simp; done) | (simp; omega) | (simp only [World.size_alloc, World.size_setCell, World.size_drew] at *; omega))) | (with_reducible refine belA ?_ (by first | omega | (simp; done) | (simp; omega) | (simp only [World.size_alloc, World.size_setCell, World.size_drew] at *; omega))) | (with_reducible refine bel_drewN ?_ _) | (with_reducible refine Below.drew ?_) | (with_reducible assumption) | (refine Hid.out ?_; with_reducible assumption) | (apply belV; (with_reducible assumption); exact (by first | omega | (simp; done) | (simp; omega) | (simp only [World.size_alloc, World.size_setCell, World.size_drew] at *; omega)))))) (by first | omega | (simp; done) | (simp; omega) | (simp only [World.size_alloc, World.size_setCell, World.size_drew] at *; omega))
    have I := Lib.hid hi; clear hi
    have J := Lib.hid hj; clear hj
    have zdr := hb.size
    (try simp at zdr)
    have Ddr := Lib.hid hb; clear hb
    have hm : n ≤ maxLen := Nat.le_trans lc mc
    have hm' : n' ≤ maxLen := Nat.le_trans lc' mc'
    have HWL := Lib.hid J.out.len
    cases h1 : vItems vs ws x
    · have E := Lib.hid (kBest_1 h1)
      go_wp2_with fail
      refine (impl_BK _ _ _ _ _ _ x vs ws [] (-1) _ (I.out.below (by (repeat' (first | (with_reducible exact Below.refl _ _) | (with_reducible refine belS ?_ (by first | omega | (simp; done) | (simp; omega) | (simp only [World.size_alloc, World.size_setCell, World.size_drew] at *; omega))) | (with_reducible refine belA ?_ (by first | omega | (simp; done) | (simp; omega) | (simp only [World.size_alloc, World.size_setCell, World.size_drew] at *; omega))) | (with_reducible refine bel_drewN ?_ _) | (with_reducible refine Below.drew ?_) | (with_reducible assumption) | (refine Hid.out ?_; with_reducible assumption) | (apply belV; (with_reducible assumption); exact (by first | omega | (simp; done) | (simp; omega) | (simp only [World.size_alloc, World.size_setCell, World.size_drew] at *; omega))))))) (J.out.below (by (repeat' (first | (with_reducible exact Below.refl _ _) | (with_reducible refine belS ?_ (by first | omega | (simp; done) | (simp; omega) | (simp only [World.size_alloc, World.size_setCell, World.size_drew] at *; omega))) | (with_reducible refine belA ?_ (by first | omega | (simp; done) | (simp; omega) | (simp only [World.size_alloc, World.size_setCell, World.size_drew] at *; omega))) | (with_reducible refine bel_drewN ?_ _) | (with_reducible refine Below.drew ?_) | (with_reducible assumption) | (refine Hid.out ?_; with_reducible assumption) | (apply belV; (with_reducible assumption); exact (by first | omega | (simp; done) | (simp; omega) | (simp only [World.size_alloc, World.size_setCell, World.size_drew] at *; omega))))))) hm hm' lc lc' E.out.1 E.out.2).mono ?_
      rintro e wim ⟨A1, d1, rfl, ho, hb⟩
      have Gim : Hid (Below w.heap.size w wim) := belU hb (by (repeat' (first | (with_reducible exact Below.refl _ _) | (with_reducible refine belS ?_ (by first | omega | (simp; done) | (simp; omega) | (simp only [World.size_alloc, World.size_setCell, World.size_drew] at *; omega))) | (with_reducible refine belA ?_ (by first | omega | (simp; done) | (simp; omega) | (simp only [World.size_alloc, World.size_setCell, World.size_drew] at *; omega))) | (with_reducible refine bel_drewN ?_ _) | (with_reducible refine Below.drew ?_) | (with_reducible assumption) | (refine Hid.out ?_; with_reducible assumption) | (apply belV; (with_reducible assumption); exact (by first | omega | (simp; done) | (simp; omega) | (simp only [World.size_alloc, World.size_setCell, World.size_drew] at *; omega)))))) (by first | omega | (simp; done) | (simp; omega) | (simp only [World.size_alloc, World.size_setCell, World.size_drew] at *; omega))
      (try simp only [World.size_alloc, World.size_setCell, World.size_drew, World.heap_drewN] at ho)
      have W1 := Lib.hid ho; clear ho
      have zim := hb.size
      (try simp at zim)
      have Dim := Lib.hid hb; clear hb
      go_wp2_with fail
      refine (spec_BK _ _ _ _ _ _ x vs ws [] (-1) _ (I.out.below (by (repeat' (first | (with_reducible exact Below.refl _ _) | (with_reducible refine belS ?_ (by first | omega | (simp; done) | (simp; omega) | (simp only [World.size_alloc, World.size_setCell, World.size_drew] at *; omega))) | (with_reducible refine belA ?_ (by first | omega | (simp; done) | (simp; omega) | (simp only [World.size_alloc, World.size_setCell, World.size_drew] at *; omega))) | (with_reducible refine bel_drewN ?_ _) | (with_reducible refine Below.drew ?_) | (with_reducible assumption) | (refine Hid.out ?_; with_reducible assumption) | (apply belV; (with_reducible assumption); exact (by first | omega | (simp; done) | (simp; omega) | (simp only [World.size_alloc, World.size_setCell, World.size_drew] at *; omega))))))) (J.out.below (by (repeat' (first | (with_reducible exact Below.refl _ _) | (with_reducible refine belS ?_ (by first | omega | (simp; done) | (simp; omega) | (simp only [World.size_alloc, World.size_setCell, World.size_drew] at *; omega))) | (with_reducible refine belA ?_ (by first | omega | (simp; done) | (simp; omega) | (simp only [World.size_alloc, World.size_setCell, World.size_drew] at *; omega))) | (with_reducible refine bel_drewN ?_ _) | (with_reducible refine Below.drew ?_) | (with_reducible assumption) | (refine Hid.out ?_; with_reducible assumption) | (apply belV; (with_reducible assumption); exact (by first | omega | (simp; done) | (simp; omega) | (simp only [World.size_alloc, World.size_setCell, World.size_drew] at *; omega))))))) hm hm' lc lc' E.out.1 E.out.2).mono ?_
      rintro e wsp ⟨A2, d2, rfl, ho, hb⟩
      have Gsp : Hid (Below w.heap.size w wsp) := belU hb (by (repeat' (first | (with_reducible exact Below.refl _ _) | (with_reducible refine belS ?_ (by first | omega | (simp; done) | (simp; omega) | (simp only [World.size_alloc, World.size_setCell, World.size_drew] at *; omega))) | (with_reducible refine belA ?_ (by first | omega | (simp; done) | (simp; omega) | (simp only [World.size_alloc, World.size_setCell, World.size_drew] at *; omega))) | (with_reducible refine bel_drewN ?_ _) | (with_reducible refine Below.drew ?_) | (with_reducible assumption) | (refine Hid.out ?_; with_reducible assumption) | (apply belV; (with_reducible assumption); exact (by first | omega | (simp; done) | (simp; omega) | (simp only [World.size_alloc, World.size_setCell, World.size_drew] at *; omega)))))) (by first | omega | (simp; done) | (simp; omega) | (simp only [World.size_alloc, World.size_setCell, World.size_drew] at *; omega))
      (try simp only [World.size_alloc, World.size_setCell, World.size_drew, World.heap_drewN] at ho)
      have W2 := Lib.hid ho; clear ho
      have zsp := hb.size
      (try simp at zsp)
      have Dsp := Lib.hid hb; clear hb
      go_wp2_with fail
      refine (laws_equalInts _ _ 0 _ _ [] _ (Ints.nil _ _) (Ints.nil _ _) (by omega)).mono ?_
      rintro e we1 ⟨rfl, hb⟩
      have Ge1 : Hid (Below w.heap.size w we1) := belU hb (by (repeat' (first | (with_reducible exact Below.refl _ _) | (with_reducible refine belS ?_ (by first | omega | (simp; done) | (simp; omega) | (simp only [World.size_alloc, World.size_setCell, World.size_drew] at *; omega))) | (with_reducible refine belA ?_ (by first | omega | (simp; done) | (simp; omega) | (simp only [World.size_alloc, World.size_setCell, World.size_drew] at *; omega))) | (with_reducible refine bel_drewN ?_ _) | (with_reducible refine Below.drew ?_) | (with_reducible assumption) | (refine Hid.out ?_; with_reducible assumption) | (apply belV; (with_reducible assumption); exact (by first | omega | (simp; done) | (simp; omega) | (simp only [World.size_alloc, World.size_setCell, World.size_drew] at *; omega)))))) (by first | omega | (simp; done) | (simp; omega) | (simp only [World.size_alloc, World.size_setCell, World.size_drew] at *; omega))
      have ze1 := hb.size
      (try simp at ze1)
      have De1 := Lib.hid hb; clear hb
      go_wp2_with fail
      refine (laws_equalInts _ _ 0 _ _ [] _ (Ints.nil _ _) (Ints.nil _ _) (by omega)).mono ?_
      rintro e we2 ⟨rfl, hb⟩
      have Ge2 : Hid (Below w.heap.size w we2) := belU hb (by (repeat' (first | (with_reducible exact Below.refl _ _) | (with_reducible refine belS ?_ (by first | omega | (simp; done) | (simp; omega) | (simp only [World.size_alloc, World.size_setCell, World.size_drew] at *; omega))) | (with_reducible refine belA ?_ (by first | omega | (simp; done) | (simp; omega) | (simp only [World.size_alloc, World.size_setCell, World.size_drew] at *; omega))) | (with_reducible refine bel_drewN ?_ _) | (with_reducible refine Below.drew ?_) | (with_reducible assumption) | (refine Hid.out ?_; with_reducible assumption) | (apply belV; (with_reducible assumption); exact (by first | omega | (simp; done) | (simp; omega) | (simp only [World.size_alloc, World.size_setCell, World.size_drew] at *; omega)))))) (by first | omega | (simp; done) | (simp; omega) | (simp only [World.size_alloc, World.size_setCell, World.size_drew] at *; omega))
      have ze2 := hb.size
      (try simp at ze2)
      have De2 := Lib.hid hb; clear hb
      go_wp2_with fail
      go_ret
      exact ⟨rfl, by (repeat' (first | (with_reducible exact Below.refl _ _) | (with_reducible refine belS ?_ (by first | omega | (simp; done) | (simp; omega) | (simp only [World.size_alloc, World.size_setCell, World.size_drew] at *; omega))) | (with_reducible refine belA ?_ (by first | omega | (simp; done) | (simp; omega) | (simp only [World.size_alloc, World.size_setCell, World.size_drew] at *; omega))) | (with_reducible refine bel_drewN ?_ _) | (with_reducible refine Below.drew ?_) | (with_reducible assumption) | (refine Hid.out ?_; with_reducible assumption) | (apply belV; (with_reducible assumption); exact (by first | omega | (simp; done) | (simp; omega) | (simp only [World.size_alloc, World.size_setCell, World.size_drew] at *; omega)))))⟩
    · obtain ⟨f1, f2, f0⟩ := vItems_facts h1
      obtain ⟨f3, f4, f5, f6⟩ := vWts_facts f2
      obtain ⟨C, rfl⟩ := Int.eq_ofNat_of_zero_le f5
      have HW := Lib.hid f4; clear f4
      have kz := kBest_no_values h1
      rw [Int.toNat_natCast] at kz
      have KZ := Lib.hid kz; clear kz
      have TZ := Lib.hid (takes_no_values ws C)
      obtain ⟨Z, hZ⟩ : ∃ Z, Z = List.replicate ws.length (0 : Int) := ⟨_, rfl⟩
      have ZL : Z = List.replicate n' 0 := by rw [hZ, HWL.out]
      have KZ' : Hid (kBestL Z ws C = idxs (takes Z ws C) n' ∧ kBestV Z ws C = 0) := Lib.hid (by rw [hZ]; have := KZ.out; rwa [HWL.out] at this ⊢)
      have TZ' : Hid (∀ k, takes Z ws C k = decide ((ws.getD k 0).toNat ≤ room Z ws C k)) := Lib.hid (by rw [hZ]; exact TZ.out)
      clear KZ TZ hZ
      have HZ := Lib.hid ZL; clear ZL
      have KB := Lib.hid (kVal_best h1)
      obtain ⟨L, hL⟩ : ∃ L, kBestL vs ws C = L := ⟨_, rfl⟩
      obtain ⟨y, hy⟩ : ∃ y, kBestV vs ws C = y := ⟨_, rfl⟩
      have y0 : 0 ≤ y := by rw [← hy, (kBest_2 h1).2]; exact (best_bd f0 _).1
      have hLl : L.length ≤ 1000 := by rw [← hL, (kBest_2 h1).1]; have := idxs_len (takes vs ws (C : Int).toNat) ws.length; unfold chosen; omega
      have KV : Hid (kVal vs ws C L = y) := Lib.hid (by rw [← hL, ← hy]; exact KB.out)
      have HL := Lib.hid hL; clear hL
      have HY := Lib.hid hy; clear hy
      clear f1 f2 f0 f3 KB
      have hmk := fun W => run_makeN (P := Try.prog) 23 3 i0 (.int .i64 0) Try.underlying23 hi0 hz0 n' (by rw [hz2]; omega) (by omega) W
      simp only [hz1, Nat.mul_one] at hmk
      have hLm : L.length ≤ maxLen := by unfold maxLen; omega
      go_wp2_with fail
      refine (impl_BK _ _ _ _ _ _ C vs ws L y _ (I.out.below (by (repeat' (first | (with_reducible exact Below.refl _ _) | (with_reducible refine belS ?_ (by first | omega | (simp; done) | (simp; omega) | (simp only [World.size_alloc, World.size_setCell, World.size_drew] at *; omega))) | (with_reducible refine belA ?_ (by first | omega | (simp; done) | (simp; omega) | (simp only [World.size_alloc, World.size_setCell, World.size_drew] at *; omega))) | (with_reducible refine bel_drewN ?_ _) | (with_reducible refine Below.drew ?_) | (with_reducible assumption) | (refine Hid.out ?_; with_reducible assumption) | (apply belV; (with_reducible assumption); exact (by first | omega | (simp; done) | (simp; omega) | (simp only [World.size_alloc, World.size_setCell, World.size_drew] at *; omega))))))) (J.out.below (by (repeat' (first | (with_reducible exact Below.refl _ _) | (with_reducible refine belS ?_ (by first | omega | (simp; done) | (simp; omega) | (simp only [World.size_alloc, World.size_setCell, World.size_drew] at *; omega))) | (with_reducible refine belA ?_ (by first | omega | (simp; done) | (simp; omega) | (simp only [World.size_alloc, World.size_setCell, World.size_drew] at *; omega))) | (with_reducible refine bel_drewN ?_ _) | (with_reducible refine Below.drew ?_) | (with_reducible assumption) | (refine Hid.out ?_; with_reducible assumption) | (apply belV; (with_reducible assumption); exact (by first | omega | (simp; done) | (simp; omega) | (simp only [World.size_alloc, World.size_setCell, World.size_drew] at *; omega))))))) hm hm' lc lc' HL.out HY.out).mono ?_
      rintro e wim ⟨A1, d1, rfl, ho, hb⟩
      have Gim : Hid (Below w.heap.size w wim) := belU hb (by (repeat' (first | (with_reducible exact Below.refl _ _) | (with_reducible refine belS ?_ (by first | omega | (simp; done) | (simp; omega) | (simp only [World.size_alloc, World.size_setCell, World.size_drew] at *; omega))) | (with_reducible refine belA ?_ (by first | omega | (simp; done) | (simp; omega) | (simp only [World.size_alloc, World.size_setCell, World.size_drew] at *; omega))) | (with_reducible refine bel_drewN ?_ _) | (with_reducible refine Below.drew ?_) | (with_reducible assumption) | (refine Hid.out ?_; with_reducible assumption) | (apply belV; (with_reducible assumption); exact (by first | omega | (simp; done) | (simp; omega) | (simp only [World.size_alloc, World.size_setCell, World.size_drew] at *; omega)))))) (by first | omega | (simp; done) | (simp; omega) | (simp only [World.size_alloc, World.size_setCell, World.size_drew] at *; omega))
      (try simp only [World.size_alloc, World.size_setCell, World.size_drew, World.heap_drewN] at ho)
      have W1 := Lib.hid ho; clear ho
      have zim := hb.size
      (try simp at zim)
      have Dim := Lib.hid hb; clear hb
      go_wp2_with fail
      refine (spec_BK _ _ _ _ _ _ C vs ws L y _ (I.out.below (by (repeat' (first | (with_reducible exact Below.refl _ _) | (with_reducible refine belS ?_ (by first | omega | (simp; done) | (simp; omega) | (simp only [World.size_alloc, World.size_setCell, World.size_drew] at *; omega))) | (with_reducible refine belA ?_ (by first | omega | (simp; done) | (simp; omega) | (simp only [World.size_alloc, World.size_setCell, World.size_drew] at *; omega))) | (with_reducible refine bel_drewN ?_ _) | (with_reducible refine Below.drew ?_) | (with_reducible assumption) | (refine Hid.out ?_; with_reducible assumption) | (apply belV; (with_reducible assumption); exact (by first | omega | (simp; done) | (simp; omega) | (simp only [World.size_alloc, World.size_setCell, World.size_drew] at *; omega))))))) (J.out.below (by (repeat' (first | (with_reducible exact Below.refl _ _) | (with_reducible refine belS ?_ (by first | omega | (simp; done) | (simp; omega) | (simp only [World.size_alloc, World.size_setCell, World.size_drew] at *; omega))) | (with_reducible refine belA ?_ (by first | omega | (simp; done) | (simp; omega) | (simp only [World.size_alloc, World.size_setCell, World.size_drew] at *; omega))) | (with_reducible refine bel_drewN ?_ _) | (with_reducible refine Below.drew ?_) | (with_reducible assumption) | (refine Hid.out ?_; with_reducible assumption) | (apply belV; (with_reducible assumption); exact (by first | omega | (simp; done) | (simp; omega) | (simp only [World.size_alloc, World.size_setCell, World.size_drew] at *; omega))))))) hm hm' lc lc' HL.out HY.out).mono ?_
      rintro e wsp ⟨A2, d2, rfl, ho, hb⟩
      have Gsp : Hid (Below w.heap.size w wsp) := belU hb (by (repeat' (first | (with_reducible exact Below.refl _ _) | (with_reducible refine belS ?_ (by first | omega | (simp; done) | (simp; omega) | (simp only [World.size_alloc, World.size_setCell, World.size_drew] at *; omega))) | (with_reducible refine belA ?_ (by first | omega | (simp; done) | (simp; omega) | (simp only [World.size_alloc, World.size_setCell, World.size_drew] at *; omega))) | (with_reducible refine bel_drewN ?_ _) | (with_reducible refine Below.drew ?_) | (with_reducible assumption) | (refine Hid.out ?_; with_reducible assumption) | (apply belV; (with_reducible assumption); exact (by first | omega | (simp; done) | (simp; omega) | (simp only [World.size_alloc, World.size_setCell, World.size_drew] at *; omega)))))) (by first | omega | (simp; done) | (simp; omega) | (simp only [World.size_alloc, World.size_setCell, World.size_drew] at *; omega))
      (try simp only [World.size_alloc, World.size_setCell, World.size_drew, World.heap_drewN] at ho)
      have W2 := Lib.hid ho; clear ho
      have zsp := hb.size
      (try simp at zsp)
      have Dsp := Lib.hid hb; clear hb
      go_wp2_with fail
      refine (laws_equalInts _ _ _ _ _ L _ (OwnS.ints (OwnS.by_ W1 (by (repeat' (first | (with_reducible exact OwnS.madeAt _ _ _ (by first | omega | (simp; done) | (simp; omega) | (simp only [World.size_alloc, World.size_setCell, World.size_drew] at *; omega))) | (with_reducible refine OwnS.far ?_ (by first | omega | (simp; done) | (simp; omega) | (simp only [World.size_alloc, World.size_setCell, World.size_drew] at *; omega)) _) | (with_reducible refine OwnS.alloc ?_ _) | (with_reducible refine OwnS.drewN ?_ _) | (with_reducible refine OwnS.drew ?_) | (with_reducible assumption) | (refine Hid.out ?_; with_reducible assumption) | (apply OwnS.turn; (with_reducible assumption); exact (by first | omega | (simp; done) | (simp; omega) | (simp only [World.size_alloc, World.size_setCell, World.size_drew] at *; omega))) | (apply OwnS.only; (with_reducible assumption); exact (by first | omega | (simp; done) | (simp; omega) | (simp only [World.size_alloc, World.size_setCell, World.size_drew] at *; omega))) | (apply OwnS.belowD; (with_reducible assumption))))))) (OwnS.ints (OwnS.by_ W2 (by (repeat' (first | (with_reducible exact OwnS.madeAt _ _ _ (by first | omega | (simp; done) | (simp; omega) | (simp only [World.size_alloc, World.size_setCell, World.size_drew] at *; omega))) | (with_reducible refine OwnS.far ?_ (by first | omega | (simp; done) | (simp; omega) | (simp only [World.size_alloc, World.size_setCell, World.size_drew] at *; omega)) _) | (with_reducible refine OwnS.alloc ?_ _) | (with_reducible refine OwnS.drewN ?_ _) | (with_reducible refine OwnS.drew ?_) | (with_reducible assumption) | (refine Hid.out ?_; with_reducible assumption) | (apply OwnS.turn; (with_reducible assumption); exact (by first | omega | (simp; done) | (simp; omega) | (simp only [World.size_alloc, World.size_setCell, World.size_drew] at *; omega))) | (apply OwnS.only; (with_reducible assumption); exact (by first | omega | (simp; done) | (simp; omega) | (simp only [World.size_alloc, World.size_setCell, World.size_drew] at *; omega))) | (apply OwnS.belowD; (with_reducible assumption))))))) (by omega)).mono ?_
      rintro e we1 ⟨rfl, hb⟩
      have Ge1 : Hid (Below w.heap.size w we1) := belU hb (by (repeat' (first | (with_reducible exact Below.refl _ _) | (with_reducible refine belS ?_ (by first | omega | (simp; done) | (simp; omega) | (simp only [World.size_alloc, World.size_setCell, World.size_drew] at *; omega))) | (with_reducible refine belA ?_ (by first | omega | (simp; done) | (simp; omega) | (simp only [World.size_alloc, World.size_setCell, World.size_drew] at *; omega))) | (with_reducible refine bel_drewN ?_ _) | (with_reducible refine Below.drew ?_) | (with_reducible assumption) | (refine Hid.out ?_; with_reducible assumption) | (apply belV; (with_reducible assumption); exact (by first | omega | (simp; done) | (simp; omega) | (simp only [World.size_alloc, World.size_setCell, World.size_drew] at *; omega)))))) (by first | omega | (simp; done) | (simp; omega) | (simp only [World.size_alloc, World.size_setCell, World.size_drew] at *; omega))
      have ze1 := hb.size
      (try simp at ze1)
      have De1 := Lib.hid hb; clear hb
      go_wp2_with fail
      refine (impl_BK _ _ _ _ _ _ C Z ws (idxs (takes Z ws C) n') 0 _ (by have := (OwnI.made we1 3 n').ints (fun x hx => by have := (List.mem_replicate.1 hx).2; subst this; exact ⟨by omega, by omega⟩); rw [List.length_replicate] at this; rw [HZ.out]; exact this) (J.out.below (by (repeat' (first | (with_reducible exact Below.refl _ _) | (with_reducible refine belS ?_ (by first | omega | (simp; done) | (simp; omega) | (simp only [World.size_alloc, World.size_setCell, World.size_drew] at *; omega))) | (with_reducible refine belA ?_ (by first | omega | (simp; done) | (simp; omega) | (simp only [World.size_alloc, World.size_setCell, World.size_drew] at *; omega))) | (with_reducible refine bel_drewN ?_ _) | (with_reducible refine Below.drew ?_) | (with_reducible assumption) | (refine Hid.out ?_; with_reducible assumption) | (apply belV; (with_reducible assumption); exact (by first | omega | (simp; done) | (simp; omega) | (simp only [World.size_alloc, World.size_setCell, World.size_drew] at *; omega))))))) hm' hm' (Nat.le_refl _) lc' KZ'.out.1 KZ'.out.2).mono ?_
      rintro e wbz ⟨A3, d3, rfl, ho, hb⟩
      have Gbz : Hid (Below w.heap.size w wbz) := belU hb (by (repeat' (first | (with_reducible exact Below.refl _ _) | (with_reducible refine belS ?_ (by first | omega | (simp; done) | (simp; omega) | (simp only [World.size_alloc, World.size_setCell, World.size_drew] at *; omega))) | (with_reducible refine belA ?_ (by first | omega | (simp; done) | (simp; omega) | (simp only [World.size_alloc, World.size_setCell, World.size_drew] at *; omega))) | (with_reducible refine bel_drewN ?_ _) | (with_reducible refine Below.drew ?_) | (with_reducible assumption) | (refine Hid.out ?_; with_reducible assumption) | (apply belV; (with_reducible assumption); exact (by first | omega | (simp; done) | (simp; omega) | (simp only [World.size_alloc, World.size_setCell, World.size_drew] at *; omega)))))) (by first | omega | (simp; done) | (simp; omega) | (simp only [World.size_alloc, World.size_setCell, World.size_drew] at *; omega))
      (try simp only [World.size_alloc, World.size_setCell, World.size_drew, World.heap_drewN] at ho)
      have W3 := Lib.hid ho; clear ho
      have zbz := hb.size
      (try simp at zbz)
      have Dbz := Lib.hid hb; clear hb
      clear hmk
      have IZ : Hid (Ints wbz A3 (idxs (takes Z ws C) n').length (idxs (takes Z ws C) n')) := Lib.hid (OwnS.ints W3.out)
      have I1 : Hid (Ints wbz A1 L.length L) := Lib.hid (OwnS.ints (OwnS.by_ W1 (by (repeat' (first | (with_reducible exact OwnS.madeAt _ _ _ (by first | omega | (simp; done) | (simp; omega) | (simp only [World.size_alloc, World.size_setCell, World.size_drew] at *; omega))) | (with_reducible refine OwnS.far ?_ (by first | omega | (simp; done) | (simp; omega) | (simp only [World.size_alloc, World.size_setCell, World.size_drew] at *; omega)) _) | (with_reducible refine OwnS.alloc ?_ _) | (with_reducible refine OwnS.drewN ?_ _) | (with_reducible refine OwnS.drew ?_) | (with_reducible assumption) | (refine Hid.out ?_; with_reducible assumption) | (apply OwnS.turn; (with_reducible assumption); exact (by first | omega | (simp; done) | (simp; omega) | (simp only [World.size_alloc, World.size_setCell, World.size_drew] at *; omega))) | (apply OwnS.only; (with_reducible assumption); exact (by first | omega | (simp; done) | (simp; omega) | (simp only [World.size_alloc, World.size_setCell, World.size_drew] at *; omega))) | (apply OwnS.belowD; (with_reducible assumption)))))))
      have BD : Hid (Below wdr.heap.size wdr wbz) := Lib.hid (by (repeat' (first | (with_reducible exact Below.refl _ _) | (with_reducible refine belS ?_ (by first | omega | (simp; done) | (simp; omega) | (simp only [World.size_alloc, World.size_setCell, World.size_drew] at *; omega))) | (with_reducible refine belA ?_ (by first | omega | (simp; done) | (simp; omega) | (simp only [World.size_alloc, World.size_setCell, World.size_drew] at *; omega))) | (with_reducible refine bel_drewN ?_ _) | (with_reducible refine Below.drew ?_) | (with_reducible assumption) | (refine Hid.out ?_; with_reducible assumption) | (apply belV; (with_reducible assumption); exact (by first | omega | (simp; done) | (simp; omega) | (simp only [World.size_alloc, World.size_setCell, World.size_drew] at *; omega))))))
      have zb := BD.out.size
      go_wp2_with fail
      go_loopw [12, 13, 14] (fun s12 s13 s14 wr => ∃ (k r : Nat) (v : Value), k ≤ n' ∧ v = s12 ∧ s13 = .int .i64 r ∧ s14 = .int .i64 k ∧ r ≤ C ∧ Hid (r = room Z ws C k) ∧ Hid (Grow wr wbz.heap.size 3 v (idxs (takes Z ws C) k)) ∧ Hid (Below wbz.heap.size wbz wr)) (fun _ _ s14 _ => n' - (intOf s14).toNat)
      case atStart => exact ⟨0, C, _, by omega, rfl, rfl, rfl, Nat.le_refl _, rfl, Lib.hid (by simpa [idxs] using Grow.lit0 wbz (Nat.le_refl _) 3), Lib.hid (belA (Below.refl _ _) (Nat.le_refl _))⟩
      case round =>
        obtain ⟨k, r, v, hk, rfl, rfl, rfl, hrC, hroom, hgr, hbel⟩ := hrel
        have zr := hbel.out.size
        have GD : Hid (Below wdr.heap.size wdr wr) := Lib.hid (belU hbel.out BD.out zb)
        by_cases hlt : k < n'
        · have JR := J.out.below GD.out
          obtain ⟨b', off', p, rfl, hb', hp, p1, p2, hcp⟩ := JR.at_ hlt
          clear JR
          obtain ⟨q1, q2⟩ := HW.out p (List.mem_of_getElem? hp)
          obtain ⟨W, rfl⟩ := Int.eq_ofNat_of_zero_le (show 0 ≤ p by omega)
          have HX := Lib.hid hp; clear hp
          have TK : Hid (takes Z ws C k = decide (W ≤ r)) := Lib.hid (by rw [TZ'.out k, getD_of HX.out, Int.toNat_natCast, hroom.out])
          have hil := idxs_len (takes Z ws C) k
          by_cases hge : W ≤ r
          · have T := Lib.hid (show takes Z ws C k = true by rw [TK.out]; simp [hge])
            have eqw : IntKind.i64.wrap ((r : Int) - (W : Int)) = ((r - W : Nat) : Int) := by rw [IntWalk.i64_in _ ⟨by omega, by omega⟩]; omega
            go_wp2_with (
              at_builtin
              refine wpList_append_own _ rfl (.tmp 82) (.tmp 84) 23 rfl wbz.heap.size 3 i0 (.int .i64 0) 1 8 Try.underlying23 hi0 hz0 hz1 hz2 rfl (by decide) v _ _ rfl (hgr.out.alloc _).own ⟨wr.heap.size, 0, none⟩ 1 1 [.int .i64 k] rfl rfl ?c1 ?c2 ?c3 ?c4 ?c5 ?_
              case c1 => intro j u hj; (rcases j with _ | j <;> simp at hj); subst hj; simp [go_sem]
              case c2 => intro u hu; simp at hu; subst hu; rfl
              case c3 => unfold maxLen; omega
              case c4 => omega
              case c5 => simp; omega
              intro v' w4 hown' hgrow _
              have R4 : Hid (Grow w4 wbz.heap.size 3 v' (idxs (takes Z ws C) (k + 1))) := Lib.hid (by rw [idxs_yes T.out]; exact Grow.snoc hown')
              have G4 : Hid (Below wbz.heap.size wbz w4) := Lib.hid (Below.grown (hbel.out.alloc (by omega) _) hgrow (by simp; omega) (fun j hj => by have := hgr.out.row j hj; omega))
              have c4 := (J.out.below (belU G4.out BD.out zb)).cellAt HX.out
              clear hown' hgrow)
            go_roundw
            case rel => exact ⟨k + 1, r - W, _, by omega, rfl, (by first | rfl | (congr 1; omega)), by go_num, by omega, Lib.hid (by rw [room_yes T.out, ← hroom.out, getD_of HX.out, Int.toNat_natCast]), R4, G4⟩
            case measure => simp [intOf]; omega
          · have T := Lib.hid (show takes Z ws C k = false by rw [TK.out]; simp [hge])
            go_wp2_with fail
            go_roundw
            case rel => exact ⟨k + 1, r, _, by omega, rfl, rfl, by go_num, hrC, Lib.hid (by rw [room_no T.out]; exact hroom.out), Lib.hid (by rw [idxs_no T.out]; exact hgr.out), hbel⟩
            case measure => simp [intOf]; omega
        · have hke : k = n' := by omega
          subst hke
          obtain ⟨A5, c5, rfl, l5, m5, i5, _⟩ := hgr.out.ints (fun y hy => by have := idxs_mem y hy; exact ⟨by omega, by omega⟩)
          have I5 := Lib.hid i5; clear i5
          have hil := idxs_len (takes Z ws C) k
          have GE : Hid (Below w.heap.size w wr) := Lib.hid (belT Gdr.out GD.out)
          have ze := GE.out.size
          go_wp2_with fail
          refine (impl_KV _ _ _ _ _ _ _ _ _ C y vs ws L _ (I.out.below GD.out) (J.out.below GD.out) (I1.out.below hbel.out) hm hm' hLm KV.out).mono ?_
          rintro e wkv ⟨rfl, hb⟩
          have Gkv : Hid (Below w.heap.size w wkv) := belU hb (by (repeat' (first | (with_reducible exact Below.refl _ _) | (with_reducible refine belS ?_ (by first | omega | (simp; done) | (simp; omega) | (simp only [World.size_alloc, World.size_setCell, World.size_drew] at *; omega))) | (with_reducible refine belA ?_ (by first | omega | (simp; done) | (simp; omega) | (simp only [World.size_alloc, World.size_setCell, World.size_drew] at *; omega))) | (with_reducible refine bel_drewN ?_ _) | (with_reducible refine Below.drew ?_) | (with_reducible assumption) | (refine Hid.out ?_; with_reducible assumption) | (apply belV; (with_reducible assumption); exact (by first | omega | (simp; done) | (simp; omega) | (simp only [World.size_alloc, World.size_setCell, World.size_drew] at *; omega)))))) (by first | omega | (simp; done) | (simp; omega) | (simp only [World.size_alloc, World.size_setCell, World.size_drew] at *; omega))
          have zkv := hb.size
          (try simp at zkv)
          have Dkv := Lib.hid hb; clear hb
          go_wp2_with fail
          refine (laws_equalInts _ _ _ _ _ (idxs (takes Z ws C) k) _ ((IZ.out.below hbel.out).below Dkv.out) (I5.out.below Dkv.out) (by omega)).mono ?_
          rintro e we3 ⟨rfl, hb⟩
          have Ge3 : Hid (Below w.heap.size w we3) := belU hb (by (repeat' (first | (with_reducible exact Below.refl _ _) | (with_reducible refine belS ?_ (by first | omega | (simp; done) | (simp; omega) | (simp only [World.size_alloc, World.size_setCell, World.size_drew] at *; omega))) | (with_reducible refine belA ?_ (by first | omega | (simp; done) | (simp; omega) | (simp only [World.size_alloc, World.size_setCell, World.size_drew] at *; omega))) | (with_reducible refine bel_drewN ?_ _) | (with_reducible refine Below.drew ?_) | (with_reducible assumption) | (refine Hid.out ?_; with_reducible assumption) | (apply belV; (with_reducible assumption); exact (by first | omega | (simp; done) | (simp; omega) | (simp only [World.size_alloc, World.size_setCell, World.size_drew] at *; omega)))))) (by first | omega | (simp; done) | (simp; omega) | (simp only [World.size_alloc, World.size_setCell, World.size_drew] at *; omega))
          have ze3 := hb.size
          (try simp at ze3)
          have De3 := Lib.hid hb; clear hb
          go_wp2_with fail
          go_ret
          exact ⟨rfl, Ge3.out⟩
end Go.Proofs.Ytfidahpaidkhgab
