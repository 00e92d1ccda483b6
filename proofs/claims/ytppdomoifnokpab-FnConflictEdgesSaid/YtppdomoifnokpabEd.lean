
/-
  Edges of items in conflict: the draw, the comparison, and what covers of two items say.
-/
import Derived.Test.YtppdomoifnokpabEc
import Derived.Test.YtppdomoifnokpabKv
import Derived.Test.YtppdomoifnokpabKu
import Derived.Test.YtppdomoifnokpabDk
set_option linter.unusedSimpArgs false
set_option linter.unusedVariables false
namespace Go.Proofs.Ytppdomoifnokpab
open Go.RowKit

theorem edJ {w : World} {A : Option Addr} {L : List (Int × Int)} (h : Ints w A (fl L).length (fl L)) : Ints w A (L.length * 2) (fl L) := fl_len L ▸ h

/-! ### Plain facts -/
theorem conR_more {p : Nat → Nat → Bool} {a j : Nat} : ∀ {k : Nat}, j ≤ k → ∃ t, conR p a k = conR p a j ++ t
  | 0, h => ⟨[], by rw [show j = 0 by omega]; simp⟩
  | k + 1, h => by
    by_cases e : j = k + 1
    · subst e; exact ⟨[], by simp⟩
    · obtain ⟨t, ht⟩ := conR_more (p := p) (a := a) (j := j) (k := k) (by omega)
      rw [conR]
      split
      · exact ⟨t ++ [((a : Int), (k : Int))], by rw [ht, List.append_assoc]⟩
      · exact ⟨t, ht⟩
theorem conT_more {p : Nat → Nat → Bool} {n j : Nat} : ∀ {k : Nat}, j ≤ k → ∃ t, conT p n k = conT p n j ++ t
  | 0, h => ⟨[], by rw [show j = 0 by omega]; simp⟩
  | k + 1, h => by
    by_cases e : j = k + 1
    · subst e; exact ⟨[], by simp⟩
    · obtain ⟨t, ht⟩ := conT_more (p := p) (n := n) (j := j) (k := k) (by omega)
      exact ⟨t ++ conR p k n, by rw [conT, ht, List.append_assoc]⟩
/-- The pair (a, b) stands where the pairs before it end. -/
theorem con_here {p : Nat → Nat → Bool} {n a b : Nat} (hab : a < b) (hb : b < n) (hp : p a b = true) : (conT p n n)[(conT p n a ++ conR p a b).length]? = some ((a : Int), (b : Int)) := by
  obtain ⟨t, ht⟩ := conT_more (p := p) (n := n) (show a + 1 ≤ n by omega)
  obtain ⟨u, hu⟩ := conR_more (p := p) (a := a) (show b + 1 ≤ n by omega)
  rw [ht, conT, hu, conR_yes hab hp]
  have : conT p n a ++ (conR p a b ++ [((a : Int), (b : Int))] ++ u) ++ t = (conT p n a ++ conR p a b) ++ (((a : Int), (b : Int)) :: (u ++ t)) := by simp
  rw [this, List.getElem?_append_right (Nat.le_refl _), Nat.sub_self]
  rfl
theorem cov_two {ws : List Int} {c : Int} {a b : Nat} (h : vWts ws c = true) (hab : a < b) (hb : b < ws.length) : isCov ws c [(a : Int), (b : Int)] = con ws c a b := by
  obtain ⟨f1, f2, f3, f4⟩ := vWts_facts h
  have ha := f2 (ws.getD a 0) (List.mem_of_getElem? (getD_mem (show a < ws.length by omega)))
  have hb' := f2 (ws.getD b 0) (List.mem_of_getElem? (getD_mem hb))
  have e1 : ascB [(a : Int), (b : Int)] ws.length = true := by
    simp only [ascB, Bool.and_eq_true]
    refine ⟨?_, ?_⟩
    · rw [show ([(a : Int), (b : Int)] : List Int).length = 1 + 1 from rfl, incP_succ, incP_1]
      simp; omega
    · simp [vInts, inB]; omega
  have e2 : sumW ws [(a : Int), (b : Int)] = ws.getD a 0 + ws.getD b 0 := by
    show sumF ws [(a : Int), (b : Int)] 1 (sumF ws [(a : Int), (b : Int)] 0 0) = _
    unfold sumF
    simp only [List.getD_cons_zero, List.getD_cons_succ, Int.toNat_natCast, Int.zero_add]
    rw [IntWalk.wrap64_in (ws.getD a 0) ⟨by omega, by omega⟩, IntWalk.wrap64_in (ws.getD a 0 + ws.getD b 0) ⟨by omega, by omega⟩]
  unfold isCov con
  rw [h, e1, e2]
  simp
theorem ktab_ne (vs ws : List Int) (C : Nat) : (ktab vs ws C).length = C + 1 := ktab_len vs ws C

set_option maxHeartbeats 1000000 in
theorem laws_equalEdges (A A' : Option Addr) (n c c' : Nat) (xs : List Int) (w : World) (hi : Ints w A (n * 2) xs) (hj : Ints w A' (n * 2) xs) (hn : n ≤ 1048576) :
    Calls Try.prog 16 #[.slice A n c, .slice A' n c'] w fun e w' => e = .returned (.bool true) ∧ Below w.heap.size w w' := by
  have HI := Lib.hid hi; clear hi
  have HJ := Lib.hid hj; clear hj
  go_enter Try.func16, Try.ntmps16
  go_wp2
  go_loopw [5] (fun s5 wr => ∃ k : Nat, k ≤ n ∧ s5 = .int .i64 k ∧ ∃ m, wr = w.drewN m) (fun s5 _ => n - (intOf s5).toNat)
  case atStart => exact ⟨0, by omega, rfl, 0, rfl⟩
  case round =>
    obtain ⟨k, hk, rfl, m, rfl⟩ := hrel
    by_cases hlt : k < n
    · obtain ⟨b, off, x0, x1, rfl, hb, hx0, hx1, ix0, ix1, c0, c1⟩ := HI.out.at2 hlt
      obtain ⟨b', off', y0, y1, rfl, hb', hy0, hy1, iy0, iy1, d0, d1⟩ := HJ.out.at2 hlt
      rw [hx0] at hy0; injection hy0 with hy0; subst hy0
      rw [hx1] at hy1; injection hy1 with hy1; subst hy1
      clear hx0 hx1
      go_wp2
      go_quiet (fail)
      go_wp2
      go_roundw
      case rel => exact ⟨k + 1, by omega, by go_num, m + nq, rfl⟩
      case measure => simp [intOf]; omega
    · go_wp2
      go_ret
      exact ⟨rfl, bel_drewN (Below.refl _ _) m⟩

def WtsDrawn (w : World) (e : Ending) (w' : World) : Prop :=
  ∃ (A : Option Addr) (n c : Nat) (a : Int) (ws : List Int), e = .returned (.tuple #[.slice A n c, .int .i64 a]) ∧ Ints w' A n ws ∧ n ≤ c ∧ c ≤ maxLen ∧ n ≤ 12 ∧ -1000 ≤ a ∧ a ≤ 1000 ∧ Below w.heap.size w w'
set_option maxHeartbeats 4000000 in
set_option maxRecDepth 100000 in
theorem DrawConflictEdges_any (len cap : Nat) (a : Option Addr) (w : World) (h : By w.heap.size w a len cap) : Calls Try.prog 14 #[.slice a len cap] w (WtsDrawn w) := by
  have H := Lib.hid h; clear h
  go_enter Try.func14, Try.ntmps14
  go_wp2_with fail
  refine (newReader_any w.heap.size _ _ _ _ (H.out.below (by (repeat' (first | (with_reducible exact Below.refl _ _) | (with_reducible refine belS ?_ (by first | omega | (simp; done) | (simp; omega) | (simp only [World.size_alloc, World.size_setCell, World.size_drew] at *; omega))) | (with_reducible refine belA ?_ (by first | omega | (simp; done) | (simp; omega) | (simp only [World.size_alloc, World.size_setCell, World.size_drew] at *; omega))) | (with_reducible refine bel_drewN ?_ _) | (with_reducible refine Below.drew ?_) | (with_reducible assumption) | (refine Hid.out ?_; with_reducible assumption) | (apply belV; (with_reducible assumption); exact (by first | omega | (simp; done) | (simp; omega) | (simp only [World.size_alloc, World.size_setCell, World.size_drew] at *; omega))))))) (by first | omega | (simp; done) | (simp; omega) | (simp only [World.size_alloc, World.size_setCell, World.size_drew] at *; omega))).mono ?_
  rintro e w1 ⟨rfl, hr, hb⟩
  have G1 : Hid (Below w.heap.size w w1) := belU hb (by (repeat' (first | (with_reducible exact Below.refl _ _) | (with_reducible refine belS ?_ (by first | omega | (simp; done) | (simp; omega) | (simp only [World.size_alloc, World.size_setCell, World.size_drew] at *; omega))) | (with_reducible refine belA ?_ (by first | omega | (simp; done) | (simp; omega) | (simp only [World.size_alloc, World.size_setCell, World.size_drew] at *; omega))) | (with_reducible refine bel_drewN ?_ _) | (with_reducible refine Below.drew ?_) | (with_reducible assumption) | (refine Hid.out ?_; with_reducible assumption) | (apply belV; (with_reducible assumption); exact (by first | omega | (simp; done) | (simp; omega) | (simp only [World.size_alloc, World.size_setCell, World.size_drew] at *; omega)))))) (by first | omega | (simp; done) | (simp; omega) | (simp only [World.size_alloc, World.size_setCell, World.size_drew] at *; omega))
  (try simp only [World.size_alloc, World.size_setCell, World.size_drew, World.heap_drewN] at hr)
  have R1 := Lib.hid hr; clear hr
  have z1 := hb.size
  (try simp at z1)
  have D1 := Lib.hid hb; clear hb
  have s1 := R1.out.2.1
  go_wp2_with fail
  refine (one_any w.heap.size _ 0 _ _ [4, 5, 6, 3, 8, 9, 0, 1] _ (by (repeat' (first | (with_reducible assumption) | (refine Hid.out ?_; with_reducible assumption) | (with_reducible refine Rd.set ?_ (by first | omega | (simp; done) | (simp; omega) | (simp only [World.size_alloc, World.size_setCell, World.size_drew] at *; omega)) (by first | omega | (simp; done) | (simp; omega) | (simp only [World.size_alloc, World.size_setCell, World.size_drew] at *; omega))) | (with_reducible refine Rd.alloc ?_ _) | (with_reducible refine Rd.drewN ?_ _) | (with_reducible refine Rd.drew ?_)))) (by omega) (by decide) (by decide) (by first | omega | (simp; done) | (simp; omega) | (simp only [World.size_alloc, World.size_setCell, World.size_drew] at *; omega)) (by simp) (lit_cells (l := [4, 5, 6, 3, 8, 9, 0, 1]))).mono ?_
  rintro e w2 ⟨v, hv, rfl, hr, ho⟩
  have z2 := ho.size
  have R2 := Lib.hid hr; clear hr
  have D2 := Lib.hid ho; clear ho
  have G2 : Hid (Below w.heap.size w w2) := Lib.hid (Below.trans (by (repeat' (first | (with_reducible exact Below.refl _ _) | (with_reducible refine belS ?_ (by first | omega | (simp; done) | (simp; omega) | (simp only [World.size_alloc, World.size_setCell, World.size_drew] at *; omega))) | (with_reducible refine belA ?_ (by first | omega | (simp; done) | (simp; omega) | (simp only [World.size_alloc, World.size_setCell, World.size_drew] at *; omega))) | (with_reducible refine bel_drewN ?_ _) | (with_reducible refine Below.drew ?_) | (with_reducible assumption) | (refine Hid.out ?_; with_reducible assumption) | (apply belV; (with_reducible assumption); exact (by first | omega | (simp; done) | (simp; omega) | (simp only [World.size_alloc, World.size_setCell, World.size_drew] at *; omega)))))) (Only.below D2.out (by first | omega | (simp; done) | (simp; omega) | (simp only [World.size_alloc, World.size_setCell, World.size_drew] at *; omega)) (by first | omega | (simp; done) | (simp; omega) | (simp only [World.size_alloc, World.size_setCell, World.size_drew] at *; omega))))
  (try simp at z2)
  obtain ⟨m, rfl, hm⟩ : ∃ m : Nat, v = (m : Int) ∧ m ≤ 9 := by simp at hv; exact ⟨v.toNat, by omega, by omega⟩
  clear hv
  go_wp2_with fail
  refine (some_of w.heap.size _ 1 m m 1 12 _ R2.out (by omega) (by omega) (by omega) (by omega) (by omega) rfl).mono ?_
  rintro e w3 ⟨v2, xs, hl2, hb2, hn2, rfl, hgr, hr, ho⟩
  have z3 := ho.size
  have R3 := Lib.hid hr; clear hr
  have D3 := Lib.hid ho; clear ho
  have G3 : Hid (Below w.heap.size w w3) := Lib.hid (Below.trans (by (repeat' (first | (with_reducible exact Below.refl _ _) | (with_reducible refine belS ?_ (by first | omega | (simp; done) | (simp; omega) | (simp only [World.size_alloc, World.size_setCell, World.size_drew] at *; omega))) | (with_reducible refine belA ?_ (by first | omega | (simp; done) | (simp; omega) | (simp only [World.size_alloc, World.size_setCell, World.size_drew] at *; omega))) | (with_reducible refine bel_drewN ?_ _) | (with_reducible refine Below.drew ?_) | (with_reducible assumption) | (refine Hid.out ?_; with_reducible assumption) | (apply belV; (with_reducible assumption); exact (by first | omega | (simp; done) | (simp; omega) | (simp only [World.size_alloc, World.size_setCell, World.size_drew] at *; omega)))))) (Only.below D3.out (by first | omega | (simp; done) | (simp; omega) | (simp only [World.size_alloc, World.size_setCell, World.size_drew] at *; omega)) (by first | omega | (simp; done) | (simp; omega) | (simp only [World.size_alloc, World.size_setCell, World.size_drew] at *; omega))))
  (try simp at z3)
  (try simp only [World.size_alloc, World.size_setCell, World.size_drew, World.heap_drewN] at hgr)
  have GR2 := Lib.hid hgr; clear hgr
  have NE2 := Lib.hid hn2; clear hn2
  have XB2 := Lib.hid hb2; clear hb2
  obtain ⟨g2, c2, rfl, hg2, og2, lc2, mc2, ig2⟩ := Grow.block GR2.out NE2.out (fun x hx => by have := XB2.out x hx; exact ⟨by omega, by omega⟩)
  have I2 : Hid (Ints w3 (some ⟨g2, 0, none⟩) m xs) := Lib.hid (hl2 ▸ ig2)
  clear ig2 og2
  go_wp2_with fail
  refine (spoil_any w.heap.size _ (1 + m) _ _ _ _ xs 21 _ R3.out (I2.out) (by omega) (by omega) (by omega)).mono ?_
  rintro e w4 ⟨A3, n3, c3, ws, rfl, hi3, lc3, mc3, hm3, hr, ho⟩
  have z4 := ho.size
  have R4 := Lib.hid hr; clear hr
  have D4 := Lib.hid ho; clear ho
  have G4 : Hid (Below w.heap.size w w4) := Lib.hid (Below.trans (by (repeat' (first | (with_reducible exact Below.refl _ _) | (with_reducible refine belS ?_ (by first | omega | (simp; done) | (simp; omega) | (simp only [World.size_alloc, World.size_setCell, World.size_drew] at *; omega))) | (with_reducible refine belA ?_ (by first | omega | (simp; done) | (simp; omega) | (simp only [World.size_alloc, World.size_setCell, World.size_drew] at *; omega))) | (with_reducible refine bel_drewN ?_ _) | (with_reducible refine Below.drew ?_) | (with_reducible assumption) | (refine Hid.out ?_; with_reducible assumption) | (apply belV; (with_reducible assumption); exact (by first | omega | (simp; done) | (simp; omega) | (simp only [World.size_alloc, World.size_setCell, World.size_drew] at *; omega)))))) (Only.below D4.out (by first | omega | (simp; done) | (simp; omega) | (simp only [World.size_alloc, World.size_setCell, World.size_drew] at *; omega)) (by first | omega | (simp; done) | (simp; omega) | (simp only [World.size_alloc, World.size_setCell, World.size_drew] at *; omega))))
  (try simp at z4)
  (try simp only [World.size_alloc, World.size_setCell, World.size_drew, World.heap_drewN] at hi3)
  have I3 := Lib.hid hi3; clear hi3
  go_wp2_with fail
  refine (one_any w.heap.size _ (1 + m + 3) _ _ [12, 9, 15, 6, 20, 0, 100] _ (by (repeat' (first | (with_reducible assumption) | (refine Hid.out ?_; with_reducible assumption) | (with_reducible refine Rd.set ?_ (by first | omega | (simp; done) | (simp; omega) | (simp only [World.size_alloc, World.size_setCell, World.size_drew] at *; omega)) (by first | omega | (simp; done) | (simp; omega) | (simp only [World.size_alloc, World.size_setCell, World.size_drew] at *; omega))) | (with_reducible refine Rd.alloc ?_ _) | (with_reducible refine Rd.drewN ?_ _) | (with_reducible refine Rd.drew ?_)))) (by omega) (by decide) (by decide) (by first | omega | (simp; done) | (simp; omega) | (simp only [World.size_alloc, World.size_setCell, World.size_drew] at *; omega)) (by simp) (lit_cells (l := [12, 9, 15, 6, 20, 0, 100]))).mono ?_
  rintro e w5 ⟨q, hq, rfl, hr, ho⟩
  have z5 := ho.size
  have R5 := Lib.hid hr; clear hr
  have D5 := Lib.hid ho; clear ho
  have G5 : Hid (Below w.heap.size w w5) := Lib.hid (Below.trans (by (repeat' (first | (with_reducible exact Below.refl _ _) | (with_reducible refine belS ?_ (by first | omega | (simp; done) | (simp; omega) | (simp only [World.size_alloc, World.size_setCell, World.size_drew] at *; omega))) | (with_reducible refine belA ?_ (by first | omega | (simp; done) | (simp; omega) | (simp only [World.size_alloc, World.size_setCell, World.size_drew] at *; omega))) | (with_reducible refine bel_drewN ?_ _) | (with_reducible refine Below.drew ?_) | (with_reducible assumption) | (refine Hid.out ?_; with_reducible assumption) | (apply belV; (with_reducible assumption); exact (by first | omega | (simp; done) | (simp; omega) | (simp only [World.size_alloc, World.size_setCell, World.size_drew] at *; omega)))))) (Only.below D5.out (by first | omega | (simp; done) | (simp; omega) | (simp only [World.size_alloc, World.size_setCell, World.size_drew] at *; omega)) (by first | omega | (simp; done) | (simp; omega) | (simp only [World.size_alloc, World.size_setCell, World.size_drew] at *; omega))))
  (try simp at z5)
  have bq : -1000 ≤ q ∧ q ≤ 1000 := by simp at hq; omega
  clear hq
  have J3 : Hid (IntsF w4 w.heap.size A3 n3 ws) := Lib.hid (IntsF.lower2 I3.out (by omega))
  have J5 : Hid (IntsF w5 w3.heap.size A3 n3 ws) := Lib.hid (IntsF.only D5 (by omega) (by (repeat' (first | (with_reducible assumption) | (refine Hid.out ?_; with_reducible assumption) | (with_reducible refine IntsF.far ?_ (by first | omega | (simp; done) | (simp; omega) | (simp only [World.size_alloc, World.size_setCell, World.size_drew] at *; omega)) _) | (with_reducible refine IntsF.alloc ?_ _) | (with_reducible refine IntsF.drewN ?_ _) | (with_reducible refine IntsF.drew ?_) | (apply IntsF.only; (with_reducible assumption); exact (by first | omega | (simp; done) | (simp; omega) | (simp only [World.size_alloc, World.size_setCell, World.size_drew] at *; omega))) | (apply IntsF.belowD; (with_reducible assumption))))))
  clear I3
  go_wp2_with fail
  refine bodyPost_ret (v := .tuple #[.slice A3 n3 c3, .int .i64 q]) (by simp [results, Try.results14, go_sem, *]) rfl ⟨A3, n3, c3, q, ws, rfl, J5.out.out, lc3, mc3, by omega, bq.1, bq.2, by (repeat' (first | (with_reducible exact Below.refl _ _) | (with_reducible refine belS ?_ (by first | omega | (simp; done) | (simp; omega) | (simp only [World.size_alloc, World.size_setCell, World.size_drew] at *; omega))) | (with_reducible refine belA ?_ (by first | omega | (simp; done) | (simp; omega) | (simp only [World.size_alloc, World.size_setCell, World.size_drew] at *; omega))) | (with_reducible refine bel_drewN ?_ _) | (with_reducible refine Below.drew ?_) | (with_reducible assumption) | (refine Hid.out ?_; with_reducible assumption) | (apply belV; (with_reducible assumption); exact (by first | omega | (simp; done) | (simp; omega) | (simp only [World.size_alloc, World.size_setCell, World.size_drew] at *; omega)))))⟩
end Go.Proofs.Ytppdomoifnokpab
