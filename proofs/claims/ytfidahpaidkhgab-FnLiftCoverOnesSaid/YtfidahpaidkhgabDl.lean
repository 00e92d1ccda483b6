
/-
  The draws of the laws on items.
-/
import Derived.Test.YtfidahpaidkhgabDk
set_option linter.unusedSimpArgs false
set_option linter.unusedVariables false
namespace Go.Proofs.Ytfidahpaidkhgab
open Go.RowKit

/-- Items were drawn by a law's own draw. -/
def ItemsDrawn (w : World) (e : Ending) (w' : World) : Prop :=
  ∃ (A A' : Option Addr) (n n' c c' : Nat) (a : Int) (vs ws : List Int), e = .returned (.tuple #[.slice A n c, .slice A' n' c', .int .i64 a]) ∧ Ints w' A n vs ∧ Ints w' A' n' ws ∧ n ≤ c ∧ c ≤ maxLen ∧ n' ≤ c' ∧ c' ≤ maxLen ∧ n ≤ 12 ∧ n' ≤ 12 ∧ -1000 ≤ a ∧ a ≤ 1000 ∧ Below w.heap.size w w'
set_option maxHeartbeats 2000000 in
theorem DrawKnapsackTable_any (len cap : Nat) (a : Option Addr) (w : World) (h : By w.heap.size w a len cap) : Calls Try.prog 11 #[.slice a len cap] w (ItemsDrawn w) := by
  have H := Lib.hid h; clear h
  go_enter Try.func11, Try.ntmps11
  go_wp2_with fail
  refine (newReader_any w.heap.size _ _ _ _ (H.out.below (by (repeat' (first | (with_reducible exact Below.refl _ _) | (with_reducible refine belS ?_ (by first | omega | (simp; done) | (simp; omega) | (simp only [World.size_alloc, World.size_setCell, World.size_drew] at *; omega))) | (with_reducible refine belA ?_ (by first | omega | (simp; done) | (simp; omega) | (simp only [World.size_alloc, World.size_setCell, World.size_drew] at *; omega))) | (with_reducible refine bel_drewN ?_ _) | (with_reducible refine Below.drew ?_) | (with_reducible assumption) | (refine Hid.out ?_; with_reducible assumption) | (apply belV; (with_reducible assumption); exact (by first | omega | (simp; done) | (simp; omega) | (simp only [World.size_alloc, World.size_setCell, World.size_drew] at *; omega))))))) (by first | omega | (simp; done) | (simp; omega) | (simp only [World.size_alloc, World.size_setCell, World.size_drew] at *; omega))).mono ?_
  rintro e w1 ⟨rfl, hr, hb⟩
  have G1 : Hid (Below w.heap.size w w1) := belU hb (by (repeat' (first | (with_reducible exact Below.refl _ _) | (with_reducible refine belS ?_ (by first | omega | (simp; done) | (simp; omega) | (simp only [World.size_alloc, World.size_setCell, World.size_drew] at *; omega))) | (with_reducible refine belA ?_ (by first | omega | (simp; done) | (simp; omega) | (simp only [World.size_alloc, World.size_setCell, World.size_drew] at *; omega))) | (with_reducible refine bel_drewN ?_ _) | (with_reducible refine Below.drew ?_) | (with_reducible assumption) | (refine Hid.out ?_; with_reducible assumption) | (apply belV; (with_reducible assumption); exact (by first | omega | (simp; done) | (simp; omega) | (simp only [World.size_alloc, World.size_setCell, World.size_drew] at *; omega)))))) (by first | omega | (simp; done) | (simp; omega) | (simp only [World.size_alloc, World.size_setCell, World.size_drew] at *; omega))
  (try simp only [World.size_alloc, World.size_setCell, World.size_drew, World.heap_drewN] at hr)
  have R1 := Lib.hid hr; clear hr
  have z1 := hb.size
  (try simp at z1)
  have D1 := Lib.hid hb; clear hb
  have s1 := R1.out.2.1
  go_wp2_with fail
  refine (anyItems_any w.heap.size _ 0 _ R1.out (by omega)).mono ?_
  rintro e w2 ⟨A, A', n, n', c, c', x, vs, ws, rfl, hI, hJ, lc, mc, lc', mc', h12, h12', x0, x1, hr, ho⟩
  have z2 := ho.size
  have R2 := Lib.hid hr; clear hr
  have D2 := Lib.hid ho; clear ho
  have G2 : Hid (Below w.heap.size w w2) := Lib.hid (Below.trans (by (repeat' (first | (with_reducible exact Below.refl _ _) | (with_reducible refine belS ?_ (by first | omega | (simp; done) | (simp; omega) | (simp only [World.size_alloc, World.size_setCell, World.size_drew] at *; omega))) | (with_reducible refine belA ?_ (by first | omega | (simp; done) | (simp; omega) | (simp only [World.size_alloc, World.size_setCell, World.size_drew] at *; omega))) | (with_reducible refine bel_drewN ?_ _) | (with_reducible refine Below.drew ?_) | (with_reducible assumption) | (refine Hid.out ?_; with_reducible assumption) | (apply belV; (with_reducible assumption); exact (by first | omega | (simp; done) | (simp; omega) | (simp only [World.size_alloc, World.size_setCell, World.size_drew] at *; omega)))))) (Only.below D2.out (by first | omega | (simp; done) | (simp; omega) | (simp only [World.size_alloc, World.size_setCell, World.size_drew] at *; omega)) (by first | omega | (simp; done) | (simp; omega) | (simp only [World.size_alloc, World.size_setCell, World.size_drew] at *; omega))))
  (try simp at z2)
  (try simp only [World.size_alloc, World.size_setCell, World.size_drew, World.heap_drewN] at hI)
  have I := Lib.hid hI; clear hI
  (try simp only [World.size_alloc, World.size_setCell, World.size_drew, World.heap_drewN] at hJ)
  have J := Lib.hid hJ; clear hJ
  go_wp2_with fail
  refine bodyPost_ret (v := .tuple #[.slice A n c, .slice A' n' c', .int .i64 x]) (by simp [results, Try.results11, go_sem, *]) rfl ⟨A, A', n, n', c, c', x, vs, ws, rfl, I.out.out, J.out.out, lc, mc, lc', mc', h12, h12', x0, x1, by (repeat' (first | (with_reducible exact Below.refl _ _) | (with_reducible refine belS ?_ (by first | omega | (simp; done) | (simp; omega) | (simp only [World.size_alloc, World.size_setCell, World.size_drew] at *; omega))) | (with_reducible refine belA ?_ (by first | omega | (simp; done) | (simp; omega) | (simp only [World.size_alloc, World.size_setCell, World.size_drew] at *; omega))) | (with_reducible refine bel_drewN ?_ _) | (with_reducible refine Below.drew ?_) | (with_reducible assumption) | (refine Hid.out ?_; with_reducible assumption) | (apply belV; (with_reducible assumption); exact (by first | omega | (simp; done) | (simp; omega) | (simp only [World.size_alloc, World.size_setCell, World.size_drew] at *; omega)))))⟩

def ItemsSetDrawn (w : World) (e : Ending) (w' : World) : Prop :=
  ∃ (A A' Q : Option Addr) (n n' q c c' d : Nat) (a : Int) (vs ws ps : List Int), e = .returned (.tuple #[.slice A n c, .slice A' n' c', .int .i64 a, .slice Q q d]) ∧ Ints w' A n vs ∧ Ints w' A' n' ws ∧ Ints w' Q q ps ∧ n ≤ c ∧ c ≤ maxLen ∧ n' ≤ c' ∧ c' ≤ maxLen ∧ q ≤ d ∧ d ≤ maxLen ∧ n ≤ 12 ∧ n' ≤ 12 ∧ q ≤ 20 ∧ -1000 ≤ a ∧ a ≤ 1000 ∧ Below w.heap.size w w'
theorem OwnI.take {w : World} {g : Nat} {xs : List Int} (h : OwnI w g xs) (k : Nat) : OwnI w g (xs.take k) := by
  refine ⟨h.1, fun i x hx => ?_⟩
  rw [List.getElem?_take] at hx
  by_cases e : i < k
  · rw [if_pos e] at hx; exact h.2 i x hx
  · rw [if_neg e] at hx; cases hx

def SetDrawn (w : World) (e : Ending) (w' : World) : Prop :=
  ∃ (A' Q : Option Addr) (n' q c' d : Nat) (a : Int) (ws ps : List Int), e = .returned (.tuple #[.slice A' n' c', .int .i64 a, .slice Q q d]) ∧ Ints w' A' n' ws ∧ Ints w' Q q ps ∧ n' ≤ c' ∧ c' ≤ maxLen ∧ q ≤ d ∧ d ≤ maxLen ∧ n' ≤ 12 ∧ q ≤ 20 ∧ -1000 ≤ a ∧ a ≤ 1000 ∧ Below w.heap.size w w'
set_option maxHeartbeats 4000000 in
set_option maxRecDepth 100000 in
theorem DrawIsCover_any (len cap : Nat) (a : Option Addr) (w : World) (h : By w.heap.size w a len cap) : Calls Try.prog 53 #[.slice a len cap] w (SetDrawn w) := by
  have H := Lib.hid h; clear h
  go_enter Try.func53, Try.ntmps53
  go_wp2_with fail
  refine (newReader_any w.heap.size _ _ _ _ (H.out.below (by (repeat' (first | (with_reducible exact Below.refl _ _) | (with_reducible refine belS ?_ (by first | omega | (simp; done) | (simp; omega) | (simp only [World.size_alloc, World.size_setCell, World.size_drew] at *; omega))) | (with_reducible refine belA ?_ (by first | omega | (simp; done) | (simp; omega) | (simp only [World.size_alloc, World.size_setCell, World.size_drew] at *; omega))) | (with_reducible refine bel_drewN ?_ _) | (with_reducible refine Below.drew ?_) | (with_reducible assumption) | (refine Hid.out ?_; with_reducible assumption) | (apply belV; (with_reducible assumption); exact (by first | omega | (simp; done) | (simp; omega) | (simp only [World.size_alloc, World.size_setCell, World.size_drew] at *; omega))))))) (by first | omega | (simp; done) | (simp; omega) | (simp only [World.size_alloc, World.size_setCell, World.size_drew] at *; omega))).mono ?_
  rintro e w1 ⟨rfl, hr, hb⟩
  have G1 : Hid (Below w.heap.size w w1) := belU hb (by (repeat' (first | (with_reducible exact Below.refl _ _) | (with_reducible refine belS ?_ (by first | omega | (simp; done) | (simp; omega) | (simp only [World.size_alloc, World.size_setCell, World.size_drew] at *; omega))) | (with_reducible refine belA ?_ (by first | omega | (simp; done) | (simp; omega) | (simp only [World.size_alloc, World.size_setCell, World.size_drew] at *; omega))) | (with_reducible refine bel_drewN ?_ _) | (with_reducible refine Below.drew ?_) | (with_reducible assumption) | (refine Hid.out ?_; with_reducible assumption) | (apply belV; (with_reducible assumption); exact (by first | omega | (simp; done) | (simp; omega) | (simp only [World.size_alloc, World.size_setCell, World.size_drew] at *; omega)))))) (by first | omega | (simp; done) | (simp; omega) | (simp only [World.size_alloc, World.size_setCell, World.size_drew] at *; omega))
  (try simp only [World.size_alloc, World.size_setCell, World.size_drew, World.heap_drewN] at hr)
  have R1 := Lib.hid hr; clear hr
  have z1 := hb.size
  (try simp at z1)
  have D1 := Lib.hid hb; clear hb
  have s1 := R1.out.2.1
  go_wp2_with fail
  refine (anyItems_any w.heap.size _ 0 _ R1.out (by omega)).mono ?_
  rintro e w2 ⟨A, A', n, n', c, c', x, vs, ws, rfl, hI, hJ, lc, mc, lc', mc', h12, h12', x0, x1, hr, ho⟩
  have z2 := ho.size
  have R2 := Lib.hid hr; clear hr
  have D2 := Lib.hid ho; clear ho
  have G2 : Hid (Below w.heap.size w w2) := Lib.hid (Below.trans (by (repeat' (first | (with_reducible exact Below.refl _ _) | (with_reducible refine belS ?_ (by first | omega | (simp; done) | (simp; omega) | (simp only [World.size_alloc, World.size_setCell, World.size_drew] at *; omega))) | (with_reducible refine belA ?_ (by first | omega | (simp; done) | (simp; omega) | (simp only [World.size_alloc, World.size_setCell, World.size_drew] at *; omega))) | (with_reducible refine bel_drewN ?_ _) | (with_reducible refine Below.drew ?_) | (with_reducible assumption) | (refine Hid.out ?_; with_reducible assumption) | (apply belV; (with_reducible assumption); exact (by first | omega | (simp; done) | (simp; omega) | (simp only [World.size_alloc, World.size_setCell, World.size_drew] at *; omega)))))) (Only.below D2.out (by first | omega | (simp; done) | (simp; omega) | (simp only [World.size_alloc, World.size_setCell, World.size_drew] at *; omega)) (by first | omega | (simp; done) | (simp; omega) | (simp only [World.size_alloc, World.size_setCell, World.size_drew] at *; omega))))
  (try simp at z2)
  (try simp only [World.size_alloc, World.size_setCell, World.size_drew, World.heap_drewN] at hI)
  have I := Lib.hid hI; clear hI
  (try simp only [World.size_alloc, World.size_setCell, World.size_drew, World.heap_drewN] at hJ)
  have J := Lib.hid hJ; clear hJ
  have J' : Hid (IntsF w2 w1.heap.size A' n' ws) := J
  clear I J
  have hmc : n' ≤ maxLen := Nat.le_trans lc' mc'
  unfold maxLen at hmc
  go_wp2_with fail
  refine (subset_any w.heap.size _ 40 n' _ R2.out (by omega) (by omega)).mono ?_
  rintro e w3 ⟨v3, xs, hl3, hb3, hn3, rfl, hgr, hr, ho⟩
  have z3 := ho.size
  have R3 := Lib.hid hr; clear hr
  have D3 := Lib.hid ho; clear ho
  have G3 : Hid (Below w.heap.size w w3) := Lib.hid (Below.trans (by (repeat' (first | (with_reducible exact Below.refl _ _) | (with_reducible refine belS ?_ (by first | omega | (simp; done) | (simp; omega) | (simp only [World.size_alloc, World.size_setCell, World.size_drew] at *; omega))) | (with_reducible refine belA ?_ (by first | omega | (simp; done) | (simp; omega) | (simp only [World.size_alloc, World.size_setCell, World.size_drew] at *; omega))) | (with_reducible refine bel_drewN ?_ _) | (with_reducible refine Below.drew ?_) | (with_reducible assumption) | (refine Hid.out ?_; with_reducible assumption) | (apply belV; (with_reducible assumption); exact (by first | omega | (simp; done) | (simp; omega) | (simp only [World.size_alloc, World.size_setCell, World.size_drew] at *; omega)))))) (Only.below D3.out (by first | omega | (simp; done) | (simp; omega) | (simp only [World.size_alloc, World.size_setCell, World.size_drew] at *; omega)) (by first | omega | (simp; done) | (simp; omega) | (simp only [World.size_alloc, World.size_setCell, World.size_drew] at *; omega))))
  (try simp at z3)
  (try simp only [World.size_alloc, World.size_setCell, World.size_drew, World.heap_drewN] at hgr)
  have GR3 := Lib.hid hgr; clear hgr
  have NE3 := Lib.hid hn3; clear hn3
  have XB3 := Lib.hid hb3; clear hb3
  obtain ⟨g3, c3, rfl, hg3, og3, lc3, mc3, ig3⟩ := Grow.block GR3.out NE3.out (fun x hx => by have := XB3.out x hx; exact ⟨by omega, by omega⟩)
  have OT := Lib.hid ig3
  clear ig3 og3
  go_wp2_with fail
  refine (spoil_any w.heap.size _ (40 + n') _ _ _ _ xs 11 _ R3.out OT.out (by omega) (by omega) (by omega)).mono ?_
  rintro e w5 ⟨A5, n5, c5, ps, rfl, hi5, lc5, mc5, hm5, hr, ho⟩
  have z5 := ho.size
  have R5 := Lib.hid hr; clear hr
  have D5 := Lib.hid ho; clear ho
  have G5 : Hid (Below w.heap.size w w5) := Lib.hid (Below.trans (by (repeat' (first | (with_reducible exact Below.refl _ _) | (with_reducible refine belS ?_ (by first | omega | (simp; done) | (simp; omega) | (simp only [World.size_alloc, World.size_setCell, World.size_drew] at *; omega))) | (with_reducible refine belA ?_ (by first | omega | (simp; done) | (simp; omega) | (simp only [World.size_alloc, World.size_setCell, World.size_drew] at *; omega))) | (with_reducible refine bel_drewN ?_ _) | (with_reducible refine Below.drew ?_) | (with_reducible assumption) | (refine Hid.out ?_; with_reducible assumption) | (apply belV; (with_reducible assumption); exact (by first | omega | (simp; done) | (simp; omega) | (simp only [World.size_alloc, World.size_setCell, World.size_drew] at *; omega)))))) (Only.below D5.out (by first | omega | (simp; done) | (simp; omega) | (simp only [World.size_alloc, World.size_setCell, World.size_drew] at *; omega)) (by first | omega | (simp; done) | (simp; omega) | (simp only [World.size_alloc, World.size_setCell, World.size_drew] at *; omega))))
  (try simp at z5)
  (try simp only [World.size_alloc, World.size_setCell, World.size_drew, World.heap_drewN] at hi5)
  have I5 := Lib.hid hi5; clear hi5
  have J6 : Hid (IntsF w5 w1.heap.size A' n' ws) := Lib.hid (IntsF.only D5 (by omega) (IntsF.only D3 (by omega) J'.out))
  go_wp2_with fail
  refine bodyPost_ret (v := .tuple #[.slice A' n' c', .int .i64 x, .slice A5 n5 c5]) (by simp [results, Try.results53, go_sem, *]) rfl ⟨A', A5, n', n5, c', c5, x, ws, ps, rfl, J6.out.out, I5.out.out, lc', mc', lc5, mc5, h12', by omega, x0, x1, by (repeat' (first | (with_reducible exact Below.refl _ _) | (with_reducible refine belS ?_ (by first | omega | (simp; done) | (simp; omega) | (simp only [World.size_alloc, World.size_setCell, World.size_drew] at *; omega))) | (with_reducible refine belA ?_ (by first | omega | (simp; done) | (simp; omega) | (simp only [World.size_alloc, World.size_setCell, World.size_drew] at *; omega))) | (with_reducible refine bel_drewN ?_ _) | (with_reducible refine Below.drew ?_) | (with_reducible assumption) | (refine Hid.out ?_; with_reducible assumption) | (apply belV; (with_reducible assumption); exact (by first | omega | (simp; done) | (simp; omega) | (simp only [World.size_alloc, World.size_setCell, World.size_drew] at *; omega)))))⟩
end Go.Proofs.Ytfidahpaidkhgab
