
/-
  The draws of items: values, weights and a capacity; subsets.
-/
import Derived.Test.YtfidahpaidkhgabDv
set_option linter.unusedSimpArgs false
set_option linter.unusedVariables false
namespace Go.Proofs.Ytfidahpaidkhgab
open Go.RowKit

theorem IntsF.lower2 {w : World} {lo lo' n : Nat} {A : Option Addr} {xs : List Int} (h : IntsF w lo A n xs) (hl : lo' ≤ lo) : IntsF w lo' A n xs := ⟨h.1, fun hn => by obtain ⟨g, off, e, hg⟩ := h.2 hn; exact ⟨g, off, e, by omega⟩⟩
theorem some_of (B rb P n : Nat) (k low high : Int) (w : World) (hr : Rd B w rb P) (hP : P + n ≤ 900000) (hn : n ≤ 1000) (b0 : -1000000 ≤ low) (b1 : low ≤ high) (b2 : high ≤ 1000000) (hk : k = (n : Int)) :
    Calls Try.prog 67 #[.pointer (some ⟨rb, 0, none⟩), .int .i64 k, .int .i64 low, .int .i64 high] w (DrewSome B rb (P + n) n low high w) := by subst hk; exact some_any B rb P n low high w hr hP hn b0 b1 b2

/-- Items were drawn: values, weights and a capacity. -/
def DrewItems (B rb P : Nat) (w : World) (e : Ending) (w' : World) : Prop :=
  ∃ (A A' : Option Addr) (n n' c c' : Nat) (a : Int) (vs ws : List Int), e = .returned (.tuple #[.slice A n c, .slice A' n' c', .int .i64 a]) ∧ IntsF w' w.heap.size A n vs ∧ IntsF w' w.heap.size A' n' ws ∧ n ≤ c ∧ c ≤ maxLen ∧ n' ≤ c' ∧ c' ≤ maxLen ∧ n ≤ 12 ∧ n' ≤ 12 ∧ -1000 ≤ a ∧ a ≤ 1000 ∧ Rd B w' rb P ∧ Only rb w w'

set_option maxHeartbeats 8000000 in
set_option maxRecDepth 100000 in
theorem anyItems_any (B rb P : Nat) (w : World) (hr : Rd B w rb P) (hP : P ≤ 600000) :
    Calls Try.prog 42 #[.pointer (some ⟨rb, 0, none⟩)] w (DrewItems B rb (P + 40) w) := by
  have hrb := hr.2.1
  have hB := hr.1
  have HR := Lib.hid hr; clear hr
  go_enter Try.func42, Try.ntmps42
  go_wp2_with fail
  refine (one_any B rb P _ _ [3, 4, 5, 6, 2, 1, 0, 10, 11] _ (by (repeat' (first | (with_reducible assumption) | (refine Hid.out ?_; with_reducible assumption) | (with_reducible refine Rd.set ?_ (by first | omega | (simp; done) | (simp; omega) | (simp only [World.size_alloc, World.size_setCell, World.size_drew] at *; omega)) (by first | omega | (simp; done) | (simp; omega) | (simp only [World.size_alloc, World.size_setCell, World.size_drew] at *; omega))) | (with_reducible refine Rd.alloc ?_ _) | (with_reducible refine Rd.drewN ?_ _) | (with_reducible refine Rd.drew ?_)))) (by omega) (by decide) (by decide) (by first | omega | (simp; done) | (simp; omega) | (simp only [World.size_alloc, World.size_setCell, World.size_drew] at *; omega)) (by simp) (lit_cells (l := [3, 4, 5, 6, 2, 1, 0, 10, 11]))).mono ?_
  rintro e w1 ⟨v, hv, rfl, hr, ho⟩
  have z1 := ho.size
  have R1 := Lib.hid hr; clear hr
  have D1 := Lib.hid ho; clear ho
  have O1 : Hid (OnlyA rb w w1) := Lib.hid (Only.trans (by (repeat' (first | exact Only.refl _ _ | (with_reducible assumption) | (refine Hid.out ?_; with_reducible assumption) | (refine OnlyA.out ?_; refine Hid.out ?_; with_reducible assumption) | (with_reducible refine Only.setNew ?_ (by first | omega | (simp; done) | (simp; omega) | (simp only [World.size_alloc, World.size_setCell, World.size_drew] at *; omega))) | (with_reducible refine Only.alloc ?_ _) | (with_reducible refine Only.drewN ?_ _) | (with_reducible refine Only.drew ?_) | (apply Only.thenD; (with_reducible assumption)) | (apply Only.belowD; (with_reducible assumption))))) D1.out)
  (try simp at z1)
  obtain ⟨m, rfl, hm⟩ : ∃ m : Nat, v = (m : Int) ∧ m ≤ 11 := by simp at hv; exact ⟨v.toNat, by omega, by omega⟩
  clear hv
  go_wp2_with fail
  refine (some_any B rb (P + 1) m 0 12 _ (by (repeat' (first | (with_reducible assumption) | (refine Hid.out ?_; with_reducible assumption) | (with_reducible refine Rd.set ?_ (by first | omega | (simp; done) | (simp; omega) | (simp only [World.size_alloc, World.size_setCell, World.size_drew] at *; omega)) (by first | omega | (simp; done) | (simp; omega) | (simp only [World.size_alloc, World.size_setCell, World.size_drew] at *; omega))) | (with_reducible refine Rd.alloc ?_ _) | (with_reducible refine Rd.drewN ?_ _) | (with_reducible refine Rd.drew ?_)))) (by omega) (by omega) (by omega) (by omega) (by omega)).mono ?_
  rintro e w2 ⟨v2, xs, hl2, hb2, hn2, rfl, hgr, hr, ho⟩
  have z2 := ho.size
  have R2 := Lib.hid hr; clear hr
  have D2 := Lib.hid ho; clear ho
  have O2 : Hid (OnlyA rb w w2) := Lib.hid (Only.trans (by (repeat' (first | exact Only.refl _ _ | (with_reducible assumption) | (refine Hid.out ?_; with_reducible assumption) | (refine OnlyA.out ?_; refine Hid.out ?_; with_reducible assumption) | (with_reducible refine Only.setNew ?_ (by first | omega | (simp; done) | (simp; omega) | (simp only [World.size_alloc, World.size_setCell, World.size_drew] at *; omega))) | (with_reducible refine Only.alloc ?_ _) | (with_reducible refine Only.drewN ?_ _) | (with_reducible refine Only.drew ?_) | (apply Only.thenD; (with_reducible assumption)) | (apply Only.belowD; (with_reducible assumption))))) D2.out)
  (try simp at z2)
  (try simp only [World.size_alloc, World.size_setCell, World.size_drew, World.heap_drewN] at hgr)
  have GR2 := Lib.hid hgr; clear hgr
  have NE2 := Lib.hid hn2; clear hn2
  have XB2 := Lib.hid hb2; clear hb2
  obtain ⟨g2, c2, rfl, hg2, og2, lc2, mc2, ig2⟩ := Grow.block GR2.out NE2.out (fun x hx => by have := XB2.out x hx; exact ⟨by omega, by omega⟩)
  have I2 : Hid (Ints w2 (some ⟨g2, 0, none⟩) m xs) := Lib.hid (hl2 ▸ ig2)
  clear ig2 og2
  go_wp2_with fail
  refine (spoil_any B rb (P + 1 + m) _ _ _ _ xs 100 _ (by (repeat' (first | (with_reducible assumption) | (refine Hid.out ?_; with_reducible assumption) | (with_reducible refine Rd.set ?_ (by first | omega | (simp; done) | (simp; omega) | (simp only [World.size_alloc, World.size_setCell, World.size_drew] at *; omega)) (by first | omega | (simp; done) | (simp; omega) | (simp only [World.size_alloc, World.size_setCell, World.size_drew] at *; omega))) | (with_reducible refine Rd.alloc ?_ _) | (with_reducible refine Rd.drewN ?_ _) | (with_reducible refine Rd.drew ?_)))) (I2.out) (by omega) (by omega) (by omega)).mono ?_
  rintro e w3 ⟨A3, n3, c3, vs, rfl, hi3, lc3, mc3, hm3, hr, ho⟩
  have z3 := ho.size
  have R3 := Lib.hid hr; clear hr
  have D3 := Lib.hid ho; clear ho
  have O3 : Hid (OnlyA rb w w3) := Lib.hid (Only.trans (by (repeat' (first | exact Only.refl _ _ | (with_reducible assumption) | (refine Hid.out ?_; with_reducible assumption) | (refine OnlyA.out ?_; refine Hid.out ?_; with_reducible assumption) | (with_reducible refine Only.setNew ?_ (by first | omega | (simp; done) | (simp; omega) | (simp only [World.size_alloc, World.size_setCell, World.size_drew] at *; omega))) | (with_reducible refine Only.alloc ?_ _) | (with_reducible refine Only.drewN ?_ _) | (with_reducible refine Only.drew ?_) | (apply Only.thenD; (with_reducible assumption)) | (apply Only.belowD; (with_reducible assumption))))) D3.out)
  (try simp at z3)
  (try simp only [World.size_alloc, World.size_setCell, World.size_drew, World.heap_drewN] at hi3)
  have I3 := Lib.hid hi3; clear hi3
  go_wp2_with fail
  refine (some_any B rb (P + 1 + m + 3) m 1 9 _ (by (repeat' (first | (with_reducible assumption) | (refine Hid.out ?_; with_reducible assumption) | (with_reducible refine Rd.set ?_ (by first | omega | (simp; done) | (simp; omega) | (simp only [World.size_alloc, World.size_setCell, World.size_drew] at *; omega)) (by first | omega | (simp; done) | (simp; omega) | (simp only [World.size_alloc, World.size_setCell, World.size_drew] at *; omega))) | (with_reducible refine Rd.alloc ?_ _) | (with_reducible refine Rd.drewN ?_ _) | (with_reducible refine Rd.drew ?_)))) (by omega) (by omega) (by omega) (by omega) (by omega)).mono ?_
  rintro e w4 ⟨v4, ys, hl4, hb4, hn4, rfl, hgr, hr, ho⟩
  have z4 := ho.size
  have R4 := Lib.hid hr; clear hr
  have D4 := Lib.hid ho; clear ho
  have O4 : Hid (OnlyA rb w w4) := Lib.hid (Only.trans (by (repeat' (first | exact Only.refl _ _ | (with_reducible assumption) | (refine Hid.out ?_; with_reducible assumption) | (refine OnlyA.out ?_; refine Hid.out ?_; with_reducible assumption) | (with_reducible refine Only.setNew ?_ (by first | omega | (simp; done) | (simp; omega) | (simp only [World.size_alloc, World.size_setCell, World.size_drew] at *; omega))) | (with_reducible refine Only.alloc ?_ _) | (with_reducible refine Only.drewN ?_ _) | (with_reducible refine Only.drew ?_) | (apply Only.thenD; (with_reducible assumption)) | (apply Only.belowD; (with_reducible assumption))))) D4.out)
  (try simp at z4)
  (try simp only [World.size_alloc, World.size_setCell, World.size_drew, World.heap_drewN] at hgr)
  have GR4 := Lib.hid hgr; clear hgr
  have NE4 := Lib.hid hn4; clear hn4
  have XB4 := Lib.hid hb4; clear hb4
  obtain ⟨g4, c4, rfl, hg4, og4, lc4, mc4, ig4⟩ := Grow.block GR4.out NE4.out (fun x hx => by have := XB4.out x hx; exact ⟨by omega, by omega⟩)
  have I4 : Hid (Ints w4 (some ⟨g4, 0, none⟩) m ys) := Lib.hid (hl4 ▸ ig4)
  clear ig4 og4
  go_wp2_with fail
  refine (spoil_any B rb (P + 1 + m + 3 + m) _ _ _ _ ys 21 _ (by (repeat' (first | (with_reducible assumption) | (refine Hid.out ?_; with_reducible assumption) | (with_reducible refine Rd.set ?_ (by first | omega | (simp; done) | (simp; omega) | (simp only [World.size_alloc, World.size_setCell, World.size_drew] at *; omega)) (by first | omega | (simp; done) | (simp; omega) | (simp only [World.size_alloc, World.size_setCell, World.size_drew] at *; omega))) | (with_reducible refine Rd.alloc ?_ _) | (with_reducible refine Rd.drewN ?_ _) | (with_reducible refine Rd.drew ?_)))) (I4.out) (by omega) (by omega) (by omega)).mono ?_
  rintro e w5 ⟨A5, n5, c5, ws, rfl, hi5, lc5, mc5, hm5, hr, ho⟩
  have z5 := ho.size
  have R5 := Lib.hid hr; clear hr
  have D5 := Lib.hid ho; clear ho
  have O5 : Hid (OnlyA rb w w5) := Lib.hid (Only.trans (by (repeat' (first | exact Only.refl _ _ | (with_reducible assumption) | (refine Hid.out ?_; with_reducible assumption) | (refine OnlyA.out ?_; refine Hid.out ?_; with_reducible assumption) | (with_reducible refine Only.setNew ?_ (by first | omega | (simp; done) | (simp; omega) | (simp only [World.size_alloc, World.size_setCell, World.size_drew] at *; omega))) | (with_reducible refine Only.alloc ?_ _) | (with_reducible refine Only.drewN ?_ _) | (with_reducible refine Only.drew ?_) | (apply Only.thenD; (with_reducible assumption)) | (apply Only.belowD; (with_reducible assumption))))) D5.out)
  (try simp at z5)
  (try simp only [World.size_alloc, World.size_setCell, World.size_drew, World.heap_drewN] at hi5)
  have I5 := Lib.hid hi5; clear hi5
  go_wp2_with fail
  refine (one_any B rb (P + 1 + m + 3 + m + 3) _ _ [8, 10, 13, 6, 20, 3, 0, 99, 100, -1] _ (by (repeat' (first | (with_reducible assumption) | (refine Hid.out ?_; with_reducible assumption) | (with_reducible refine Rd.set ?_ (by first | omega | (simp; done) | (simp; omega) | (simp only [World.size_alloc, World.size_setCell, World.size_drew] at *; omega)) (by first | omega | (simp; done) | (simp; omega) | (simp only [World.size_alloc, World.size_setCell, World.size_drew] at *; omega))) | (with_reducible refine Rd.alloc ?_ _) | (with_reducible refine Rd.drewN ?_ _) | (with_reducible refine Rd.drew ?_)))) (by omega) (by decide) (by decide) (by first | omega | (simp; done) | (simp; omega) | (simp only [World.size_alloc, World.size_setCell, World.size_drew] at *; omega)) (by simp) (lit_cells (l := [8, 10, 13, 6, 20, 3, 0, 99, 100, -1]))).mono ?_
  rintro e w6 ⟨q, hq, rfl, hr, ho⟩
  have z6 := ho.size
  have R6 := Lib.hid hr; clear hr
  have D6 := Lib.hid ho; clear ho
  have O6 : Hid (OnlyA rb w w6) := Lib.hid (Only.trans (by (repeat' (first | exact Only.refl _ _ | (with_reducible assumption) | (refine Hid.out ?_; with_reducible assumption) | (refine OnlyA.out ?_; refine Hid.out ?_; with_reducible assumption) | (with_reducible refine Only.setNew ?_ (by first | omega | (simp; done) | (simp; omega) | (simp only [World.size_alloc, World.size_setCell, World.size_drew] at *; omega))) | (with_reducible refine Only.alloc ?_ _) | (with_reducible refine Only.drewN ?_ _) | (with_reducible refine Only.drew ?_) | (apply Only.thenD; (with_reducible assumption)) | (apply Only.belowD; (with_reducible assumption))))) D6.out)
  (try simp at z6)
  have bq : -1000 ≤ q ∧ q ≤ 1000 := by simp at hq; omega
  clear hq
  have J3 : Hid (IntsF w3 w.heap.size A3 n3 vs) := Lib.hid (IntsF.lower2 I3.out (by omega))
  have J5 : Hid (IntsF w5 w.heap.size A5 n5 ws) := Lib.hid (IntsF.lower2 I5.out (by omega))
  clear I3 I5
  go_wp2_with fail
  refine bodyPost_ret (v := .tuple #[.slice A3 n3 c3, .slice A5 n5 c5, .int .i64 q]) (by simp [results, Try.results42, go_sem, *]) rfl ⟨A3, A5, n3, n5, c3, c5, q, vs, ws, rfl, ?_, ?_, lc3, mc3, lc5, mc5, by omega, by omega, bq.1, bq.2, Rd.mono (P := P + 1 + m + 3 + m + 3 + 1) (by (repeat' (first | (with_reducible assumption) | (refine Hid.out ?_; with_reducible assumption) | (with_reducible refine Rd.set ?_ (by first | omega | (simp; done) | (simp; omega) | (simp only [World.size_alloc, World.size_setCell, World.size_drew] at *; omega)) (by first | omega | (simp; done) | (simp; omega) | (simp only [World.size_alloc, World.size_setCell, World.size_drew] at *; omega))) | (with_reducible refine Rd.alloc ?_ _) | (with_reducible refine Rd.drewN ?_ _) | (with_reducible refine Rd.drew ?_)))) (by omega), by (repeat' (first | exact Only.refl _ _ | (with_reducible assumption) | (refine Hid.out ?_; with_reducible assumption) | (refine OnlyA.out ?_; refine Hid.out ?_; with_reducible assumption) | (with_reducible refine Only.setNew ?_ (by first | omega | (simp; done) | (simp; omega) | (simp only [World.size_alloc, World.size_setCell, World.size_drew] at *; omega))) | (with_reducible refine Only.alloc ?_ _) | (with_reducible refine Only.drewN ?_ _) | (with_reducible refine Only.drew ?_) | (apply Only.thenD; (with_reducible assumption)) | (apply Only.belowD; (with_reducible assumption))))⟩
  · (repeat' (first | (with_reducible assumption) | (refine Hid.out ?_; with_reducible assumption) | (with_reducible refine IntsF.far ?_ (by first | omega | (simp; done) | (simp; omega) | (simp only [World.size_alloc, World.size_setCell, World.size_drew] at *; omega)) _) | (with_reducible refine IntsF.alloc ?_ _) | (with_reducible refine IntsF.drewN ?_ _) | (with_reducible refine IntsF.drew ?_) | (apply IntsF.only; (with_reducible assumption); exact (by first | omega | (simp; done) | (simp; omega) | (simp only [World.size_alloc, World.size_setCell, World.size_drew] at *; omega))) | (apply IntsF.belowD; (with_reducible assumption))))
  · (repeat' (first | (with_reducible assumption) | (refine Hid.out ?_; with_reducible assumption) | (with_reducible refine IntsF.far ?_ (by first | omega | (simp; done) | (simp; omega) | (simp only [World.size_alloc, World.size_setCell, World.size_drew] at *; omega)) _) | (with_reducible refine IntsF.alloc ?_ _) | (with_reducible refine IntsF.drewN ?_ _) | (with_reducible refine IntsF.drew ?_) | (apply IntsF.only; (with_reducible assumption); exact (by first | omega | (simp; done) | (simp; omega) | (simp only [World.size_alloc, World.size_setCell, World.size_drew] at *; omega))) | (apply IntsF.belowD; (with_reducible assumption))))

/-- An ascending list of numbers below n was drawn. -/
def DrewSet (B rb P n : Nat) (w : World) (e : Ending) (w' : World) : Prop :=
  ∃ (v : Value) (xs : List Int), xs.length ≤ n ∧ (∀ x ∈ xs, 0 ≤ x ∧ x ≤ 1000) ∧ v ≠ .slice none 0 0 ∧ e = .returned v ∧ Grow w' w.heap.size 3 v xs ∧ Rd B w' rb P ∧ Only rb w w'
set_option maxHeartbeats 2000000 in
set_option maxRecDepth 100000 in
theorem subset_any (B rb P n : Nat) (w : World) (hr : Rd B w rb P) (hP : P + n ≤ 900000) (hn : n ≤ 1000) :
    Calls Try.prog 82 #[.pointer (some ⟨rb, 0, none⟩), .int .i64 n] w (DrewSet B rb (P + n) n w) := by
  obtain ⟨i0, hi0, hz0, hz1, hz2⟩ := info_parts info_int
  have hrb := hr.2.1
  have hB := hr.1
  have HR := Lib.hid hr; clear hr
  go_enter Try.func82, Try.ntmps82
  go_wp2_with fail
  go_loopw [5, 6] (fun s9 s10 wr => ∃ (k : Nat) (v : Value) (xs : List Int), k ≤ n ∧ v = s9 ∧ s10 = .int .i64 k ∧ Hid (xs.length ≤ k ∧ ∀ x ∈ xs, 0 ≤ x ∧ x ≤ 1000) ∧ Hid (v ≠ .slice none 0 0) ∧ Hid (Grow wr w.heap.size 3 v xs) ∧ Hid (Rd B wr rb (P + k)) ∧ Hid (Only rb w wr)) (fun _ s10 _ => n - (intOf s10).toNat)
  case atStart => exact ⟨0, _, [], by omega, rfl, rfl, Lib.hid ⟨Nat.le_refl _, by simp⟩, Lib.hid (by simp), Lib.hid (Grow.lit0 w (Nat.le_refl _) _), Lib.hid (HR.out.alloc _), Lib.hid ((Only.refl _ _).alloc _)⟩
  case round =>
    obtain ⟨k, v, xs, hk, rfl, rfl, hxs, hne, hgr, hrd, ho⟩ := hrel
    have zr := ho.out.size
    by_cases hlt : k < n
    · have hxl := hxs.out.1
      go_wp2_with fail
      refine (pick_any B rb (P + k) _ _ hrd.out (by omega) (by omega) (by omega)).mono ?_
      rintro e w1 ⟨u, u0, u1, rfl, hr1, ho1⟩
      have R1 := Lib.hid hr1
      have D1 := Lib.hid ho1
      have O1 := Lib.hid (ho.out.trans ho1)
      have zz := ho1.size
      have G1 : Hid (Grow w1 w.heap.size 3 v xs) := Grow.only D1 hrb hgr.out
      clear hr1 ho1
      rcases (by omega : u = 0 ∨ u = 1) with rfl | rfl
      · go_wp2_with (
          at_builtin
          refine wpList_append_own _ rfl (.tmp 16) (.tmp 18) 23 rfl w.heap.size 3 i0 (.int .i64 0) 1 8 Try.underlying23 hi0 hz0 hz1 hz2 rfl (by decide) v _ _ rfl (G1.out.alloc _).own ⟨w1.heap.size, 0, none⟩ 1 1 [.int .i64 k] rfl rfl ?c1 ?c2 ?c3 ?c4 ?c5 ?_
          case c1 => intro j u hj; (rcases j with _ | j <;> simp at hj); subst hj; simp [go_sem]
          case c2 => intro u hu; simp at hu; subst hu; rfl
          case c3 => unfold maxLen; omega
          case c4 => omega
          case c5 => simp; omega
          intro v' w4 hown' hgrow hnil
          have G4 : Hid (Grow w4 w.heap.size 3 v' (xs ++ [(k : Int)])) := Lib.hid (Grow.snoc hown')
          have N4 : Hid (v' ≠ .slice none 0 0) := Lib.hid (fun h => by have := hnil.1 h; omega)
          have hrow : ∀ j, v.ownBlock = some j → w.heap.size ≤ j := hgr.out.row
          have R4 : Hid (Rd B w4 rb (P + k + 1)) := Lib.hid ((R1.out.alloc _).grown hgrow (fun j hj => by have := hrow j hj; omega))
          have O4 : Hid (Only rb w w4) := Lib.hid ((O1.out.alloc _).grown hgrow hrow)
          clear hown' hgrow hnil hrow)
        go_roundw
        case rel => exact ⟨k + 1, _, _, by omega, rfl, by go_num, Lib.hid ⟨by simp; omega, fun x hx => by
            rcases List.mem_append.1 hx with h | h
            · exact hxs.out.2 x h
            · simp at h; subst h; omega⟩, N4, G4, R4, O4⟩
        case measure => simp [intOf]; omega
      · go_wp2_with fail
        go_roundw
        case rel => exact ⟨k + 1, _, _, by omega, rfl, by go_num, Lib.hid ⟨by omega, hxs.out.2⟩, hne, G1, R1, O1⟩
        case measure => simp [intOf]; omega
    · have hke : k = n := by omega
      subst hke
      go_wp2_with fail
      go_ret
      exact ⟨v, xs, hxs.out.1, hxs.out.2, hne.out, rfl, hgr.out, hrd.out, ho.out⟩
end Go.Proofs.Ytfidahpaidkhgab
