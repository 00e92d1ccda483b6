
/-
  Restored points: the widths of a box and its open variables.
-/
import Derived.Test.YtejcloanmfkglabAp
import Derived.Test.YtejcloanmfkglabBz
set_option linter.unusedSimpArgs false
set_option linter.unusedVariables false
namespace Go.Proofs.Ytejcloanmfkglab
open Go.RowKit

def widAt (b : PBox) (i : Nat) : Int := b.high.getD i 0 - b.low.getD i 0
def widK (b : PBox) (k : Nat) : List Int := (List.range k).map (widAt b) ++ List.replicate (b.low.length - k) 0
def wid (b : PBox) : List Int := (List.range b.low.length).map (widAt b)
theorem widK_0 (b : PBox) : widK b 0 = List.replicate b.low.length 0 := by simp [widK]
theorem widK_end (b : PBox) : widK b b.low.length = wid b := by simp [widK, wid]
theorem wid_len (b : PBox) : (wid b).length = b.low.length := by simp [wid]
theorem widK_at {b : PBox} {k : Nat} (h : k < b.low.length) : (widK b k)[k]? = some 0 := by
  unfold widK
  rw [List.getElem?_append_right (by simp), List.length_map, List.length_range, Nat.sub_self, List.getElem?_replicate, if_pos (by omega)]
theorem widK_set {b : PBox} {k : Nat} {x y : Int} (hx : b.low[k]? = some x) (hy : b.high[k]? = some y) : (widK b k).set k (y - x) = widK b (k + 1) := by
  have hk : k < b.low.length := (List.getElem?_eq_some_iff.1 hx).1
  have e : b.low.length - k = (b.low.length - (k + 1)) + 1 := by omega
  have hw : widAt b k = y - x := by simp [widAt, List.getD_eq_getElem?_getD, hx, hy]
  have hl : ((List.range k).map (widAt b)).length = k := by simp
  unfold widK
  rw [e, List.replicate_succ, List.set_append, hl, if_neg (Nat.lt_irrefl _), Nat.sub_self, List.set_cons_zero, List.range_succ, List.map_append]
  simp [hw]
/-- A box of small numbers, as valid boxes are. -/
def SmB (b : PBox) : Prop := b.low.length = b.high.length ∧ b.low.length ≤ 5 ∧ (∀ x ∈ b.low, 0 ≤ x ∧ x ≤ 1000) ∧ (∀ x ∈ b.high, 0 ≤ x ∧ x ≤ 1000)
theorem SmB.len {b : PBox} (h : SmB b) : b.low.length = b.high.length := h.1
theorem SmB.five {b : PBox} (h : SmB b) : b.low.length ≤ 5 := h.2.1
theorem SmB.lo {b : PBox} (h : SmB b) {k : Nat} {x : Int} (e : b.low[k]? = some x) : 0 ≤ x ∧ x ≤ 1000 := h.2.2.1 x (List.mem_of_getElem? e)
theorem SmB.hi {b : PBox} (h : SmB b) {k : Nat} {x : Int} (e : b.high[k]? = some x) : 0 ≤ x ∧ x ≤ 1000 := h.2.2.2 x (List.mem_of_getElem? e)
theorem SmB.wid {b : PBox} (h : SmB b) : (∀ x ∈ wid b, I64 x) ∧ (wid b).length ≤ 1048576 := by
  refine ⟨fun x hx => ?_, by rw [wid_len]; have := h.five; omega⟩
  simp only [Go.Proofs.Ytejcloanmfkglab.wid, List.mem_map, List.mem_range] at hx
  obtain ⟨i, hi, rfl⟩ := hx
  have hj : i < b.high.length := by have := h.len; omega
  have a := h.lo (List.getElem?_eq_getElem hi)
  have c := h.hi (List.getElem?_eq_getElem hj)
  have e : widAt b i = b.high[i] - b.low[i] := by simp [widAt, List.getD_eq_getElem?_getD, hi, hj]
  rw [e]
  exact ⟨by omega, by omega⟩

set_option maxHeartbeats 2000000 in
set_option maxRecDepth 100000 in
theorem impl_widths (A0 A1 : Option Addr) (c0 c1 : Nat) (b : PBox) (w : World) (hb : BoxV w A0 A1 c0 c1 b) (hs : SmB b) : Calls Try.prog 90 #[.agg #[.slice A0 b.low.length c0, .slice A1 b.high.length c1]] w (SliceEnd (wid b) w) := by
  obtain ⟨i0, hi0, hz0, hz1, hz2⟩ := info_parts info_int
  have HB := Lib.hid hb; clear hb
  have h5 := hs.five
  have HE := Lib.hid hs.len
  have HS := Lib.hid hs; clear hs
  have hmk := fun W => run_makeN (P := Try.prog) 35 3 i0 (.int .i64 0) Try.underlying35 hi0 hz0 b.low.length (by rw [hz2]; omega) (by omega) W
  simp only [hz1, Nat.mul_one] at hmk
  go_enter Try.func90, Try.ntmps90
  go_wp2_with fail
  clear hmk
  go_loopw [4, 11] (fun s4 s11 wr => ∃ (k : Nat) (v4 : Value), k ≤ b.low.length ∧ s4 = v4 ∧ s11 = .int .i64 k ∧ Hid (OwnI wr (w.heap.size + 1) (widK b k)) ∧ Hid (Box wr w.heap.size #[.slice A0 b.low.length c0, .slice A1 b.high.length c1]) ∧ Hid (Below w.heap.size w wr)) (fun _ s11 _ => b.low.length - (intOf s11).toNat)
  case atStart => exact ⟨0, _, by omega, rfl, rfl, Lib.hid (by rw [widK_0]; (repeat' (first | (with_reducible exact OwnI.madeAt _ _ _ (by first | omega | (simp; done) | (simp; omega) | (simp only [World.size_alloc, World.size_setCell, World.size_drew] at *; omega))) | (with_reducible refine OwnI.far ?_ (by first | omega | (simp; done) | (simp; omega) | (simp only [World.size_alloc, World.size_setCell, World.size_drew] at *; omega)) _) | (with_reducible refine OwnI.alloc ?_ _) | (with_reducible refine OwnI.drewN ?_ _) | (with_reducible refine OwnI.drew ?_) | (with_reducible assumption) | (refine Hid.out ?_; with_reducible assumption) | (apply OwnI.turn; (with_reducible assumption); exact (by first | omega | (simp; done) | (simp; omega) | (simp only [World.size_alloc, World.size_setCell, World.size_drew] at *; omega))) | (apply OwnI.belowD; (with_reducible assumption))))), by (refine Lib.hid ?_; (repeat' (first | (with_reducible exact Box.new _ _ _ (by first | omega | (simp; done) | (simp; omega) | (simp only [World.size_alloc, World.size_setCell, World.size_drew] at *; omega))) | (with_reducible refine Box.far ?_ (by first | omega | (simp; done) | (simp; omega) | (simp only [World.size_alloc, World.size_setCell, World.size_drew] at *; omega)) _) | (with_reducible refine Box.alloc ?_ _) | (with_reducible refine Box.drewN ?_ _) | (with_reducible refine Box.drew ?_) | (with_reducible assumption) | (refine Hid.out ?_; with_reducible assumption) | (apply Box.belowD; (with_reducible assumption))))), by (refine Lib.hid ?_; (repeat' (first | (with_reducible exact Below.refl _ _) | (with_reducible refine belS ?_ (by first | omega | (simp; done) | (simp; omega) | (simp only [World.size_alloc, World.size_setCell, World.size_drew] at *; omega))) | (with_reducible refine belA ?_ (by first | omega | (simp; done) | (simp; omega) | (simp only [World.size_alloc, World.size_setCell, World.size_drew] at *; omega))) | (with_reducible refine bel_drewN ?_ _) | (with_reducible refine Below.drew ?_) | (with_reducible assumption) | (refine Hid.out ?_; with_reducible assumption) | (apply belV; (with_reducible assumption); exact (by first | omega | (simp; done) | (simp; omega) | (simp only [World.size_alloc, World.size_setCell, World.size_drew] at *; omega))))))⟩
  case round =>
    obtain ⟨k, v4, hk, rfl, rfl, hown, hx, hbel⟩ := hrel
    have z1 := hown.out.1
    obtain ⟨x0, x1⟩ := Box.facts2 hx.out
    by_cases hlt : k < b.low.length
    · have HI0 : Ints wr A0 b.low.length b.low := HB.out.i0.below (by (repeat' (first | (with_reducible exact Below.refl _ _) | (with_reducible refine belS ?_ (by first | omega | (simp; done) | (simp; omega) | (simp only [World.size_alloc, World.size_setCell, World.size_drew] at *; omega))) | (with_reducible refine belA ?_ (by first | omega | (simp; done) | (simp; omega) | (simp only [World.size_alloc, World.size_setCell, World.size_drew] at *; omega))) | (with_reducible refine bel_drewN ?_ _) | (with_reducible refine Below.drew ?_) | (with_reducible assumption) | (refine Hid.out ?_; with_reducible assumption) | (apply belV; (with_reducible assumption); exact (by first | omega | (simp; done) | (simp; omega) | (simp only [World.size_alloc, World.size_setCell, World.size_drew] at *; omega))))))
      have HI1 : Ints wr A1 b.high.length b.high := HB.out.i1.below (by (repeat' (first | (with_reducible exact Below.refl _ _) | (with_reducible refine belS ?_ (by first | omega | (simp; done) | (simp; omega) | (simp only [World.size_alloc, World.size_setCell, World.size_drew] at *; omega))) | (with_reducible refine belA ?_ (by first | omega | (simp; done) | (simp; omega) | (simp only [World.size_alloc, World.size_setCell, World.size_drew] at *; omega))) | (with_reducible refine bel_drewN ?_ _) | (with_reducible refine Below.drew ?_) | (with_reducible assumption) | (refine Hid.out ?_; with_reducible assumption) | (apply belV; (with_reducible assumption); exact (by first | omega | (simp; done) | (simp; omega) | (simp only [World.size_alloc, World.size_setCell, World.size_drew] at *; omega))))))
      have hlt' : k < b.high.length := by have := HE.out; omega
      obtain ⟨b0, of0, x, rfl, hb0, hxk, _, _, hc0⟩ := HI0.at_ hlt
      obtain ⟨b1, of1, y, rfl, hb1, hyk, _, _, hc1⟩ := HI1.at_ hlt'
      clear HI0 HI1
      obtain ⟨xa, xb⟩ := HS.out.lo hxk
      obtain ⟨ya, yb⟩ := HS.out.hi hyk
      obtain ⟨o1, o2⟩ := hown.out.2 k 0 (widK_at hlt)
      have HX := Lib.hid hxk; clear hxk
      have HY := Lib.hid hyk; clear hyk
      have hwx : IntKind.i64.wrap (y - x) = y - x := IntWalk.i64_in _ ⟨by omega, by omega⟩
      go_wp2_with fail
      go_region
      all_goals
        clear hwx
        go_wp2
        go_roundw
        case rel =>
          refine ⟨k + 1, _, by omega, rfl, by go_num, Lib.hid ?_, ?_, ?_⟩
          · have o3 := hown.out.set_ (widK_at hlt) (y - x)
            rw [widK_set HX.out HY.out] at o3
            first | exact o3.drew | exact o3
          · (refine Lib.hid ?_; (repeat' (first | (with_reducible exact Box.new _ _ _ (by first | omega | (simp; done) | (simp; omega) | (simp only [World.size_alloc, World.size_setCell, World.size_drew] at *; omega))) | (with_reducible refine Box.far ?_ (by first | omega | (simp; done) | (simp; omega) | (simp only [World.size_alloc, World.size_setCell, World.size_drew] at *; omega)) _) | (with_reducible refine Box.alloc ?_ _) | (with_reducible refine Box.drewN ?_ _) | (with_reducible refine Box.drew ?_) | (with_reducible assumption) | (refine Hid.out ?_; with_reducible assumption) | (apply Box.belowD; (with_reducible assumption)))))
          · (refine Lib.hid ?_; (repeat' (first | (with_reducible exact Below.refl _ _) | (with_reducible refine belS ?_ (by first | omega | (simp; done) | (simp; omega) | (simp only [World.size_alloc, World.size_setCell, World.size_drew] at *; omega))) | (with_reducible refine belA ?_ (by first | omega | (simp; done) | (simp; omega) | (simp only [World.size_alloc, World.size_setCell, World.size_drew] at *; omega))) | (with_reducible refine bel_drewN ?_ _) | (with_reducible refine Below.drew ?_) | (with_reducible assumption) | (refine Hid.out ?_; with_reducible assumption) | (apply belV; (with_reducible assumption); exact (by first | omega | (simp; done) | (simp; omega) | (simp only [World.size_alloc, World.size_setCell, World.size_drew] at *; omega))))))
        case measure => simp [intOf]; omega
    · have hke : k = b.low.length := by omega
      subst hke
      rw [widK_end] at hown
      go_wp2_with fail
      go_ret
      rw [show b.low.length = (wid b).length from (wid_len b).symm]
      exact ⟨_, _, rfl, OwnS.of_own hown.out (by first | omega | (simp; done) | (simp; omega) | (simp only [World.size_alloc, World.size_setCell, World.size_drew] at *; omega)) (by first | omega | (simp; done) | (simp; omega) | (simp only [World.size_alloc, World.size_setCell, World.size_drew] at *; omega)) HS.out.wid.1 HS.out.wid.2, by (repeat' (first | (with_reducible exact Below.refl _ _) | (with_reducible refine belS ?_ (by first | omega | (simp; done) | (simp; omega) | (simp only [World.size_alloc, World.size_setCell, World.size_drew] at *; omega))) | (with_reducible refine belA ?_ (by first | omega | (simp; done) | (simp; omega) | (simp only [World.size_alloc, World.size_setCell, World.size_drew] at *; omega))) | (with_reducible refine bel_drewN ?_ _) | (with_reducible refine Below.drew ?_) | (with_reducible assumption) | (refine Hid.out ?_; with_reducible assumption) | (apply belV; (with_reducible assumption); exact (by first | omega | (simp; done) | (simp; omega) | (simp only [World.size_alloc, World.size_setCell, World.size_drew] at *; omega)))))⟩
end Go.Proofs.Ytejcloanmfkglab
