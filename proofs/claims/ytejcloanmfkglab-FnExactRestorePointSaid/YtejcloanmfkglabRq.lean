
/-
  Restored points: the open variables of a box.
-/
import Derived.Test.YtejcloanmfkglabRp
set_option linter.unusedSimpArgs false
set_option linter.unusedVariables false
namespace Go.Proofs.Ytejcloanmfkglab
open Go.RowKit

def opn (b : PBox) (i : Nat) : Bool := decide (0 < widAt b i)
theorem opn_yes {b : PBox} {k : Nat} {x y : Int} (hx : b.low[k]? = some x) (hy : b.high[k]? = some y) (h : x < y) : opn b k = true := by
  simp [opn, widAt, List.getD_eq_getElem?_getD, hx, hy]; omega
theorem opn_no {b : PBox} {k : Nat} {x y : Int} (hx : b.low[k]? = some x) (hy : b.high[k]? = some y) (h : ¬ x < y) : opn b k = false := by
  simp [opn, widAt, List.getD_eq_getElem?_getD, hx, hy]; omega
theorem wid_at {b : PBox} {k : Nat} (h : k < b.low.length) : (wid b)[k]? = some (widAt b k) := by simp [wid, h]
def kept (b : PBox) : List Int := idxs (opn b) b.low.length

theorem kept_bd {b : PBox} (h : b.low.length ≤ 5) : (∀ x ∈ kept b, I64 x) ∧ (kept b).length ≤ 1048576 :=
  ⟨fun x hx => by have := idxs_mem x hx; exact ⟨by omega, by omega⟩, by have := idxs_len (opn b) b.low.length; unfold kept; omega⟩

set_option maxHeartbeats 2000000 in
set_option maxRecDepth 100000 in
theorem spec_keptVars (A0 A1 : Option Addr) (c0 c1 : Nat) (b : PBox) (w : World) (hb : BoxV w A0 A1 c0 c1 b) (hs : SmB b) : Calls Try.prog 87 #[.agg #[.slice A0 b.low.length c0, .slice A1 b.high.length c1]] w (SliceEnd (kept b) w) := by
  obtain ⟨i0, hi0, hz0, hz1, hz2⟩ := info_parts info_int
  have HB := Lib.hid hb; clear hb
  have h5 := hs.five
  have HE := Lib.hid hs.len
  have HS := Lib.hid hs; clear hs
  go_enter Try.func87, Try.ntmps87
  go_wp2_with fail
  go_loopw [3, 4] (fun s3 s4 wr => ∃ (k : Nat) (v : Value), k ≤ b.low.length ∧ v = s3 ∧ s4 = .int .i64 k ∧ Hid (Grow wr (w.heap.size + 1) 3 v (idxs (opn b) k)) ∧ Hid (Box wr w.heap.size #[.slice A0 b.low.length c0, .slice A1 b.high.length c1]) ∧ Hid (Below w.heap.size w wr)) (fun _ s4 _ => b.low.length - (intOf s4).toNat)
  case atStart => exact ⟨0, _, by omega, rfl, rfl, Lib.hid (by simpa [idxs] using Grow.lit0 (B := w.heap.size + 1) (w.alloc (.cells #[.slice A0 b.low.length c0, .slice A1 b.high.length c1] 59)) (by simp) 3), by (refine Lib.hid ?_; (repeat' (first | (with_reducible exact Box.new _ _ _ (by first | omega | (simp; done) | (simp; omega) | (simp only [World.size_alloc, World.size_setCell, World.size_drew] at *; omega))) | (with_reducible refine Box.far ?_ (by first | omega | (simp; done) | (simp; omega) | (simp only [World.size_alloc, World.size_setCell, World.size_drew] at *; omega)) _) | (with_reducible refine Box.alloc ?_ _) | (with_reducible refine Box.drewN ?_ _) | (with_reducible refine Box.drew ?_) | (with_reducible assumption) | (refine Hid.out ?_; with_reducible assumption) | (apply Box.belowD; (with_reducible assumption))))), by (refine Lib.hid ?_; (repeat' (first | (with_reducible exact Below.refl _ _) | (with_reducible refine belS ?_ (by first | omega | (simp; done) | (simp; omega) | (simp only [World.size_alloc, World.size_setCell, World.size_drew] at *; omega))) | (with_reducible refine belA ?_ (by first | omega | (simp; done) | (simp; omega) | (simp only [World.size_alloc, World.size_setCell, World.size_drew] at *; omega))) | (with_reducible refine bel_drewN ?_ _) | (with_reducible refine Below.drew ?_) | (with_reducible assumption) | (refine Hid.out ?_; with_reducible assumption) | (apply belV; (with_reducible assumption); exact (by first | omega | (simp; done) | (simp; omega) | (simp only [World.size_alloc, World.size_setCell, World.size_drew] at *; omega))))))⟩
  case round =>
    obtain ⟨k, v, hk, rfl, rfl, hgr, hx, hbel⟩ := hrel
    have z0 := hx.out.1
    obtain ⟨x0, x1⟩ := Box.facts2 hx.out
    by_cases hlt : k < b.low.length
    · have HI0 : Ints wr A0 b.low.length b.low := HB.out.i0.below (by (repeat' (first | (with_reducible exact Below.refl _ _) | (with_reducible refine belS ?_ (by first | omega | (simp; done) | (simp; omega) | (simp only [World.size_alloc, World.size_setCell, World.size_drew] at *; omega))) | (with_reducible refine belA ?_ (by first | omega | (simp; done) | (simp; omega) | (simp only [World.size_alloc, World.size_setCell, World.size_drew] at *; omega))) | (with_reducible refine bel_drewN ?_ _) | (with_reducible refine Below.drew ?_) | (with_reducible assumption) | (refine Hid.out ?_; with_reducible assumption) | (apply belV; (with_reducible assumption); exact (by first | omega | (simp; done) | (simp; omega) | (simp only [World.size_alloc, World.size_setCell, World.size_drew] at *; omega))))))
      have HI1 : Ints wr A1 b.high.length b.high := HB.out.i1.below (by (repeat' (first | (with_reducible exact Below.refl _ _) | (with_reducible refine belS ?_ (by first | omega | (simp; done) | (simp; omega) | (simp only [World.size_alloc, World.size_setCell, World.size_drew] at *; omega))) | (with_reducible refine belA ?_ (by first | omega | (simp; done) | (simp; omega) | (simp only [World.size_alloc, World.size_setCell, World.size_drew] at *; omega))) | (with_reducible refine bel_drewN ?_ _) | (with_reducible refine Below.drew ?_) | (with_reducible assumption) | (refine Hid.out ?_; with_reducible assumption) | (apply belV; (with_reducible assumption); exact (by first | omega | (simp; done) | (simp; omega) | (simp only [World.size_alloc, World.size_setCell, World.size_drew] at *; omega))))))
      have hlt' : k < b.high.length := by have := HE.out; omega
      obtain ⟨b0, of0, x, rfl, hb0, hxk, _, _, hc0⟩ := HI0.at_ hlt
      obtain ⟨b1, of1, y, rfl, hb1, hyk, _, _, hc1⟩ := HI1.at_ hlt'
      clear HI0 HI1
      have hil := idxs_len (opn b) k
      by_cases hxy : x < y
      · have HA := Lib.hid (opn_yes hxk hyk hxy)
        clear hxk hyk
        go_wp2_with fail
        go_region
        all_goals
          go_wp2_with (
            at_builtin
            refine wpList_append_own _ rfl (.tmp 24) (.tmp 26) 35 rfl (w.heap.size + 1) 3 i0 (.int .i64 0) 1 8 Try.underlying35 hi0 hz0 hz1 hz2 rfl (by decide) v _ _ rfl (Grow.drew (hgr.out.alloc _)).own ⟨wr.heap.size, 0, none⟩ 1 1 [.int .i64 k] rfl rfl ?c1 ?c2 ?c3 ?c4 ?c5 ?_
            case c1 => intro j u hj; (rcases j with _ | j <;> simp at hj); subst hj; simp [go_sem]
            case c2 => intro u hu; simp at hu; subst hu; rfl
            case c3 => unfold maxLen; omega
            case c4 => omega
            case c5 => simp; omega
            intro v' w4 hown' hgrow _
            have R4 : Hid (Grow w4 (w.heap.size + 1) 3 v' (idxs (opn b) (k + 1))) := Lib.hid (by rw [idxs_yes HA.out]; exact Grow.snoc hown')
            have B4 : Hid (Box w4 w.heap.size _) := Lib.hid (Box.grown (Box.drew (hx.out.alloc _)) hgrow (fun j hj => by have := hgr.out.row j hj; omega))
            have G4 : Hid (Below w.heap.size w w4) := Lib.hid (Below.grown (Below.drew (hbel.out.alloc (by omega) _)) hgrow (by simp; omega) (fun j hj => by have := hgr.out.row j hj; omega))
            clear hown' hgrow)
          go_roundw
          case rel => exact ⟨k + 1, _, by omega, rfl, by go_num, R4, B4, G4⟩
          case measure => simp [intOf]; omega
      · have HA := Lib.hid (opn_no hxk hyk hxy)
        clear hxk hyk
        have R3 : Hid (Grow wr (w.heap.size + 1) 3 v (idxs (opn b) (k + 1))) := Lib.hid (by rw [idxs_no HA.out]; exact hgr.out)
        go_wp2_with fail
        go_region
        all_goals
          go_wp2_with fail
          go_roundw
          case rel => exact ⟨k + 1, _, by omega, rfl, by go_num, (by first | exact R3 | exact Lib.hid R3.out.drew), by (refine Lib.hid ?_; (repeat' (first | (with_reducible exact Box.new _ _ _ (by first | omega | (simp; done) | (simp; omega) | (simp only [World.size_alloc, World.size_setCell, World.size_drew] at *; omega))) | (with_reducible refine Box.far ?_ (by first | omega | (simp; done) | (simp; omega) | (simp only [World.size_alloc, World.size_setCell, World.size_drew] at *; omega)) _) | (with_reducible refine Box.alloc ?_ _) | (with_reducible refine Box.drewN ?_ _) | (with_reducible refine Box.drew ?_) | (with_reducible assumption) | (refine Hid.out ?_; with_reducible assumption) | (apply Box.belowD; (with_reducible assumption))))), by (refine Lib.hid ?_; (repeat' (first | (with_reducible exact Below.refl _ _) | (with_reducible refine belS ?_ (by first | omega | (simp; done) | (simp; omega) | (simp only [World.size_alloc, World.size_setCell, World.size_drew] at *; omega))) | (with_reducible refine belA ?_ (by first | omega | (simp; done) | (simp; omega) | (simp only [World.size_alloc, World.size_setCell, World.size_drew] at *; omega))) | (with_reducible refine bel_drewN ?_ _) | (with_reducible refine Below.drew ?_) | (with_reducible assumption) | (refine Hid.out ?_; with_reducible assumption) | (apply belV; (with_reducible assumption); exact (by first | omega | (simp; done) | (simp; omega) | (simp only [World.size_alloc, World.size_setCell, World.size_drew] at *; omega))))))⟩
          case measure => simp [intOf]; omega
    · have hke : k = b.low.length := by omega
      subst hke
      have hbel' := hbel.out
      go_wp2_with fail
      go_ret
      exact SliceEnd.grow (L := kept b) hgr.out (by omega) (kept_bd h5).1 (kept_bd h5).2 (by (repeat' (first | (with_reducible exact Below.refl _ _) | (with_reducible refine belS ?_ (by first | omega | (simp; done) | (simp; omega) | (simp only [World.size_alloc, World.size_setCell, World.size_drew] at *; omega))) | (with_reducible refine belA ?_ (by first | omega | (simp; done) | (simp; omega) | (simp only [World.size_alloc, World.size_setCell, World.size_drew] at *; omega))) | (with_reducible refine bel_drewN ?_ _) | (with_reducible refine Below.drew ?_) | (with_reducible assumption) | (refine Hid.out ?_; with_reducible assumption) | (apply belV; (with_reducible assumption); exact (by first | omega | (simp; done) | (simp; omega) | (simp only [World.size_alloc, World.size_setCell, World.size_drew] at *; omega))))))
set_option maxHeartbeats 2000000 in
set_option maxRecDepth 100000 in
theorem impl_openVars (A0 A1 : Option Addr) (c0 c1 : Nat) (b : PBox) (w : World) (hb : BoxV w A0 A1 c0 c1 b) (hs : SmB b) : Calls Try.prog 89 #[.agg #[.slice A0 b.low.length c0, .slice A1 b.high.length c1]] w (SliceEnd (kept b) w) := by
  obtain ⟨i0, hi0, hz0, hz1, hz2⟩ := info_parts info_int
  have HB := Lib.hid hb; clear hb
  have h5 := hs.five
  have HE := Lib.hid hs.len
  have HS := Lib.hid hs; clear hs
  go_enter Try.func89, Try.ntmps89
  go_wp2_with fail
  refine (impl_widths _ _ _ _ b _ (HB.out.below (by (repeat' (first | (with_reducible exact Below.refl _ _) | (with_reducible refine belS ?_ (by first | omega | (simp; done) | (simp; omega) | (simp only [World.size_alloc, World.size_setCell, World.size_drew] at *; omega))) | (with_reducible refine belA ?_ (by first | omega | (simp; done) | (simp; omega) | (simp only [World.size_alloc, World.size_setCell, World.size_drew] at *; omega))) | (with_reducible refine bel_drewN ?_ _) | (with_reducible refine Below.drew ?_) | (with_reducible assumption) | (refine Hid.out ?_; with_reducible assumption) | (apply belV; (with_reducible assumption); exact (by first | omega | (simp; done) | (simp; omega) | (simp only [World.size_alloc, World.size_setCell, World.size_drew] at *; omega))))))) HS.out).mono ?_
  rintro e w1 ⟨A, d, rfl, ho, hb⟩
  have G1 : Hid (Below w.heap.size w w1) := belU hb (by (repeat' (first | (with_reducible exact Below.refl _ _) | (with_reducible refine belS ?_ (by first | omega | (simp; done) | (simp; omega) | (simp only [World.size_alloc, World.size_setCell, World.size_drew] at *; omega))) | (with_reducible refine belA ?_ (by first | omega | (simp; done) | (simp; omega) | (simp only [World.size_alloc, World.size_setCell, World.size_drew] at *; omega))) | (with_reducible refine bel_drewN ?_ _) | (with_reducible refine Below.drew ?_) | (with_reducible assumption) | (refine Hid.out ?_; with_reducible assumption) | (apply belV; (with_reducible assumption); exact (by first | omega | (simp; done) | (simp; omega) | (simp only [World.size_alloc, World.size_setCell, World.size_drew] at *; omega)))))) (by first | omega | (simp; done) | (simp; omega) | (simp only [World.size_alloc, World.size_setCell, World.size_drew] at *; omega))
  (try simp only [World.size_alloc, World.size_setCell, World.size_drew, World.heap_drewN] at ho)
  have W1 := Lib.hid ho; clear ho
  have X_1 : Hid (Box w1 (w.heap.size) #[.slice A0 b.low.length c0, .slice A1 b.high.length c1]) := Lib.hid (Box.below (by (repeat' (first | (with_reducible exact Box.new _ _ _ (by first | omega | (simp; done) | (simp; omega) | (simp only [World.size_alloc, World.size_setCell, World.size_drew] at *; omega))) | (with_reducible refine Box.far ?_ (by first | omega | (simp; done) | (simp; omega) | (simp only [World.size_alloc, World.size_setCell, World.size_drew] at *; omega)) _) | (with_reducible refine Box.alloc ?_ _) | (with_reducible refine Box.drewN ?_ _) | (with_reducible refine Box.drew ?_) | (with_reducible assumption) | (refine Hid.out ?_; with_reducible assumption) | (apply Box.belowD; (with_reducible assumption))))) hb)
  have yX_1 : w.heap.size < w1.heap.size := X_1.out.1
  obtain ⟨X_1c0, X_1c1⟩ := Box.facts2 X_1.out
  have z1 := hb.size
  (try simp at z1)
  have D1 := Lib.hid hb; clear hb
  go_wp2_with fail
  rw [wid_len] at *
  have hI := OwnS.ints W1.out
  rw [wid_len] at hI
  have HW := Lib.hid hI; clear hI
  have hrng := HS.out.wid.1
  have HR := Lib.hid hrng; clear hrng
  go_loopw [3, 4, 5, 9] (fun s3 s4 s5 s9 wr => ∃ (k : Nat) (v v4 v5 : Value), k ≤ b.low.length ∧ v = s3 ∧ s4 = v4 ∧ s5 = v5 ∧ s9 = .int .i64 k ∧ Hid (Grow wr w1.heap.size 3 v (idxs (opn b) k)) ∧ Hid (Below w1.heap.size w1 wr)) (fun _ _ _ s9 _ => b.low.length - (intOf s9).toNat)
  case atStart => exact ⟨0, _, _, _, by omega, rfl, rfl, rfl, rfl, Lib.hid (by simpa [idxs] using Grow.nil _ _ _), Lib.hid (Below.refl _ _)⟩
  case round =>
    obtain ⟨k, v, v4, v5, hk, rfl, rfl, rfl, rfl, hgr, hbel⟩ := hrel
    have z0 := hbel.out.size
    by_cases hlt : k < b.low.length
    · have HI0 : Ints wr A b.low.length (wid b) := HW.out.below hbel.out
      obtain ⟨b0, of0, x, rfl, hb0, hxk, _, _, hc0⟩ := HI0.at_ hlt
      clear HI0
      rw [wid_at hlt] at hxk
      injection hxk with hxk
      subst hxk
      have hil := idxs_len (opn b) k
      by_cases hxy : 0 < widAt b k
      · have HA := Lib.hid (show opn b k = true by simp [opn, hxy])
        go_wp2_with (
          at_builtin
          refine wpList_append_own _ rfl (.tmp 16) (.tmp 18) 35 rfl w1.heap.size 3 i0 (.int .i64 0) 1 8 Try.underlying35 hi0 hz0 hz1 hz2 rfl (by decide) v _ _ rfl (hgr.out.alloc _).own ⟨wr.heap.size, 0, none⟩ 1 1 [.int .i64 k] rfl rfl ?c1 ?c2 ?c3 ?c4 ?c5 ?_
          case c1 => intro j u hj; (rcases j with _ | j <;> simp at hj); subst hj; simp [go_sem]
          case c2 => intro u hu; simp at hu; subst hu; rfl
          case c3 => unfold maxLen; omega
          case c4 => omega
          case c5 => simp; omega
          intro v' w4 hown' hgrow _
          have R4 : Hid (Grow w4 w1.heap.size 3 v' (idxs (opn b) (k + 1))) := Lib.hid (by rw [idxs_yes HA.out]; exact Grow.snoc hown')
          have G4 : Hid (Below w1.heap.size w1 w4) := Lib.hid (Below.grown (hbel.out.alloc (by omega) _) hgrow (by simp; omega) (fun j hj => by have := hgr.out.row j hj; omega))
          clear hown' hgrow)
        go_roundw
        case rel => exact ⟨k + 1, _, _, _, by omega, rfl, rfl, rfl, by go_num, R4, G4⟩
        case measure => simp [intOf]; omega
      · have HA := Lib.hid (show opn b k = false by simp [opn, hxy])
        have R3 : Hid (Grow wr w1.heap.size 3 v (idxs (opn b) (k + 1))) := Lib.hid (by rw [idxs_no HA.out]; exact hgr.out)
        go_wp2_with fail
        go_roundw
        case rel => exact ⟨k + 1, _, _, _, by omega, rfl, rfl, rfl, by go_num, R3, hbel⟩
        case measure => simp [intOf]; omega
    · have hke : k = b.low.length := by omega
      subst hke
      go_wp2_with fail
      go_ret
      exact SliceEnd.grow (L := kept b) hgr.out (by omega) (kept_bd h5).1 (kept_bd h5).2 (belU hbel.out G1.out (by omega))
end Go.Proofs.Ytejcloanmfkglab
