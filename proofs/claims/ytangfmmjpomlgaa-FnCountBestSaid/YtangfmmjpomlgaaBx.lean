
/-
  Boxes: the range of a row: what the program's functions and the model's return.
-/
import Derived.Test.YtangfmmjpomlgaaPe
set_option linter.unusedSimpArgs false
set_option linter.unusedVariables false
namespace Go.Proofs.Ytangfmmjpomlgaa
open Go.RowKit

def lstT (x l u : Int) : Int := min (wrap64 (x * l)) (wrap64 (x * u))
def grtT (x l u : Int) : Int := max (wrap64 (x * l)) (wrap64 (x * u))
theorem lstT_1 {x l u : Int} (h : wrap64 (x * l) ≤ wrap64 (x * u)) : lstT x l u = wrap64 (x * l) := by unfold lstT; omega
theorem lstT_2 {x l u : Int} (h : wrap64 (x * u) ≤ wrap64 (x * l)) : lstT x l u = wrap64 (x * u) := by unfold lstT; omega
theorem grtT_1 {x l u : Int} (h : wrap64 (x * u) ≤ wrap64 (x * l)) : grtT x l u = wrap64 (x * l) := by unfold grtT; omega
theorem grtT_2 {x l u : Int} (h : wrap64 (x * l) ≤ wrap64 (x * u)) : grtT x l u = wrap64 (x * u) := by unfold grtT; omega
theorem ret_2 {a b c d : Int} (h : a = b) (h' : c = d) : Ending.returned (.tuple #[.int .i64 a, .int .i64 c]) = .returned (.tuple #[.int .i64 b, .int .i64 d]) := by rw [h, h']

set_option maxHeartbeats 1000000 in
theorem impl_termRange (A0 A1 : Option Addr) (c0 c1 : Nat) (b : PBox) (x : Int) (v : Nat) (l u : Int) (w : World) (hb : BoxV w A0 A1 c0 c1 b) (h0 : b.low[v]? = some l) (h1 : b.high[v]? = some u) :
    Calls Try.prog 65 #[.agg #[.slice A0 b.low.length c0, .slice A1 b.high.length c1], .int .i64 x, .int .i64 v] w fun e w' => e = .returned (.tuple #[.int .i64 (lstT x l u), .int .i64 (grtT x l u)]) ∧ Below w.heap.size w w' := by
  have v0 : v < b.low.length := (List.getElem?_eq_some_iff.1 h0).1
  have v1 : v < b.high.length := (List.getElem?_eq_some_iff.1 h1).1
  obtain ⟨b0, o0, l', rfl, hb0, hl, hl1, hl2, hc0⟩ := hb.i0.at_ v0
  obtain ⟨b1, o1, u', rfl, hb1, hu, hu1, hu2, hc1⟩ := hb.i1.at_ v1
  rw [h0] at hl
  rw [h1] at hu
  injection hl with hl
  injection hu with hu
  subst hl hu
  have m0 := Nat.le_trans hb.2.2.1 hb.2.2.2.2.1
  have m1 := Nat.le_trans hb.2.2.2.1 hb.2.2.2.2.2
  unfold maxLen at m0 m1
  clear hb h0 h1
  go_enter Try.func65, Try.ntmps65
  go_wp2_with fail
  go_quiet (fail)
  go_wp2
  all_goals
    go_ret2
    refine ⟨ret_2 ?_ ?_, by (repeat' (first | (with_reducible exact Below.refl _ _) | (with_reducible refine belS ?_ (by first | omega | (simp; done) | (simp; omega) | (simp only [World.size_alloc, World.size_setCell, World.size_drew] at *; omega))) | (with_reducible refine belA ?_ (by first | omega | (simp; done) | (simp; omega) | (simp only [World.size_alloc, World.size_setCell, World.size_drew] at *; omega))) | (with_reducible refine bel_drewN ?_ _) | (with_reducible refine Below.drew ?_) | (with_reducible assumption) | (refine Hid.out ?_; with_reducible assumption) | (apply belV; (with_reducible assumption); exact (by first | omega | (simp; done) | (simp; omega) | (simp only [World.size_alloc, World.size_setCell, World.size_drew] at *; omega)))))⟩
    · first
        | exact (lstT_1 (by omega)).symm
        | exact (lstT_2 (by omega)).symm
    · first
        | exact (grtT_1 (by omega)).symm
        | exact (grtT_2 (by omega)).symm

def lstK (cs : List Int) (b : PBox) (k : Nat) (n : Int) : Int := wrap64 (n + lstT (cs.getD k 0) (b.low.getD k 0) (b.high.getD k 0))
def grtK (cs : List Int) (b : PBox) (k : Nat) (n : Int) : Int := wrap64 (n + grtT (cs.getD k 0) (b.low.getD k 0) (b.high.getD k 0))
def leastW (cs : List Int) (b : PBox) : Int := fold (lstK cs b) cs.length
def greatW (cs : List Int) (b : PBox) : Int := fold (grtK cs b) cs.length
theorem lstK_step {cs : List Int} {b : PBox} {k : Nat} {x l u : Int} (hx : cs[k]? = some x) (hl : b.low[k]? = some l) (hu : b.high[k]? = some u) : wrap64 (fold (lstK cs b) k + lstT x l u) = fold (lstK cs b) (k + 1) := by
  show _ = lstK cs b k (fold (lstK cs b) k)
  unfold lstK; rw [getD_of hx, getD_of hl, getD_of hu]
theorem grtK_step {cs : List Int} {b : PBox} {k : Nat} {x l u : Int} (hx : cs[k]? = some x) (hl : b.low[k]? = some l) (hu : b.high[k]? = some u) : wrap64 (fold (grtK cs b) k + grtT x l u) = fold (grtK cs b) (k + 1) := by
  show _ = grtK cs b k (fold (grtK cs b) k)
  unfold grtK; rw [getD_of hx, getD_of hl, getD_of hu]
theorem get_of {xs : List Int} {k : Nat} (h : k < xs.length) : ∃ x, xs[k]? = some x := ⟨_, List.getElem?_eq_getElem h⟩
theorem BoxV.small {w : World} {A0 A1 : Option Addr} {c0 c1 : Nat} {b : PBox} (h : BoxV w A0 A1 c0 c1 b) : b.low.length ≤ maxLen ∧ b.high.length ≤ maxLen := ⟨Nat.le_trans h.2.2.1 h.2.2.2.2.1, Nat.le_trans h.2.2.2.1 h.2.2.2.2.2⟩

set_option maxHeartbeats 1000000 in
set_option maxRecDepth 100000 in
theorem impl_rowRange (A0 A1 A : Option Addr) (c0 c1 c : Nat) (b : PBox) (r : PRow) (w : World) (hb : BoxV w A0 A1 c0 c1 b) (hr : RowV w A c r) (h0 : r.cs.length ≤ b.low.length) (h1 : r.cs.length ≤ b.high.length) :
    Calls Try.prog 47 #[.agg #[.slice A0 b.low.length c0, .slice A1 b.high.length c1], .agg #[.slice A r.cs.length c, .int .i64 r.s, .int .i64 r.b]] w
      fun e w' => e = .returned (.tuple #[.int .i64 (leastW r.cs b), .int .i64 (greatW r.cs b)]) ∧ Below w.heap.size w w' := by
  have hsm := hr.small
  unfold maxLen at hsm
  have HB := Lib.hid hb; clear hb
  have HR := Lib.hid hr; clear hr
  go_enter Try.func47, Try.ntmps47
  go_wp2_with fail
  go_loopw [6, 7, 8, 9, 10, 11, 15] (fun s6 s7 s8 s9 s10 s11 s15 wr => ∃ (k : Nat) (u1 u2 u3 u4 : Value), k ≤ r.cs.length ∧ s6 = .int .i64 (fold (lstK r.cs b) k) ∧ s7 = .int .i64 (fold (grtK r.cs b) k) ∧ u1 = s8 ∧ u2 = s9 ∧ u3 = s10 ∧ u4 = s11 ∧ s15 = .int .i64 k ∧
      Hid (Box wr w.heap.size #[.slice A0 b.low.length c0, .slice A1 b.high.length c1]) ∧ Hid (Box wr (w.heap.size + 1) #[.slice A r.cs.length c, .int .i64 r.s, .int .i64 r.b]) ∧ Hid (Below w.heap.size w wr)) (fun _ _ _ _ _ _ s15 _ => r.cs.length - (intOf s15).toNat)
  case atStart => exact ⟨0, _, _, _, _, by omega, rfl, rfl, rfl, rfl, rfl, rfl, rfl, by (refine Lib.hid ?_; (repeat' (first | (with_reducible exact Box.new _ _ _ (by first | omega | (simp; done) | (simp; omega) | (simp only [World.size_alloc, World.size_setCell, World.size_drew] at *; omega))) | (with_reducible refine Box.far ?_ (by first | omega | (simp; done) | (simp; omega) | (simp only [World.size_alloc, World.size_setCell, World.size_drew] at *; omega)) _) | (apply Box.put3_0) | (apply Box.put3_1) | (apply Box.put3_2) | (apply Box.put2_0) | (apply Box.put2_1) | (with_reducible refine Box.alloc ?_ _) | (with_reducible refine Box.drewN ?_ _) | (with_reducible refine Box.drew ?_) | (with_reducible assumption) | (refine Hid.out ?_; with_reducible assumption) | (apply Box.only; (with_reducible assumption); exact (by first | omega | (simp; done) | (simp; omega) | (simp only [World.size_alloc, World.size_setCell, World.size_drew] at *; omega))) | (apply Box.belowD; (with_reducible assumption))))), by (refine Lib.hid ?_; (repeat' (first | (with_reducible exact Box.new _ _ _ (by first | omega | (simp; done) | (simp; omega) | (simp only [World.size_alloc, World.size_setCell, World.size_drew] at *; omega))) | (with_reducible refine Box.far ?_ (by first | omega | (simp; done) | (simp; omega) | (simp only [World.size_alloc, World.size_setCell, World.size_drew] at *; omega)) _) | (apply Box.put3_0) | (apply Box.put3_1) | (apply Box.put3_2) | (apply Box.put2_0) | (apply Box.put2_1) | (with_reducible refine Box.alloc ?_ _) | (with_reducible refine Box.drewN ?_ _) | (with_reducible refine Box.drew ?_) | (with_reducible assumption) | (refine Hid.out ?_; with_reducible assumption) | (apply Box.only; (with_reducible assumption); exact (by first | omega | (simp; done) | (simp; omega) | (simp only [World.size_alloc, World.size_setCell, World.size_drew] at *; omega))) | (apply Box.belowD; (with_reducible assumption))))), by (refine Lib.hid ?_; (repeat' (first | (with_reducible exact Below.refl _ _) | (with_reducible refine belS ?_ (by first | omega | (simp; done) | (simp; omega) | (simp only [World.size_alloc, World.size_setCell, World.size_drew] at *; omega))) | (with_reducible refine belA ?_ (by first | omega | (simp; done) | (simp; omega) | (simp only [World.size_alloc, World.size_setCell, World.size_drew] at *; omega))) | (with_reducible refine bel_drewN ?_ _) | (with_reducible refine Below.drew ?_) | (with_reducible assumption) | (refine Hid.out ?_; with_reducible assumption) | (apply belV; (with_reducible assumption); exact (by first | omega | (simp; done) | (simp; omega) | (simp only [World.size_alloc, World.size_setCell, World.size_drew] at *; omega))))))⟩
  case round =>
    obtain ⟨k, u1, u2, u3, u4, hk, rfl, rfl, rfl, rfl, rfl, rfl, rfl, hX, hY, hbel⟩ := hrel
    have z0 := hY.out.1
    obtain ⟨x0, x1⟩ := Box.facts2 hX.out
    obtain ⟨y0, y1, y2⟩ := Box.facts3 hY.out
    by_cases hlt : k < r.cs.length
    · obtain ⟨bb, off, x, rfl, hb1, hx, hlo, hhi, hc⟩ := (HR.out.i.below hbel.out).at_ hlt
      obtain ⟨l, hl⟩ := get_of (show k < b.low.length by omega)
      obtain ⟨u, hu⟩ := get_of (show k < b.high.length by omega)
      have S1 := Lib.hid (lstK_step hx hl hu)
      have S2 := Lib.hid (grtK_step hx hl hu)
      have L := Lib.hid hl; clear hl
      have U := Lib.hid hu; clear hu
      clear hx
      go_wp2_with fail
      refine (impl_termRange _ _ _ _ b _ k l u _ (HB.out.below hbel.out) L.out U.out).mono ?_
      rintro e w1 ⟨rfl, hb2⟩
      have G1 : Hid (Below w.heap.size w w1) := belU hb2 (by (repeat' (first | (with_reducible exact Below.refl _ _) | (with_reducible refine belS ?_ (by first | omega | (simp; done) | (simp; omega) | (simp only [World.size_alloc, World.size_setCell, World.size_drew] at *; omega))) | (with_reducible refine belA ?_ (by first | omega | (simp; done) | (simp; omega) | (simp only [World.size_alloc, World.size_setCell, World.size_drew] at *; omega))) | (with_reducible refine bel_drewN ?_ _) | (with_reducible refine Below.drew ?_) | (with_reducible assumption) | (refine Hid.out ?_; with_reducible assumption) | (apply belV; (with_reducible assumption); exact (by first | omega | (simp; done) | (simp; omega) | (simp only [World.size_alloc, World.size_setCell, World.size_drew] at *; omega)))))) (by first | omega | (simp; done) | (simp; omega) | (simp only [World.size_alloc, World.size_setCell, World.size_drew] at *; omega))
      have X1 : Hid (Box w1 w.heap.size _) := hX.out.below hb2
      have Y1 : Hid (Box w1 (w.heap.size + 1) _) := hY.out.below hb2
      clear hb2
      go_wp2_with fail
      go_roundw
      case rel => exact ⟨k + 1, _, _, _, _, by omega, by rw [S1.out], by rw [S2.out], rfl, rfl, rfl, rfl, by go_num, X1, Y1, G1⟩
      case measure => simp [intOf]; omega
    · have hke : k = r.cs.length := by omega
      subst hke
      have hbel' := hbel.out
      go_wp2_with fail
      go_ret2
      exact ⟨rfl, by (repeat' (first | (with_reducible exact Below.refl _ _) | (with_reducible refine belS ?_ (by first | omega | (simp; done) | (simp; omega) | (simp only [World.size_alloc, World.size_setCell, World.size_drew] at *; omega))) | (with_reducible refine belA ?_ (by first | omega | (simp; done) | (simp; omega) | (simp only [World.size_alloc, World.size_setCell, World.size_drew] at *; omega))) | (with_reducible refine bel_drewN ?_ _) | (with_reducible refine Below.drew ?_) | (with_reducible assumption) | (refine Hid.out ?_; with_reducible assumption) | (apply belV; (with_reducible assumption); exact (by first | omega | (simp; done) | (simp; omega) | (simp only [World.size_alloc, World.size_setCell, World.size_drew] at *; omega)))))⟩
end Go.Proofs.Ytangfmmjpomlgaa
