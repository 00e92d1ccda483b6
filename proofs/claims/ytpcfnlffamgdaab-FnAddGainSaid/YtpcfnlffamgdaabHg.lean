
/-
  Gains: what is valid, and one more gain.
-/
import Derived.Test.YtpcfnlffamgdaabPd
set_option linter.unusedSimpArgs false
set_option linter.unusedVariables false
namespace Go.Proofs.Ytpcfnlffamgdaab
open Go.RowKit

theorem Box.put4_0 {w : World} {b : Nat} {x y z u v : Value} (h : Box w b #[x, y, z, u]) : Box (w.setCell ⟨b, 0, none⟩ v) b #[v, y, z, u] := h.put (i := 0) (by simp) v
theorem Box.put4_1 {w : World} {b : Nat} {x y z u v : Value} (h : Box w b #[x, y, z, u]) : Box (w.setCell ⟨b, 1, none⟩ v) b #[x, v, z, u] := h.put (i := 1) (by simp) v
theorem Box.put4_2 {w : World} {b : Nat} {x y z u v : Value} (h : Box w b #[x, y, z, u]) : Box (w.setCell ⟨b, 2, none⟩ v) b #[x, y, v, u] := h.put (i := 2) (by simp) v
theorem Box.put4_3 {w : World} {b : Nat} {x y z u v : Value} (h : Box w b #[x, y, z, u]) : Box (w.setCell ⟨b, 3, none⟩ v) b #[x, y, z, v] := h.put (i := 3) (by simp) v

structure PGain where
  u : Int
  us : Int
  d : Int
  ds : Int
def vSum (s n : Int) : Bool := inB n 0 999 && inB s 0 (n * 999)
def vGain (g : PGain) : Bool := vSum g.us g.u && vSum g.ds g.d
theorem vSum_1 {s n : Int} (h : inB n 0 999 = false) : vSum s n = false := by simp [vSum, h]
theorem vSum_2 {s n : Int} (h : inB n 0 999 = true) : vSum s n = inB s 0 (n * 999) := by simp [vSum, h]
theorem vGain_1 {g : PGain} (h : vSum g.us g.u = false) : vGain g = false := by simp [vGain, h]
theorem vGain_2 {g : PGain} (h : vSum g.us g.u = true) : vGain g = vSum g.ds g.d := by simp [vGain, h]
theorem vGain_bd {g : PGain} (h : vGain g = true) : (0 ≤ g.u ∧ g.u ≤ 999) ∧ (0 ≤ g.us ∧ g.us ≤ 998001) ∧ (0 ≤ g.d ∧ g.d ≤ 999) ∧ (0 ≤ g.ds ∧ g.ds ≤ 998001) := by
  simp only [vGain, vSum, Bool.and_eq_true, inB_iff] at h
  omega
theorem vGain_s {g : PGain} : vGain g = (((inB g.u 0 999 && inB g.d 0 999) && inB g.us 0 (g.u * 999)) && inB g.ds 0 (g.d * 999)) := by
  unfold vGain vSum
  cases inB g.u 0 999 <;> cases inB g.d 0 999 <;> cases inB g.us 0 (g.u * 999) <;> rfl
/-- One more gain. -/
def oneMore (g : PGain) (up : Bool) (x : Int) : PGain := if up then ⟨g.u + 1, g.us + x, g.d, g.ds⟩ else ⟨g.u, g.us, g.d + 1, g.ds + x⟩
def addOk (g : PGain) (up : Bool) (x : Int) : Bool := (vGain g && inB x 0 999) && vGain (oneMore g up x)
def addG (g : PGain) (up : Bool) (x : Int) : PGain := if addOk g up x then oneMore g up x else ⟨0, 0, 0, 0⟩
def PGain.val (g : PGain) : Value := .agg #[.int .i64 g.u, .int .i64 g.us, .int .i64 g.d, .int .i64 g.ds]
theorem add_1 {g : PGain} {up : Bool} {x : Int} (h : vGain g = false) : addOk g up x = false := by simp [addOk, h]
theorem add_2 {g : PGain} {up : Bool} {x : Int} (h : inB x 0 999 = false) : addOk g up x = false := by simp [addOk, h]
theorem add_3 {g : PGain} {up : Bool} {x : Int} (h1 : vGain g = true) (h2 : inB x 0 999 = true) : addOk g up x = vGain (oneMore g up x) := by simp [addOk, h1, h2]
theorem addG_no {g : PGain} {up : Bool} {x : Int} (h : addOk g up x = false) : addG g up x = ⟨0, 0, 0, 0⟩ := by simp [addG, h]
theorem addG_yes {g : PGain} {up : Bool} {x : Int} (h : addOk g up x = true) : addG g up x = oneMore g up x := by simp [addG, h]
def AddEnd (g : PGain) (up : Bool) (x : Int) (w : World) (e : Ending) (w' : World) : Prop := e = .returned (.tuple #[(addG g up x).val, .bool (addOk g up x)]) ∧ Below w.heap.size w w'
theorem AddEnd.no {g : PGain} {up : Bool} {x : Int} {w w' : World} (h : addOk g up x = false) (hb : Below w.heap.size w w') : AddEnd g up x w (.returned (.tuple #[.agg #[.int .i64 0, .int .i64 0, .int .i64 0, .int .i64 0], .bool false])) w' := ⟨by rw [addG_no h, h]; rfl, hb⟩
theorem AddEnd.up {g : PGain} {x : Int} {w w' : World} (h : addOk g true x = true) (hb : Below w.heap.size w w') : AddEnd g true x w (.returned (.tuple #[.agg #[.int .i64 (g.u + 1), .int .i64 (g.us + x), .int .i64 g.d, .int .i64 g.ds], .bool true])) w' := ⟨by rw [addG_yes h, h]; rfl, hb⟩
theorem AddEnd.down {g : PGain} {x : Int} {w w' : World} (h : addOk g false x = true) (hb : Below w.heap.size w w') : AddEnd g false x w (.returned (.tuple #[.agg #[.int .i64 g.u, .int .i64 g.us, .int .i64 (g.d + 1), .int .i64 (g.ds + x)], .bool true])) w' := ⟨by rw [addG_yes h, h]; rfl, hb⟩

set_option maxHeartbeats 1000000 in
theorem impl_validSum (s n : Int) (w : World) : Calls Try.prog 100 #[.int .i64 s, .int .i64 n] w fun e w' => e = .returned (.bool (vSum s n)) ∧ w = w' := by
  cases h : inB n 0 999
  · have E := Lib.hid (vSum_1 (s := s) h)
    go_enter Try.func100, Try.ntmps100
    go_wp2_with (go_at_call 67; ((with_reducible refine (impl_inRange _ _ _ _).mono ?_); rintro e w' ⟨rfl, rfl⟩))
    go_ret
    exact ⟨ret_b E.out.symm, rfl⟩
  · have E := Lib.hid (vSum_2 (s := s) h)
    have hb := inB_iff.1 h
    have hw : IntKind.i64.wrap (n * 999) = n * 999 := IntWalk.i64_in _ ⟨by omega, by omega⟩
    clear hb
    go_enter Try.func100, Try.ntmps100
    go_wp2_with (go_at_call 67; ((with_reducible refine (impl_inRange _ _ _ _).mono ?_); rintro e w' ⟨rfl, rfl⟩))
    go_ret
    exact ⟨ret_b E.out.symm, rfl⟩
set_option maxHeartbeats 2000000 in
theorem impl_gvalid (g : PGain) (w : World) : Calls Try.prog 66 #[.agg #[.int .i64 g.u, .int .i64 g.us, .int .i64 g.d, .int .i64 g.ds]] w fun e w' => e = .returned (.bool (vGain g)) ∧ Below w.heap.size w w' := by
  cases h : vSum g.us g.u
  · have E := Lib.hid (vGain_1 h)
    go_enter Try.func66, Try.ntmps66
    go_wp2_with (go_at_call 100; ((with_reducible refine (impl_validSum _ _ _).mono ?_); rintro e w' ⟨rfl, rfl⟩))
    go_ret
    exact ⟨ret_b E.out.symm, by (repeat' (first | (with_reducible exact Below.refl _ _) | (with_reducible refine belS ?_ (by first | omega | (simp; done) | (simp; omega) | (simp only [World.size_alloc, World.size_setCell, World.size_drew] at *; omega))) | (with_reducible refine belA ?_ (by first | omega | (simp; done) | (simp; omega) | (simp only [World.size_alloc, World.size_setCell, World.size_drew] at *; omega))) | (with_reducible refine bel_drewN ?_ _) | (with_reducible refine Below.drew ?_) | (with_reducible assumption) | (refine Hid.out ?_; with_reducible assumption) | (apply belV; (with_reducible assumption); exact (by first | omega | (simp; done) | (simp; omega) | (simp only [World.size_alloc, World.size_setCell, World.size_drew] at *; omega)))))⟩
  · have E := Lib.hid (vGain_2 h)
    go_enter Try.func66, Try.ntmps66
    go_wp2_with (go_at_call 100; ((with_reducible refine (impl_validSum _ _ _).mono ?_); rintro e w' ⟨rfl, rfl⟩))
    go_ret
    exact ⟨ret_b E.out.symm, by (repeat' (first | (with_reducible exact Below.refl _ _) | (with_reducible refine belS ?_ (by first | omega | (simp; done) | (simp; omega) | (simp only [World.size_alloc, World.size_setCell, World.size_drew] at *; omega))) | (with_reducible refine belA ?_ (by first | omega | (simp; done) | (simp; omega) | (simp only [World.size_alloc, World.size_setCell, World.size_drew] at *; omega))) | (with_reducible refine bel_drewN ?_ _) | (with_reducible refine Below.drew ?_) | (with_reducible assumption) | (refine Hid.out ?_; with_reducible assumption) | (apply belV; (with_reducible assumption); exact (by first | omega | (simp; done) | (simp; omega) | (simp only [World.size_alloc, World.size_setCell, World.size_drew] at *; omega)))))⟩
set_option maxHeartbeats 2000000 in
theorem spec_validGains (g : PGain) (w : World) : Calls Try.prog 68 #[.agg #[.int .i64 g.u, .int .i64 g.us, .int .i64 g.d, .int .i64 g.ds]] w fun e w' => e = .returned (.bool (vGain g)) ∧ Below w.heap.size w w' := by
  have E := Lib.hid (vGain_s (g := g))
  cases h1 : inB g.u 0 999
  · rw [h1] at E
    go_enter Try.func68, Try.ntmps68
    go_wp2_with (go_at_call 69; ((with_reducible refine (spec_inRange _ _ _ _).mono ?_); rintro e w' ⟨rfl, rfl⟩))
    go_ret
    exact ⟨ret_b (by rw [E.out]; simp), by (repeat' (first | (with_reducible exact Below.refl _ _) | (with_reducible refine belS ?_ (by first | omega | (simp; done) | (simp; omega) | (simp only [World.size_alloc, World.size_setCell, World.size_drew] at *; omega))) | (with_reducible refine belA ?_ (by first | omega | (simp; done) | (simp; omega) | (simp only [World.size_alloc, World.size_setCell, World.size_drew] at *; omega))) | (with_reducible refine bel_drewN ?_ _) | (with_reducible refine Below.drew ?_) | (with_reducible assumption) | (refine Hid.out ?_; with_reducible assumption) | (apply belV; (with_reducible assumption); exact (by first | omega | (simp; done) | (simp; omega) | (simp only [World.size_alloc, World.size_setCell, World.size_drew] at *; omega)))))⟩
  cases h2 : inB g.d 0 999
  · rw [h1, h2] at E
    go_enter Try.func68, Try.ntmps68
    go_wp2_with (go_at_call 69; ((with_reducible refine (spec_inRange _ _ _ _).mono ?_); rintro e w' ⟨rfl, rfl⟩))
    go_ret
    exact ⟨ret_b (by rw [E.out]; simp), by (repeat' (first | (with_reducible exact Below.refl _ _) | (with_reducible refine belS ?_ (by first | omega | (simp; done) | (simp; omega) | (simp only [World.size_alloc, World.size_setCell, World.size_drew] at *; omega))) | (with_reducible refine belA ?_ (by first | omega | (simp; done) | (simp; omega) | (simp only [World.size_alloc, World.size_setCell, World.size_drew] at *; omega))) | (with_reducible refine bel_drewN ?_ _) | (with_reducible refine Below.drew ?_) | (with_reducible assumption) | (refine Hid.out ?_; with_reducible assumption) | (apply belV; (with_reducible assumption); exact (by first | omega | (simp; done) | (simp; omega) | (simp only [World.size_alloc, World.size_setCell, World.size_drew] at *; omega)))))⟩
  have b1 := inB_iff.1 h1
  have b2 := inB_iff.1 h2
  have hw1 : IntKind.i64.wrap (g.u * 999) = g.u * 999 := IntWalk.i64_in _ ⟨by omega, by omega⟩
  have hw2 : IntKind.i64.wrap (g.d * 999) = g.d * 999 := IntWalk.i64_in _ ⟨by omega, by omega⟩
  clear b1 b2
  cases h3 : inB g.us 0 (g.u * 999)
  · rw [h1, h2, h3] at E
    go_enter Try.func68, Try.ntmps68
    go_wp2_with (go_at_call 69; ((with_reducible refine (spec_inRange _ _ _ _).mono ?_); rintro e w' ⟨rfl, rfl⟩))
    go_ret
    exact ⟨ret_b (by rw [E.out]; simp), by (repeat' (first | (with_reducible exact Below.refl _ _) | (with_reducible refine belS ?_ (by first | omega | (simp; done) | (simp; omega) | (simp only [World.size_alloc, World.size_setCell, World.size_drew] at *; omega))) | (with_reducible refine belA ?_ (by first | omega | (simp; done) | (simp; omega) | (simp only [World.size_alloc, World.size_setCell, World.size_drew] at *; omega))) | (with_reducible refine bel_drewN ?_ _) | (with_reducible refine Below.drew ?_) | (with_reducible assumption) | (refine Hid.out ?_; with_reducible assumption) | (apply belV; (with_reducible assumption); exact (by first | omega | (simp; done) | (simp; omega) | (simp only [World.size_alloc, World.size_setCell, World.size_drew] at *; omega)))))⟩
  · rw [h1, h2, h3] at E
    go_enter Try.func68, Try.ntmps68
    go_wp2_with (go_at_call 69; ((with_reducible refine (spec_inRange _ _ _ _).mono ?_); rintro e w' ⟨rfl, rfl⟩))
    go_ret
    exact ⟨ret_b (by rw [E.out]; simp), by (repeat' (first | (with_reducible exact Below.refl _ _) | (with_reducible refine belS ?_ (by first | omega | (simp; done) | (simp; omega) | (simp only [World.size_alloc, World.size_setCell, World.size_drew] at *; omega))) | (with_reducible refine belA ?_ (by first | omega | (simp; done) | (simp; omega) | (simp only [World.size_alloc, World.size_setCell, World.size_drew] at *; omega))) | (with_reducible refine bel_drewN ?_ _) | (with_reducible refine Below.drew ?_) | (with_reducible assumption) | (refine Hid.out ?_; with_reducible assumption) | (apply belV; (with_reducible assumption); exact (by first | omega | (simp; done) | (simp; omega) | (simp only [World.size_alloc, World.size_setCell, World.size_drew] at *; omega)))))⟩

set_option maxHeartbeats 4000000 in
set_option maxRecDepth 100000 in
theorem impl_AddGain (g : PGain) (up : Bool) (x : Int) (w : World) : Calls Try.prog 16 #[.agg #[.int .i64 g.u, .int .i64 g.us, .int .i64 g.d, .int .i64 g.ds], .bool up, .int .i64 x] w (AddEnd g up x w) := by
  cases h1 : vGain g
  · have E := Lib.hid (add_1 (up := up) (x := x) h1)
    go_enter Try.func16, Try.ntmps16
    go_wp2_with fail
    refine (impl_gvalid g _).mono ?_
    rintro e w1 ⟨rfl, hb⟩
    have G1 : Hid (Below w.heap.size w w1) := belU hb (by (repeat' (first | (with_reducible exact Below.refl _ _) | (with_reducible refine belS ?_ (by first | omega | (simp; done) | (simp; omega) | (simp only [World.size_alloc, World.size_setCell, World.size_drew] at *; omega))) | (with_reducible refine belA ?_ (by first | omega | (simp; done) | (simp; omega) | (simp only [World.size_alloc, World.size_setCell, World.size_drew] at *; omega))) | (with_reducible refine bel_drewN ?_ _) | (with_reducible refine Below.drew ?_) | (with_reducible assumption) | (refine Hid.out ?_; with_reducible assumption) | (apply belV; (with_reducible assumption); exact (by first | omega | (simp; done) | (simp; omega) | (simp only [World.size_alloc, World.size_setCell, World.size_drew] at *; omega)))))) (by first | omega | (simp; done) | (simp; omega) | (simp only [World.size_alloc, World.size_setCell, World.size_drew] at *; omega))
    have G_1 : Hid (Box w1 (w.heap.size) #[.int .i64 g.u, .int .i64 g.us, .int .i64 g.d, .int .i64 g.ds]) := Lib.hid (Box.below (by (repeat' (first | (with_reducible exact Box.new _ _ _ (by first | omega | (simp; done) | (simp; omega) | (simp only [World.size_alloc, World.size_setCell, World.size_drew] at *; omega))) | (with_reducible refine Box.far ?_ (by first | omega | (simp; done) | (simp; omega) | (simp only [World.size_alloc, World.size_setCell, World.size_drew] at *; omega)) _) | (apply Box.put3_0) | (apply Box.put3_1) | (apply Box.put3_2) | (apply Box.put4_0) | (apply Box.put4_1) | (apply Box.put4_2) | (apply Box.put4_3) | (apply Box.put2_0) | (apply Box.put2_1) | (with_reducible refine Box.alloc ?_ _) | (with_reducible refine Box.drewN ?_ _) | (with_reducible refine Box.drew ?_) | (with_reducible assumption) | (refine Hid.out ?_; with_reducible assumption) | (apply Box.only; (with_reducible assumption); exact (by first | omega | (simp; done) | (simp; omega) | (simp only [World.size_alloc, World.size_setCell, World.size_drew] at *; omega))) | (apply Box.belowD; (with_reducible assumption))))) hb)
    have yG_1 : w.heap.size < w1.heap.size := G_1.out.1
    obtain ⟨G_1c0, G_1c1, G_1c2, G_1c3⟩ := Box.facts4 G_1.out
    have G_1f0 := Box.frz G_1.out 0 (by first | decide | simp)
    have G_1f1 := Box.frz G_1.out 1 (by first | decide | simp)
    have G_1f2 := Box.frz G_1.out 2 (by first | decide | simp)
    have G_1f3 := Box.frz G_1.out 3 (by first | decide | simp)
    have R_1 : Hid (Box w1 (w.heap.size + 1) #[.int .i64 0, .int .i64 0, .int .i64 0, .int .i64 0]) := Lib.hid (Box.below (by (repeat' (first | (with_reducible exact Box.new _ _ _ (by first | omega | (simp; done) | (simp; omega) | (simp only [World.size_alloc, World.size_setCell, World.size_drew] at *; omega))) | (with_reducible refine Box.far ?_ (by first | omega | (simp; done) | (simp; omega) | (simp only [World.size_alloc, World.size_setCell, World.size_drew] at *; omega)) _) | (apply Box.put3_0) | (apply Box.put3_1) | (apply Box.put3_2) | (apply Box.put4_0) | (apply Box.put4_1) | (apply Box.put4_2) | (apply Box.put4_3) | (apply Box.put2_0) | (apply Box.put2_1) | (with_reducible refine Box.alloc ?_ _) | (with_reducible refine Box.drewN ?_ _) | (with_reducible refine Box.drew ?_) | (with_reducible assumption) | (refine Hid.out ?_; with_reducible assumption) | (apply Box.only; (with_reducible assumption); exact (by first | omega | (simp; done) | (simp; omega) | (simp only [World.size_alloc, World.size_setCell, World.size_drew] at *; omega))) | (apply Box.belowD; (with_reducible assumption))))) hb)
    have yR_1 : w.heap.size + 1 < w1.heap.size := R_1.out.1
    obtain ⟨R_1c0, R_1c1, R_1c2, R_1c3⟩ := Box.facts4 R_1.out
    have R_1f0 := Box.frz R_1.out 0 (by first | decide | simp)
    have R_1f1 := Box.frz R_1.out 1 (by first | decide | simp)
    have R_1f2 := Box.frz R_1.out 2 (by first | decide | simp)
    have R_1f3 := Box.frz R_1.out 3 (by first | decide | simp)
    have z1 := hb.size
    (try simp at z1)
    have D1 := Lib.hid hb; clear hb
    rw [h1]
    go_wp2_with fail
    refine bodyPost_ret (v := .tuple #[.agg #[.int .i64 0, .int .i64 0, .int .i64 0, .int .i64 0], .bool false]) (by simp [results, Try.results16, go_sem, *]) rfl (AddEnd.no E.out (by (repeat' (first | (with_reducible exact Below.refl _ _) | (with_reducible refine belS ?_ (by first | omega | (simp; done) | (simp; omega) | (simp only [World.size_alloc, World.size_setCell, World.size_drew] at *; omega))) | (with_reducible refine belA ?_ (by first | omega | (simp; done) | (simp; omega) | (simp only [World.size_alloc, World.size_setCell, World.size_drew] at *; omega))) | (with_reducible refine bel_drewN ?_ _) | (with_reducible refine Below.drew ?_) | (with_reducible assumption) | (refine Hid.out ?_; with_reducible assumption) | (apply belV; (with_reducible assumption); exact (by first | omega | (simp; done) | (simp; omega) | (simp only [World.size_alloc, World.size_setCell, World.size_drew] at *; omega)))))))
  cases h2 : inB x 0 999
  · have E := Lib.hid (add_2 (g := g) (up := up) h2)
    go_enter Try.func16, Try.ntmps16
    go_wp2_with fail
    refine (impl_gvalid g _).mono ?_
    rintro e w1 ⟨rfl, hb⟩
    have G1 : Hid (Below w.heap.size w w1) := belU hb (by (repeat' (first | (with_reducible exact Below.refl _ _) | (with_reducible refine belS ?_ (by first | omega | (simp; done) | (simp; omega) | (simp only [World.size_alloc, World.size_setCell, World.size_drew] at *; omega))) | (with_reducible refine belA ?_ (by first | omega | (simp; done) | (simp; omega) | (simp only [World.size_alloc, World.size_setCell, World.size_drew] at *; omega))) | (with_reducible refine bel_drewN ?_ _) | (with_reducible refine Below.drew ?_) | (with_reducible assumption) | (refine Hid.out ?_; with_reducible assumption) | (apply belV; (with_reducible assumption); exact (by first | omega | (simp; done) | (simp; omega) | (simp only [World.size_alloc, World.size_setCell, World.size_drew] at *; omega)))))) (by first | omega | (simp; done) | (simp; omega) | (simp only [World.size_alloc, World.size_setCell, World.size_drew] at *; omega))
    have G_1 : Hid (Box w1 (w.heap.size) #[.int .i64 g.u, .int .i64 g.us, .int .i64 g.d, .int .i64 g.ds]) := Lib.hid (Box.below (by (repeat' (first | (with_reducible exact Box.new _ _ _ (by first | omega | (simp; done) | (simp; omega) | (simp only [World.size_alloc, World.size_setCell, World.size_drew] at *; omega))) | (with_reducible refine Box.far ?_ (by first | omega | (simp; done) | (simp; omega) | (simp only [World.size_alloc, World.size_setCell, World.size_drew] at *; omega)) _) | (apply Box.put3_0) | (apply Box.put3_1) | (apply Box.put3_2) | (apply Box.put4_0) | (apply Box.put4_1) | (apply Box.put4_2) | (apply Box.put4_3) | (apply Box.put2_0) | (apply Box.put2_1) | (with_reducible refine Box.alloc ?_ _) | (with_reducible refine Box.drewN ?_ _) | (with_reducible refine Box.drew ?_) | (with_reducible assumption) | (refine Hid.out ?_; with_reducible assumption) | (apply Box.only; (with_reducible assumption); exact (by first | omega | (simp; done) | (simp; omega) | (simp only [World.size_alloc, World.size_setCell, World.size_drew] at *; omega))) | (apply Box.belowD; (with_reducible assumption))))) hb)
    have yG_1 : w.heap.size < w1.heap.size := G_1.out.1
    obtain ⟨G_1c0, G_1c1, G_1c2, G_1c3⟩ := Box.facts4 G_1.out
    have G_1f0 := Box.frz G_1.out 0 (by first | decide | simp)
    have G_1f1 := Box.frz G_1.out 1 (by first | decide | simp)
    have G_1f2 := Box.frz G_1.out 2 (by first | decide | simp)
    have G_1f3 := Box.frz G_1.out 3 (by first | decide | simp)
    have R_1 : Hid (Box w1 (w.heap.size + 1) #[.int .i64 0, .int .i64 0, .int .i64 0, .int .i64 0]) := Lib.hid (Box.below (by (repeat' (first | (with_reducible exact Box.new _ _ _ (by first | omega | (simp; done) | (simp; omega) | (simp only [World.size_alloc, World.size_setCell, World.size_drew] at *; omega))) | (with_reducible refine Box.far ?_ (by first | omega | (simp; done) | (simp; omega) | (simp only [World.size_alloc, World.size_setCell, World.size_drew] at *; omega)) _) | (apply Box.put3_0) | (apply Box.put3_1) | (apply Box.put3_2) | (apply Box.put4_0) | (apply Box.put4_1) | (apply Box.put4_2) | (apply Box.put4_3) | (apply Box.put2_0) | (apply Box.put2_1) | (with_reducible refine Box.alloc ?_ _) | (with_reducible refine Box.drewN ?_ _) | (with_reducible refine Box.drew ?_) | (with_reducible assumption) | (refine Hid.out ?_; with_reducible assumption) | (apply Box.only; (with_reducible assumption); exact (by first | omega | (simp; done) | (simp; omega) | (simp only [World.size_alloc, World.size_setCell, World.size_drew] at *; omega))) | (apply Box.belowD; (with_reducible assumption))))) hb)
    have yR_1 : w.heap.size + 1 < w1.heap.size := R_1.out.1
    obtain ⟨R_1c0, R_1c1, R_1c2, R_1c3⟩ := Box.facts4 R_1.out
    have R_1f0 := Box.frz R_1.out 0 (by first | decide | simp)
    have R_1f1 := Box.frz R_1.out 1 (by first | decide | simp)
    have R_1f2 := Box.frz R_1.out 2 (by first | decide | simp)
    have R_1f3 := Box.frz R_1.out 3 (by first | decide | simp)
    have z1 := hb.size
    (try simp at z1)
    have D1 := Lib.hid hb; clear hb
    rw [h1]
    go_wp2_with (go_at_call 67; ((with_reducible refine (impl_inRange _ _ _ _).mono ?_); rintro e w' ⟨rfl, rfl⟩))
    refine bodyPost_ret (v := .tuple #[.agg #[.int .i64 0, .int .i64 0, .int .i64 0, .int .i64 0], .bool false]) (by simp [results, Try.results16, go_sem, *]) rfl (AddEnd.no E.out (by (repeat' (first | (with_reducible exact Below.refl _ _) | (with_reducible refine belS ?_ (by first | omega | (simp; done) | (simp; omega) | (simp only [World.size_alloc, World.size_setCell, World.size_drew] at *; omega))) | (with_reducible refine belA ?_ (by first | omega | (simp; done) | (simp; omega) | (simp only [World.size_alloc, World.size_setCell, World.size_drew] at *; omega))) | (with_reducible refine bel_drewN ?_ _) | (with_reducible refine Below.drew ?_) | (with_reducible assumption) | (refine Hid.out ?_; with_reducible assumption) | (apply belV; (with_reducible assumption); exact (by first | omega | (simp; done) | (simp; omega) | (simp only [World.size_alloc, World.size_setCell, World.size_drew] at *; omega)))))))
  have E := Lib.hid (add_3 (up := up) h1 h2)
  have hb := vGain_bd h1
  have hx := inB_iff.1 h2
  have hw1 : IntKind.i64.wrap (g.u + 1) = g.u + 1 := IntWalk.i64_in _ ⟨by omega, by omega⟩
  have hw2 : IntKind.i64.wrap (g.us + x) = g.us + x := IntWalk.i64_in _ ⟨by omega, by omega⟩
  have hw3 : IntKind.i64.wrap (g.d + 1) = g.d + 1 := IntWalk.i64_in _ ⟨by omega, by omega⟩
  have hw4 : IntKind.i64.wrap (g.ds + x) = g.ds + x := IntWalk.i64_in _ ⟨by omega, by omega⟩
  clear hb hx
  cases up
  · cases h3 : vGain (oneMore g false x)
    all_goals
      rw [h3] at E
      go_enter Try.func16, Try.ntmps16
      go_wp2_with fail
      refine (impl_gvalid g _).mono ?_
      rintro e w1 ⟨rfl, hb⟩
      have G1 : Hid (Below w.heap.size w w1) := belU hb (by (repeat' (first | (with_reducible exact Below.refl _ _) | (with_reducible refine belS ?_ (by first | omega | (simp; done) | (simp; omega) | (simp only [World.size_alloc, World.size_setCell, World.size_drew] at *; omega))) | (with_reducible refine belA ?_ (by first | omega | (simp; done) | (simp; omega) | (simp only [World.size_alloc, World.size_setCell, World.size_drew] at *; omega))) | (with_reducible refine bel_drewN ?_ _) | (with_reducible refine Below.drew ?_) | (with_reducible assumption) | (refine Hid.out ?_; with_reducible assumption) | (apply belV; (with_reducible assumption); exact (by first | omega | (simp; done) | (simp; omega) | (simp only [World.size_alloc, World.size_setCell, World.size_drew] at *; omega)))))) (by first | omega | (simp; done) | (simp; omega) | (simp only [World.size_alloc, World.size_setCell, World.size_drew] at *; omega))
      have G_1 : Hid (Box w1 (w.heap.size) #[.int .i64 g.u, .int .i64 g.us, .int .i64 g.d, .int .i64 g.ds]) := Lib.hid (Box.below (by (repeat' (first | (with_reducible exact Box.new _ _ _ (by first | omega | (simp; done) | (simp; omega) | (simp only [World.size_alloc, World.size_setCell, World.size_drew] at *; omega))) | (with_reducible refine Box.far ?_ (by first | omega | (simp; done) | (simp; omega) | (simp only [World.size_alloc, World.size_setCell, World.size_drew] at *; omega)) _) | (apply Box.put3_0) | (apply Box.put3_1) | (apply Box.put3_2) | (apply Box.put4_0) | (apply Box.put4_1) | (apply Box.put4_2) | (apply Box.put4_3) | (apply Box.put2_0) | (apply Box.put2_1) | (with_reducible refine Box.alloc ?_ _) | (with_reducible refine Box.drewN ?_ _) | (with_reducible refine Box.drew ?_) | (with_reducible assumption) | (refine Hid.out ?_; with_reducible assumption) | (apply Box.only; (with_reducible assumption); exact (by first | omega | (simp; done) | (simp; omega) | (simp only [World.size_alloc, World.size_setCell, World.size_drew] at *; omega))) | (apply Box.belowD; (with_reducible assumption))))) hb)
      have yG_1 : w.heap.size < w1.heap.size := G_1.out.1
      obtain ⟨G_1c0, G_1c1, G_1c2, G_1c3⟩ := Box.facts4 G_1.out
      have G_1f0 := Box.frz G_1.out 0 (by first | decide | simp)
      have G_1f1 := Box.frz G_1.out 1 (by first | decide | simp)
      have G_1f2 := Box.frz G_1.out 2 (by first | decide | simp)
      have G_1f3 := Box.frz G_1.out 3 (by first | decide | simp)
      have R_1 : Hid (Box w1 (w.heap.size + 1) #[.int .i64 0, .int .i64 0, .int .i64 0, .int .i64 0]) := Lib.hid (Box.below (by (repeat' (first | (with_reducible exact Box.new _ _ _ (by first | omega | (simp; done) | (simp; omega) | (simp only [World.size_alloc, World.size_setCell, World.size_drew] at *; omega))) | (with_reducible refine Box.far ?_ (by first | omega | (simp; done) | (simp; omega) | (simp only [World.size_alloc, World.size_setCell, World.size_drew] at *; omega)) _) | (apply Box.put3_0) | (apply Box.put3_1) | (apply Box.put3_2) | (apply Box.put4_0) | (apply Box.put4_1) | (apply Box.put4_2) | (apply Box.put4_3) | (apply Box.put2_0) | (apply Box.put2_1) | (with_reducible refine Box.alloc ?_ _) | (with_reducible refine Box.drewN ?_ _) | (with_reducible refine Box.drew ?_) | (with_reducible assumption) | (refine Hid.out ?_; with_reducible assumption) | (apply Box.only; (with_reducible assumption); exact (by first | omega | (simp; done) | (simp; omega) | (simp only [World.size_alloc, World.size_setCell, World.size_drew] at *; omega))) | (apply Box.belowD; (with_reducible assumption))))) hb)
      have yR_1 : w.heap.size + 1 < w1.heap.size := R_1.out.1
      obtain ⟨R_1c0, R_1c1, R_1c2, R_1c3⟩ := Box.facts4 R_1.out
      have R_1f0 := Box.frz R_1.out 0 (by first | decide | simp)
      have R_1f1 := Box.frz R_1.out 1 (by first | decide | simp)
      have R_1f2 := Box.frz R_1.out 2 (by first | decide | simp)
      have R_1f3 := Box.frz R_1.out 3 (by first | decide | simp)
      have z1 := hb.size
      (try simp at z1)
      have D1 := Lib.hid hb; clear hb
      rw [h1]
      go_wp2_with (go_at_call 67; ((with_reducible refine (impl_inRange _ _ _ _).mono ?_); rintro e w' ⟨rfl, rfl⟩))
      go_wp2_with fail
      refine (impl_gvalid (oneMore g false x) _).mono ?_
      rintro e w2 ⟨rfl, hb⟩
      have G2 : Hid (Below w.heap.size w w2) := belU hb (by (repeat' (first | (with_reducible exact Below.refl _ _) | (with_reducible refine belS ?_ (by first | omega | (simp; done) | (simp; omega) | (simp only [World.size_alloc, World.size_setCell, World.size_drew] at *; omega))) | (with_reducible refine belA ?_ (by first | omega | (simp; done) | (simp; omega) | (simp only [World.size_alloc, World.size_setCell, World.size_drew] at *; omega))) | (with_reducible refine bel_drewN ?_ _) | (with_reducible refine Below.drew ?_) | (with_reducible assumption) | (refine Hid.out ?_; with_reducible assumption) | (apply belV; (with_reducible assumption); exact (by first | omega | (simp; done) | (simp; omega) | (simp only [World.size_alloc, World.size_setCell, World.size_drew] at *; omega)))))) (by first | omega | (simp; done) | (simp; omega) | (simp only [World.size_alloc, World.size_setCell, World.size_drew] at *; omega))
      have R_2 : Hid (Box w2 (w.heap.size + 1) #[.int .i64 0, .int .i64 0, .int .i64 0, .int .i64 0]) := Lib.hid (Box.below (by (repeat' (first | (with_reducible exact Box.new _ _ _ (by first | omega | (simp; done) | (simp; omega) | (simp only [World.size_alloc, World.size_setCell, World.size_drew] at *; omega))) | (with_reducible refine Box.far ?_ (by first | omega | (simp; done) | (simp; omega) | (simp only [World.size_alloc, World.size_setCell, World.size_drew] at *; omega)) _) | (apply Box.put3_0) | (apply Box.put3_1) | (apply Box.put3_2) | (apply Box.put4_0) | (apply Box.put4_1) | (apply Box.put4_2) | (apply Box.put4_3) | (apply Box.put2_0) | (apply Box.put2_1) | (with_reducible refine Box.alloc ?_ _) | (with_reducible refine Box.drewN ?_ _) | (with_reducible refine Box.drew ?_) | (with_reducible assumption) | (refine Hid.out ?_; with_reducible assumption) | (apply Box.only; (with_reducible assumption); exact (by first | omega | (simp; done) | (simp; omega) | (simp only [World.size_alloc, World.size_setCell, World.size_drew] at *; omega))) | (apply Box.belowD; (with_reducible assumption))))) hb)
      have yR_2 : w.heap.size + 1 < w2.heap.size := R_2.out.1
      obtain ⟨R_2c0, R_2c1, R_2c2, R_2c3⟩ := Box.facts4 R_2.out
      have R_2f0 := Box.frz R_2.out 0 (by first | decide | simp)
      have R_2f1 := Box.frz R_2.out 1 (by first | decide | simp)
      have R_2f2 := Box.frz R_2.out 2 (by first | decide | simp)
      have R_2f3 := Box.frz R_2.out 3 (by first | decide | simp)
      have G_2 : Hid (Box w2 (w.heap.size) #[.int .i64 g.u, .int .i64 g.us, .int .i64 (g.d + 1), .int .i64 (g.ds + x)]) := Lib.hid (Box.below (by (repeat' (first | (with_reducible exact Box.new _ _ _ (by first | omega | (simp; done) | (simp; omega) | (simp only [World.size_alloc, World.size_setCell, World.size_drew] at *; omega))) | (with_reducible refine Box.far ?_ (by first | omega | (simp; done) | (simp; omega) | (simp only [World.size_alloc, World.size_setCell, World.size_drew] at *; omega)) _) | (apply Box.put3_0) | (apply Box.put3_1) | (apply Box.put3_2) | (apply Box.put4_0) | (apply Box.put4_1) | (apply Box.put4_2) | (apply Box.put4_3) | (apply Box.put2_0) | (apply Box.put2_1) | (with_reducible refine Box.alloc ?_ _) | (with_reducible refine Box.drewN ?_ _) | (with_reducible refine Box.drew ?_) | (with_reducible assumption) | (refine Hid.out ?_; with_reducible assumption) | (apply Box.only; (with_reducible assumption); exact (by first | omega | (simp; done) | (simp; omega) | (simp only [World.size_alloc, World.size_setCell, World.size_drew] at *; omega))) | (apply Box.belowD; (with_reducible assumption))))) hb)
      have yG_2 : w.heap.size < w2.heap.size := G_2.out.1
      obtain ⟨G_2c0, G_2c1, G_2c2, G_2c3⟩ := Box.facts4 G_2.out
      have G_2f0 := Box.frz G_2.out 0 (by first | decide | simp)
      have G_2f1 := Box.frz G_2.out 1 (by first | decide | simp)
      have G_2f2 := Box.frz G_2.out 2 (by first | decide | simp)
      have G_2f3 := Box.frz G_2.out 3 (by first | decide | simp)
      have z2 := hb.size
      (try simp at z2)
      have D2 := Lib.hid hb; clear hb
      rw [h3]
      go_wp2_with fail
      first
        | exact bodyPost_ret (v := .tuple #[.agg #[.int .i64 0, .int .i64 0, .int .i64 0, .int .i64 0], .bool false]) (by simp [results, Try.results16, go_sem, *]) rfl (AddEnd.no E.out (by (repeat' (first | (with_reducible exact Below.refl _ _) | (with_reducible refine belS ?_ (by first | omega | (simp; done) | (simp; omega) | (simp only [World.size_alloc, World.size_setCell, World.size_drew] at *; omega))) | (with_reducible refine belA ?_ (by first | omega | (simp; done) | (simp; omega) | (simp only [World.size_alloc, World.size_setCell, World.size_drew] at *; omega))) | (with_reducible refine bel_drewN ?_ _) | (with_reducible refine Below.drew ?_) | (with_reducible assumption) | (refine Hid.out ?_; with_reducible assumption) | (apply belV; (with_reducible assumption); exact (by first | omega | (simp; done) | (simp; omega) | (simp only [World.size_alloc, World.size_setCell, World.size_drew] at *; omega)))))))
        | exact bodyPost_ret (v := .tuple #[.agg #[.int .i64 g.u, .int .i64 g.us, .int .i64 (g.d + 1), .int .i64 (g.ds + x)], .bool true]) (by simp [results, Try.results16, go_sem, *]) rfl (AddEnd.down E.out (by (repeat' (first | (with_reducible exact Below.refl _ _) | (with_reducible refine belS ?_ (by first | omega | (simp; done) | (simp; omega) | (simp only [World.size_alloc, World.size_setCell, World.size_drew] at *; omega))) | (with_reducible refine belA ?_ (by first | omega | (simp; done) | (simp; omega) | (simp only [World.size_alloc, World.size_setCell, World.size_drew] at *; omega))) | (with_reducible refine bel_drewN ?_ _) | (with_reducible refine Below.drew ?_) | (with_reducible assumption) | (refine Hid.out ?_; with_reducible assumption) | (apply belV; (with_reducible assumption); exact (by first | omega | (simp; done) | (simp; omega) | (simp only [World.size_alloc, World.size_setCell, World.size_drew] at *; omega)))))))
  · cases h3 : vGain (oneMore g true x)
    all_goals
      rw [h3] at E
      go_enter Try.func16, Try.ntmps16
      go_wp2_with fail
      refine (impl_gvalid g _).mono ?_
      rintro e w1 ⟨rfl, hb⟩
      have G1 : Hid (Below w.heap.size w w1) := belU hb (by (repeat' (first | (with_reducible exact Below.refl _ _) | (with_reducible refine belS ?_ (by first | omega | (simp; done) | (simp; omega) | (simp only [World.size_alloc, World.size_setCell, World.size_drew] at *; omega))) | (with_reducible refine belA ?_ (by first | omega | (simp; done) | (simp; omega) | (simp only [World.size_alloc, World.size_setCell, World.size_drew] at *; omega))) | (with_reducible refine bel_drewN ?_ _) | (with_reducible refine Below.drew ?_) | (with_reducible assumption) | (refine Hid.out ?_; with_reducible assumption) | (apply belV; (with_reducible assumption); exact (by first | omega | (simp; done) | (simp; omega) | (simp only [World.size_alloc, World.size_setCell, World.size_drew] at *; omega)))))) (by first | omega | (simp; done) | (simp; omega) | (simp only [World.size_alloc, World.size_setCell, World.size_drew] at *; omega))
      have G_1 : Hid (Box w1 (w.heap.size) #[.int .i64 g.u, .int .i64 g.us, .int .i64 g.d, .int .i64 g.ds]) := Lib.hid (Box.below (by (repeat' (first | (with_reducible exact Box.new _ _ _ (by first | omega | (simp; done) | (simp; omega) | (simp only [World.size_alloc, World.size_setCell, World.size_drew] at *; omega))) | (with_reducible refine Box.far ?_ (by first | omega | (simp; done) | (simp; omega) | (simp only [World.size_alloc, World.size_setCell, World.size_drew] at *; omega)) _) | (apply Box.put3_0) | (apply Box.put3_1) | (apply Box.put3_2) | (apply Box.put4_0) | (apply Box.put4_1) | (apply Box.put4_2) | (apply Box.put4_3) | (apply Box.put2_0) | (apply Box.put2_1) | (with_reducible refine Box.alloc ?_ _) | (with_reducible refine Box.drewN ?_ _) | (with_reducible refine Box.drew ?_) | (with_reducible assumption) | (refine Hid.out ?_; with_reducible assumption) | (apply Box.only; (with_reducible assumption); exact (by first | omega | (simp; done) | (simp; omega) | (simp only [World.size_alloc, World.size_setCell, World.size_drew] at *; omega))) | (apply Box.belowD; (with_reducible assumption))))) hb)
      have yG_1 : w.heap.size < w1.heap.size := G_1.out.1
      obtain ⟨G_1c0, G_1c1, G_1c2, G_1c3⟩ := Box.facts4 G_1.out
      have G_1f0 := Box.frz G_1.out 0 (by first | decide | simp)
      have G_1f1 := Box.frz G_1.out 1 (by first | decide | simp)
      have G_1f2 := Box.frz G_1.out 2 (by first | decide | simp)
      have G_1f3 := Box.frz G_1.out 3 (by first | decide | simp)
      have R_1 : Hid (Box w1 (w.heap.size + 1) #[.int .i64 0, .int .i64 0, .int .i64 0, .int .i64 0]) := Lib.hid (Box.below (by (repeat' (first | (with_reducible exact Box.new _ _ _ (by first | omega | (simp; done) | (simp; omega) | (simp only [World.size_alloc, World.size_setCell, World.size_drew] at *; omega))) | (with_reducible refine Box.far ?_ (by first | omega | (simp; done) | (simp; omega) | (simp only [World.size_alloc, World.size_setCell, World.size_drew] at *; omega)) _) | (apply Box.put3_0) | (apply Box.put3_1) | (apply Box.put3_2) | (apply Box.put4_0) | (apply Box.put4_1) | (apply Box.put4_2) | (apply Box.put4_3) | (apply Box.put2_0) | (apply Box.put2_1) | (with_reducible refine Box.alloc ?_ _) | (with_reducible refine Box.drewN ?_ _) | (with_reducible refine Box.drew ?_) | (with_reducible assumption) | (refine Hid.out ?_; with_reducible assumption) | (apply Box.only; (with_reducible assumption); exact (by first | omega | (simp; done) | (simp; omega) | (simp only [World.size_alloc, World.size_setCell, World.size_drew] at *; omega))) | (apply Box.belowD; (with_reducible assumption))))) hb)
      have yR_1 : w.heap.size + 1 < w1.heap.size := R_1.out.1
      obtain ⟨R_1c0, R_1c1, R_1c2, R_1c3⟩ := Box.facts4 R_1.out
      have R_1f0 := Box.frz R_1.out 0 (by first | decide | simp)
      have R_1f1 := Box.frz R_1.out 1 (by first | decide | simp)
      have R_1f2 := Box.frz R_1.out 2 (by first | decide | simp)
      have R_1f3 := Box.frz R_1.out 3 (by first | decide | simp)
      have z1 := hb.size
      (try simp at z1)
      have D1 := Lib.hid hb; clear hb
      rw [h1]
      go_wp2_with (go_at_call 67; ((with_reducible refine (impl_inRange _ _ _ _).mono ?_); rintro e w' ⟨rfl, rfl⟩))
      go_wp2_with fail
      refine (impl_gvalid (oneMore g true x) _).mono ?_
      rintro e w2 ⟨rfl, hb⟩
      have G2 : Hid (Below w.heap.size w w2) := belU hb (by (repeat' (first | (with_reducible exact Below.refl _ _) | (with_reducible refine belS ?_ (by first | omega | (simp; done) | (simp; omega) | (simp only [World.size_alloc, World.size_setCell, World.size_drew] at *; omega))) | (with_reducible refine belA ?_ (by first | omega | (simp; done) | (simp; omega) | (simp only [World.size_alloc, World.size_setCell, World.size_drew] at *; omega))) | (with_reducible refine bel_drewN ?_ _) | (with_reducible refine Below.drew ?_) | (with_reducible assumption) | (refine Hid.out ?_; with_reducible assumption) | (apply belV; (with_reducible assumption); exact (by first | omega | (simp; done) | (simp; omega) | (simp only [World.size_alloc, World.size_setCell, World.size_drew] at *; omega)))))) (by first | omega | (simp; done) | (simp; omega) | (simp only [World.size_alloc, World.size_setCell, World.size_drew] at *; omega))
      have R_2 : Hid (Box w2 (w.heap.size + 1) #[.int .i64 0, .int .i64 0, .int .i64 0, .int .i64 0]) := Lib.hid (Box.below (by (repeat' (first | (with_reducible exact Box.new _ _ _ (by first | omega | (simp; done) | (simp; omega) | (simp only [World.size_alloc, World.size_setCell, World.size_drew] at *; omega))) | (with_reducible refine Box.far ?_ (by first | omega | (simp; done) | (simp; omega) | (simp only [World.size_alloc, World.size_setCell, World.size_drew] at *; omega)) _) | (apply Box.put3_0) | (apply Box.put3_1) | (apply Box.put3_2) | (apply Box.put4_0) | (apply Box.put4_1) | (apply Box.put4_2) | (apply Box.put4_3) | (apply Box.put2_0) | (apply Box.put2_1) | (with_reducible refine Box.alloc ?_ _) | (with_reducible refine Box.drewN ?_ _) | (with_reducible refine Box.drew ?_) | (with_reducible assumption) | (refine Hid.out ?_; with_reducible assumption) | (apply Box.only; (with_reducible assumption); exact (by first | omega | (simp; done) | (simp; omega) | (simp only [World.size_alloc, World.size_setCell, World.size_drew] at *; omega))) | (apply Box.belowD; (with_reducible assumption))))) hb)
      have yR_2 : w.heap.size + 1 < w2.heap.size := R_2.out.1
      obtain ⟨R_2c0, R_2c1, R_2c2, R_2c3⟩ := Box.facts4 R_2.out
      have R_2f0 := Box.frz R_2.out 0 (by first | decide | simp)
      have R_2f1 := Box.frz R_2.out 1 (by first | decide | simp)
      have R_2f2 := Box.frz R_2.out 2 (by first | decide | simp)
      have R_2f3 := Box.frz R_2.out 3 (by first | decide | simp)
      have G_2 : Hid (Box w2 (w.heap.size) #[.int .i64 (g.u + 1), .int .i64 (g.us + x), .int .i64 g.d, .int .i64 g.ds]) := Lib.hid (Box.below (by (repeat' (first | (with_reducible exact Box.new _ _ _ (by first | omega | (simp; done) | (simp; omega) | (simp only [World.size_alloc, World.size_setCell, World.size_drew] at *; omega))) | (with_reducible refine Box.far ?_ (by first | omega | (simp; done) | (simp; omega) | (simp only [World.size_alloc, World.size_setCell, World.size_drew] at *; omega)) _) | (apply Box.put3_0) | (apply Box.put3_1) | (apply Box.put3_2) | (apply Box.put4_0) | (apply Box.put4_1) | (apply Box.put4_2) | (apply Box.put4_3) | (apply Box.put2_0) | (apply Box.put2_1) | (with_reducible refine Box.alloc ?_ _) | (with_reducible refine Box.drewN ?_ _) | (with_reducible refine Box.drew ?_) | (with_reducible assumption) | (refine Hid.out ?_; with_reducible assumption) | (apply Box.only; (with_reducible assumption); exact (by first | omega | (simp; done) | (simp; omega) | (simp only [World.size_alloc, World.size_setCell, World.size_drew] at *; omega))) | (apply Box.belowD; (with_reducible assumption))))) hb)
      have yG_2 : w.heap.size < w2.heap.size := G_2.out.1
      obtain ⟨G_2c0, G_2c1, G_2c2, G_2c3⟩ := Box.facts4 G_2.out
      have G_2f0 := Box.frz G_2.out 0 (by first | decide | simp)
      have G_2f1 := Box.frz G_2.out 1 (by first | decide | simp)
      have G_2f2 := Box.frz G_2.out 2 (by first | decide | simp)
      have G_2f3 := Box.frz G_2.out 3 (by first | decide | simp)
      have z2 := hb.size
      (try simp at z2)
      have D2 := Lib.hid hb; clear hb
      rw [h3]
      go_wp2_with fail
      first
        | exact bodyPost_ret (v := .tuple #[.agg #[.int .i64 0, .int .i64 0, .int .i64 0, .int .i64 0], .bool false]) (by simp [results, Try.results16, go_sem, *]) rfl (AddEnd.no E.out (by (repeat' (first | (with_reducible exact Below.refl _ _) | (with_reducible refine belS ?_ (by first | omega | (simp; done) | (simp; omega) | (simp only [World.size_alloc, World.size_setCell, World.size_drew] at *; omega))) | (with_reducible refine belA ?_ (by first | omega | (simp; done) | (simp; omega) | (simp only [World.size_alloc, World.size_setCell, World.size_drew] at *; omega))) | (with_reducible refine bel_drewN ?_ _) | (with_reducible refine Below.drew ?_) | (with_reducible assumption) | (refine Hid.out ?_; with_reducible assumption) | (apply belV; (with_reducible assumption); exact (by first | omega | (simp; done) | (simp; omega) | (simp only [World.size_alloc, World.size_setCell, World.size_drew] at *; omega)))))))
        | exact bodyPost_ret (v := .tuple #[.agg #[.int .i64 (g.u + 1), .int .i64 (g.us + x), .int .i64 g.d, .int .i64 g.ds], .bool true]) (by simp [results, Try.results16, go_sem, *]) rfl (AddEnd.up E.out (by (repeat' (first | (with_reducible exact Below.refl _ _) | (with_reducible refine belS ?_ (by first | omega | (simp; done) | (simp; omega) | (simp only [World.size_alloc, World.size_setCell, World.size_drew] at *; omega))) | (with_reducible refine belA ?_ (by first | omega | (simp; done) | (simp; omega) | (simp only [World.size_alloc, World.size_setCell, World.size_drew] at *; omega))) | (with_reducible refine bel_drewN ?_ _) | (with_reducible refine Below.drew ?_) | (with_reducible assumption) | (refine Hid.out ?_; with_reducible assumption) | (apply belV; (with_reducible assumption); exact (by first | omega | (simp; done) | (simp; omega) | (simp only [World.size_alloc, World.size_setCell, World.size_drew] at *; omega)))))))

set_option maxHeartbeats 4000000 in
set_option maxRecDepth 100000 in
theorem spec_AddGain (g : PGain) (up : Bool) (x : Int) (w : World) : Calls Try.prog 17 #[.agg #[.int .i64 g.u, .int .i64 g.us, .int .i64 g.d, .int .i64 g.ds], .bool up, .int .i64 x] w (AddEnd g up x w) := by
  cases h1 : vGain g
  · have E := Lib.hid (add_1 (up := up) (x := x) h1)
    go_enter Try.func17, Try.ntmps17
    go_wp2_with fail
    refine (spec_validGains g _).mono ?_
    rintro e w1 ⟨rfl, hb⟩
    have G1 : Hid (Below w.heap.size w w1) := belU hb (by (repeat' (first | (with_reducible exact Below.refl _ _) | (with_reducible refine belS ?_ (by first | omega | (simp; done) | (simp; omega) | (simp only [World.size_alloc, World.size_setCell, World.size_drew] at *; omega))) | (with_reducible refine belA ?_ (by first | omega | (simp; done) | (simp; omega) | (simp only [World.size_alloc, World.size_setCell, World.size_drew] at *; omega))) | (with_reducible refine bel_drewN ?_ _) | (with_reducible refine Below.drew ?_) | (with_reducible assumption) | (refine Hid.out ?_; with_reducible assumption) | (apply belV; (with_reducible assumption); exact (by first | omega | (simp; done) | (simp; omega) | (simp only [World.size_alloc, World.size_setCell, World.size_drew] at *; omega)))))) (by first | omega | (simp; done) | (simp; omega) | (simp only [World.size_alloc, World.size_setCell, World.size_drew] at *; omega))
    have G_1 : Hid (Box w1 (w.heap.size) #[.int .i64 g.u, .int .i64 g.us, .int .i64 g.d, .int .i64 g.ds]) := Lib.hid (Box.below (by (repeat' (first | (with_reducible exact Box.new _ _ _ (by first | omega | (simp; done) | (simp; omega) | (simp only [World.size_alloc, World.size_setCell, World.size_drew] at *; omega))) | (with_reducible refine Box.far ?_ (by first | omega | (simp; done) | (simp; omega) | (simp only [World.size_alloc, World.size_setCell, World.size_drew] at *; omega)) _) | (apply Box.put3_0) | (apply Box.put3_1) | (apply Box.put3_2) | (apply Box.put4_0) | (apply Box.put4_1) | (apply Box.put4_2) | (apply Box.put4_3) | (apply Box.put2_0) | (apply Box.put2_1) | (with_reducible refine Box.alloc ?_ _) | (with_reducible refine Box.drewN ?_ _) | (with_reducible refine Box.drew ?_) | (with_reducible assumption) | (refine Hid.out ?_; with_reducible assumption) | (apply Box.only; (with_reducible assumption); exact (by first | omega | (simp; done) | (simp; omega) | (simp only [World.size_alloc, World.size_setCell, World.size_drew] at *; omega))) | (apply Box.belowD; (with_reducible assumption))))) hb)
    have yG_1 : w.heap.size < w1.heap.size := G_1.out.1
    obtain ⟨G_1c0, G_1c1, G_1c2, G_1c3⟩ := Box.facts4 G_1.out
    have G_1f0 := Box.frz G_1.out 0 (by first | decide | simp)
    have G_1f1 := Box.frz G_1.out 1 (by first | decide | simp)
    have G_1f2 := Box.frz G_1.out 2 (by first | decide | simp)
    have G_1f3 := Box.frz G_1.out 3 (by first | decide | simp)
    have R_1 : Hid (Box w1 (w.heap.size + 1) #[.int .i64 0, .int .i64 0, .int .i64 0, .int .i64 0]) := Lib.hid (Box.below (by (repeat' (first | (with_reducible exact Box.new _ _ _ (by first | omega | (simp; done) | (simp; omega) | (simp only [World.size_alloc, World.size_setCell, World.size_drew] at *; omega))) | (with_reducible refine Box.far ?_ (by first | omega | (simp; done) | (simp; omega) | (simp only [World.size_alloc, World.size_setCell, World.size_drew] at *; omega)) _) | (apply Box.put3_0) | (apply Box.put3_1) | (apply Box.put3_2) | (apply Box.put4_0) | (apply Box.put4_1) | (apply Box.put4_2) | (apply Box.put4_3) | (apply Box.put2_0) | (apply Box.put2_1) | (with_reducible refine Box.alloc ?_ _) | (with_reducible refine Box.drewN ?_ _) | (with_reducible refine Box.drew ?_) | (with_reducible assumption) | (refine Hid.out ?_; with_reducible assumption) | (apply Box.only; (with_reducible assumption); exact (by first | omega | (simp; done) | (simp; omega) | (simp only [World.size_alloc, World.size_setCell, World.size_drew] at *; omega))) | (apply Box.belowD; (with_reducible assumption))))) hb)
    have yR_1 : w.heap.size + 1 < w1.heap.size := R_1.out.1
    obtain ⟨R_1c0, R_1c1, R_1c2, R_1c3⟩ := Box.facts4 R_1.out
    have R_1f0 := Box.frz R_1.out 0 (by first | decide | simp)
    have R_1f1 := Box.frz R_1.out 1 (by first | decide | simp)
    have R_1f2 := Box.frz R_1.out 2 (by first | decide | simp)
    have R_1f3 := Box.frz R_1.out 3 (by first | decide | simp)
    have z1 := hb.size
    (try simp at z1)
    have D1 := Lib.hid hb; clear hb
    rw [h1]
    go_wp2_with fail
    refine bodyPost_ret (v := .tuple #[.agg #[.int .i64 0, .int .i64 0, .int .i64 0, .int .i64 0], .bool false]) (by simp [results, Try.results17, go_sem, *]) rfl (AddEnd.no E.out (by (repeat' (first | (with_reducible exact Below.refl _ _) | (with_reducible refine belS ?_ (by first | omega | (simp; done) | (simp; omega) | (simp only [World.size_alloc, World.size_setCell, World.size_drew] at *; omega))) | (with_reducible refine belA ?_ (by first | omega | (simp; done) | (simp; omega) | (simp only [World.size_alloc, World.size_setCell, World.size_drew] at *; omega))) | (with_reducible refine bel_drewN ?_ _) | (with_reducible refine Below.drew ?_) | (with_reducible assumption) | (refine Hid.out ?_; with_reducible assumption) | (apply belV; (with_reducible assumption); exact (by first | omega | (simp; done) | (simp; omega) | (simp only [World.size_alloc, World.size_setCell, World.size_drew] at *; omega)))))))
  cases h2 : inB x 0 999
  · have E := Lib.hid (add_2 (g := g) (up := up) h2)
    go_enter Try.func17, Try.ntmps17
    go_wp2_with fail
    refine (spec_validGains g _).mono ?_
    rintro e w1 ⟨rfl, hb⟩
    have G1 : Hid (Below w.heap.size w w1) := belU hb (by (repeat' (first | (with_reducible exact Below.refl _ _) | (with_reducible refine belS ?_ (by first | omega | (simp; done) | (simp; omega) | (simp only [World.size_alloc, World.size_setCell, World.size_drew] at *; omega))) | (with_reducible refine belA ?_ (by first | omega | (simp; done) | (simp; omega) | (simp only [World.size_alloc, World.size_setCell, World.size_drew] at *; omega))) | (with_reducible refine bel_drewN ?_ _) | (with_reducible refine Below.drew ?_) | (with_reducible assumption) | (refine Hid.out ?_; with_reducible assumption) | (apply belV; (with_reducible assumption); exact (by first | omega | (simp; done) | (simp; omega) | (simp only [World.size_alloc, World.size_setCell, World.size_drew] at *; omega)))))) (by first | omega | (simp; done) | (simp; omega) | (simp only [World.size_alloc, World.size_setCell, World.size_drew] at *; omega))
    have G_1 : Hid (Box w1 (w.heap.size) #[.int .i64 g.u, .int .i64 g.us, .int .i64 g.d, .int .i64 g.ds]) := Lib.hid (Box.below (by (repeat' (first | (with_reducible exact Box.new _ _ _ (by first | omega | (simp; done) | (simp; omega) | (simp only [World.size_alloc, World.size_setCell, World.size_drew] at *; omega))) | (with_reducible refine Box.far ?_ (by first | omega | (simp; done) | (simp; omega) | (simp only [World.size_alloc, World.size_setCell, World.size_drew] at *; omega)) _) | (apply Box.put3_0) | (apply Box.put3_1) | (apply Box.put3_2) | (apply Box.put4_0) | (apply Box.put4_1) | (apply Box.put4_2) | (apply Box.put4_3) | (apply Box.put2_0) | (apply Box.put2_1) | (with_reducible refine Box.alloc ?_ _) | (with_reducible refine Box.drewN ?_ _) | (with_reducible refine Box.drew ?_) | (with_reducible assumption) | (refine Hid.out ?_; with_reducible assumption) | (apply Box.only; (with_reducible assumption); exact (by first | omega | (simp; done) | (simp; omega) | (simp only [World.size_alloc, World.size_setCell, World.size_drew] at *; omega))) | (apply Box.belowD; (with_reducible assumption))))) hb)
    have yG_1 : w.heap.size < w1.heap.size := G_1.out.1
    obtain ⟨G_1c0, G_1c1, G_1c2, G_1c3⟩ := Box.facts4 G_1.out
    have G_1f0 := Box.frz G_1.out 0 (by first | decide | simp)
    have G_1f1 := Box.frz G_1.out 1 (by first | decide | simp)
    have G_1f2 := Box.frz G_1.out 2 (by first | decide | simp)
    have G_1f3 := Box.frz G_1.out 3 (by first | decide | simp)
    have R_1 : Hid (Box w1 (w.heap.size + 1) #[.int .i64 0, .int .i64 0, .int .i64 0, .int .i64 0]) := Lib.hid (Box.below (by (repeat' (first | (with_reducible exact Box.new _ _ _ (by first | omega | (simp; done) | (simp; omega) | (simp only [World.size_alloc, World.size_setCell, World.size_drew] at *; omega))) | (with_reducible refine Box.far ?_ (by first | omega | (simp; done) | (simp; omega) | (simp only [World.size_alloc, World.size_setCell, World.size_drew] at *; omega)) _) | (apply Box.put3_0) | (apply Box.put3_1) | (apply Box.put3_2) | (apply Box.put4_0) | (apply Box.put4_1) | (apply Box.put4_2) | (apply Box.put4_3) | (apply Box.put2_0) | (apply Box.put2_1) | (with_reducible refine Box.alloc ?_ _) | (with_reducible refine Box.drewN ?_ _) | (with_reducible refine Box.drew ?_) | (with_reducible assumption) | (refine Hid.out ?_; with_reducible assumption) | (apply Box.only; (with_reducible assumption); exact (by first | omega | (simp; done) | (simp; omega) | (simp only [World.size_alloc, World.size_setCell, World.size_drew] at *; omega))) | (apply Box.belowD; (with_reducible assumption))))) hb)
    have yR_1 : w.heap.size + 1 < w1.heap.size := R_1.out.1
    obtain ⟨R_1c0, R_1c1, R_1c2, R_1c3⟩ := Box.facts4 R_1.out
    have R_1f0 := Box.frz R_1.out 0 (by first | decide | simp)
    have R_1f1 := Box.frz R_1.out 1 (by first | decide | simp)
    have R_1f2 := Box.frz R_1.out 2 (by first | decide | simp)
    have R_1f3 := Box.frz R_1.out 3 (by first | decide | simp)
    have z1 := hb.size
    (try simp at z1)
    have D1 := Lib.hid hb; clear hb
    rw [h1]
    go_wp2_with (go_at_call 69; ((with_reducible refine (spec_inRange _ _ _ _).mono ?_); rintro e w' ⟨rfl, rfl⟩))
    refine bodyPost_ret (v := .tuple #[.agg #[.int .i64 0, .int .i64 0, .int .i64 0, .int .i64 0], .bool false]) (by simp [results, Try.results17, go_sem, *]) rfl (AddEnd.no E.out (by (repeat' (first | (with_reducible exact Below.refl _ _) | (with_reducible refine belS ?_ (by first | omega | (simp; done) | (simp; omega) | (simp only [World.size_alloc, World.size_setCell, World.size_drew] at *; omega))) | (with_reducible refine belA ?_ (by first | omega | (simp; done) | (simp; omega) | (simp only [World.size_alloc, World.size_setCell, World.size_drew] at *; omega))) | (with_reducible refine bel_drewN ?_ _) | (with_reducible refine Below.drew ?_) | (with_reducible assumption) | (refine Hid.out ?_; with_reducible assumption) | (apply belV; (with_reducible assumption); exact (by first | omega | (simp; done) | (simp; omega) | (simp only [World.size_alloc, World.size_setCell, World.size_drew] at *; omega)))))))
  have E := Lib.hid (add_3 (up := up) h1 h2)
  have hb := vGain_bd h1
  have hx := inB_iff.1 h2
  have hw1 : IntKind.i64.wrap (g.u + 1) = g.u + 1 := IntWalk.i64_in _ ⟨by omega, by omega⟩
  have hw2 : IntKind.i64.wrap (g.us + x) = g.us + x := IntWalk.i64_in _ ⟨by omega, by omega⟩
  have hw3 : IntKind.i64.wrap (g.d + 1) = g.d + 1 := IntWalk.i64_in _ ⟨by omega, by omega⟩
  have hw4 : IntKind.i64.wrap (g.ds + x) = g.ds + x := IntWalk.i64_in _ ⟨by omega, by omega⟩
  clear hb hx
  cases up
  · cases h3 : vGain (oneMore g false x)
    all_goals
      rw [h3] at E
      go_enter Try.func17, Try.ntmps17
      go_wp2_with fail
      refine (spec_validGains g _).mono ?_
      rintro e w1 ⟨rfl, hb⟩
      have G1 : Hid (Below w.heap.size w w1) := belU hb (by (repeat' (first | (with_reducible exact Below.refl _ _) | (with_reducible refine belS ?_ (by first | omega | (simp; done) | (simp; omega) | (simp only [World.size_alloc, World.size_setCell, World.size_drew] at *; omega))) | (with_reducible refine belA ?_ (by first | omega | (simp; done) | (simp; omega) | (simp only [World.size_alloc, World.size_setCell, World.size_drew] at *; omega))) | (with_reducible refine bel_drewN ?_ _) | (with_reducible refine Below.drew ?_) | (with_reducible assumption) | (refine Hid.out ?_; with_reducible assumption) | (apply belV; (with_reducible assumption); exact (by first | omega | (simp; done) | (simp; omega) | (simp only [World.size_alloc, World.size_setCell, World.size_drew] at *; omega)))))) (by first | omega | (simp; done) | (simp; omega) | (simp only [World.size_alloc, World.size_setCell, World.size_drew] at *; omega))
      have G_1 : Hid (Box w1 (w.heap.size) #[.int .i64 g.u, .int .i64 g.us, .int .i64 g.d, .int .i64 g.ds]) := Lib.hid (Box.below (by (repeat' (first | (with_reducible exact Box.new _ _ _ (by first | omega | (simp; done) | (simp; omega) | (simp only [World.size_alloc, World.size_setCell, World.size_drew] at *; omega))) | (with_reducible refine Box.far ?_ (by first | omega | (simp; done) | (simp; omega) | (simp only [World.size_alloc, World.size_setCell, World.size_drew] at *; omega)) _) | (apply Box.put3_0) | (apply Box.put3_1) | (apply Box.put3_2) | (apply Box.put4_0) | (apply Box.put4_1) | (apply Box.put4_2) | (apply Box.put4_3) | (apply Box.put2_0) | (apply Box.put2_1) | (with_reducible refine Box.alloc ?_ _) | (with_reducible refine Box.drewN ?_ _) | (with_reducible refine Box.drew ?_) | (with_reducible assumption) | (refine Hid.out ?_; with_reducible assumption) | (apply Box.only; (with_reducible assumption); exact (by first | omega | (simp; done) | (simp; omega) | (simp only [World.size_alloc, World.size_setCell, World.size_drew] at *; omega))) | (apply Box.belowD; (with_reducible assumption))))) hb)
      have yG_1 : w.heap.size < w1.heap.size := G_1.out.1
      obtain ⟨G_1c0, G_1c1, G_1c2, G_1c3⟩ := Box.facts4 G_1.out
      have G_1f0 := Box.frz G_1.out 0 (by first | decide | simp)
      have G_1f1 := Box.frz G_1.out 1 (by first | decide | simp)
      have G_1f2 := Box.frz G_1.out 2 (by first | decide | simp)
      have G_1f3 := Box.frz G_1.out 3 (by first | decide | simp)
      have R_1 : Hid (Box w1 (w.heap.size + 1) #[.int .i64 0, .int .i64 0, .int .i64 0, .int .i64 0]) := Lib.hid (Box.below (by (repeat' (first | (with_reducible exact Box.new _ _ _ (by first | omega | (simp; done) | (simp; omega) | (simp only [World.size_alloc, World.size_setCell, World.size_drew] at *; omega))) | (with_reducible refine Box.far ?_ (by first | omega | (simp; done) | (simp; omega) | (simp only [World.size_alloc, World.size_setCell, World.size_drew] at *; omega)) _) | (apply Box.put3_0) | (apply Box.put3_1) | (apply Box.put3_2) | (apply Box.put4_0) | (apply Box.put4_1) | (apply Box.put4_2) | (apply Box.put4_3) | (apply Box.put2_0) | (apply Box.put2_1) | (with_reducible refine Box.alloc ?_ _) | (with_reducible refine Box.drewN ?_ _) | (with_reducible refine Box.drew ?_) | (with_reducible assumption) | (refine Hid.out ?_; with_reducible assumption) | (apply Box.only; (with_reducible assumption); exact (by first | omega | (simp; done) | (simp; omega) | (simp only [World.size_alloc, World.size_setCell, World.size_drew] at *; omega))) | (apply Box.belowD; (with_reducible assumption))))) hb)
      have yR_1 : w.heap.size + 1 < w1.heap.size := R_1.out.1
      obtain ⟨R_1c0, R_1c1, R_1c2, R_1c3⟩ := Box.facts4 R_1.out
      have R_1f0 := Box.frz R_1.out 0 (by first | decide | simp)
      have R_1f1 := Box.frz R_1.out 1 (by first | decide | simp)
      have R_1f2 := Box.frz R_1.out 2 (by first | decide | simp)
      have R_1f3 := Box.frz R_1.out 3 (by first | decide | simp)
      have z1 := hb.size
      (try simp at z1)
      have D1 := Lib.hid hb; clear hb
      rw [h1]
      go_wp2_with (go_at_call 69; ((with_reducible refine (spec_inRange _ _ _ _).mono ?_); rintro e w' ⟨rfl, rfl⟩))
      go_wp2_with fail
      refine (spec_validGains (oneMore g false x) _).mono ?_
      rintro e w2 ⟨rfl, hb⟩
      have G2 : Hid (Below w.heap.size w w2) := belU hb (by (repeat' (first | (with_reducible exact Below.refl _ _) | (with_reducible refine belS ?_ (by first | omega | (simp; done) | (simp; omega) | (simp only [World.size_alloc, World.size_setCell, World.size_drew] at *; omega))) | (with_reducible refine belA ?_ (by first | omega | (simp; done) | (simp; omega) | (simp only [World.size_alloc, World.size_setCell, World.size_drew] at *; omega))) | (with_reducible refine bel_drewN ?_ _) | (with_reducible refine Below.drew ?_) | (with_reducible assumption) | (refine Hid.out ?_; with_reducible assumption) | (apply belV; (with_reducible assumption); exact (by first | omega | (simp; done) | (simp; omega) | (simp only [World.size_alloc, World.size_setCell, World.size_drew] at *; omega)))))) (by first | omega | (simp; done) | (simp; omega) | (simp only [World.size_alloc, World.size_setCell, World.size_drew] at *; omega))
      have R_2 : Hid (Box w2 (w.heap.size + 1) #[.int .i64 0, .int .i64 0, .int .i64 0, .int .i64 0]) := Lib.hid (Box.below (by (repeat' (first | (with_reducible exact Box.new _ _ _ (by first | omega | (simp; done) | (simp; omega) | (simp only [World.size_alloc, World.size_setCell, World.size_drew] at *; omega))) | (with_reducible refine Box.far ?_ (by first | omega | (simp; done) | (simp; omega) | (simp only [World.size_alloc, World.size_setCell, World.size_drew] at *; omega)) _) | (apply Box.put3_0) | (apply Box.put3_1) | (apply Box.put3_2) | (apply Box.put4_0) | (apply Box.put4_1) | (apply Box.put4_2) | (apply Box.put4_3) | (apply Box.put2_0) | (apply Box.put2_1) | (with_reducible refine Box.alloc ?_ _) | (with_reducible refine Box.drewN ?_ _) | (with_reducible refine Box.drew ?_) | (with_reducible assumption) | (refine Hid.out ?_; with_reducible assumption) | (apply Box.only; (with_reducible assumption); exact (by first | omega | (simp; done) | (simp; omega) | (simp only [World.size_alloc, World.size_setCell, World.size_drew] at *; omega))) | (apply Box.belowD; (with_reducible assumption))))) hb)
      have yR_2 : w.heap.size + 1 < w2.heap.size := R_2.out.1
      obtain ⟨R_2c0, R_2c1, R_2c2, R_2c3⟩ := Box.facts4 R_2.out
      have R_2f0 := Box.frz R_2.out 0 (by first | decide | simp)
      have R_2f1 := Box.frz R_2.out 1 (by first | decide | simp)
      have R_2f2 := Box.frz R_2.out 2 (by first | decide | simp)
      have R_2f3 := Box.frz R_2.out 3 (by first | decide | simp)
      have G_2 : Hid (Box w2 (w.heap.size) #[.int .i64 g.u, .int .i64 g.us, .int .i64 (g.d + 1), .int .i64 (g.ds + x)]) := Lib.hid (Box.below (by (repeat' (first | (with_reducible exact Box.new _ _ _ (by first | omega | (simp; done) | (simp; omega) | (simp only [World.size_alloc, World.size_setCell, World.size_drew] at *; omega))) | (with_reducible refine Box.far ?_ (by first | omega | (simp; done) | (simp; omega) | (simp only [World.size_alloc, World.size_setCell, World.size_drew] at *; omega)) _) | (apply Box.put3_0) | (apply Box.put3_1) | (apply Box.put3_2) | (apply Box.put4_0) | (apply Box.put4_1) | (apply Box.put4_2) | (apply Box.put4_3) | (apply Box.put2_0) | (apply Box.put2_1) | (with_reducible refine Box.alloc ?_ _) | (with_reducible refine Box.drewN ?_ _) | (with_reducible refine Box.drew ?_) | (with_reducible assumption) | (refine Hid.out ?_; with_reducible assumption) | (apply Box.only; (with_reducible assumption); exact (by first | omega | (simp; done) | (simp; omega) | (simp only [World.size_alloc, World.size_setCell, World.size_drew] at *; omega))) | (apply Box.belowD; (with_reducible assumption))))) hb)
      have yG_2 : w.heap.size < w2.heap.size := G_2.out.1
      obtain ⟨G_2c0, G_2c1, G_2c2, G_2c3⟩ := Box.facts4 G_2.out
      have G_2f0 := Box.frz G_2.out 0 (by first | decide | simp)
      have G_2f1 := Box.frz G_2.out 1 (by first | decide | simp)
      have G_2f2 := Box.frz G_2.out 2 (by first | decide | simp)
      have G_2f3 := Box.frz G_2.out 3 (by first | decide | simp)
      have z2 := hb.size
      (try simp at z2)
      have D2 := Lib.hid hb; clear hb
      rw [h3]
      go_wp2_with fail
      first
        | exact bodyPost_ret (v := .tuple #[.agg #[.int .i64 0, .int .i64 0, .int .i64 0, .int .i64 0], .bool false]) (by simp [results, Try.results17, go_sem, *]) rfl (AddEnd.no E.out (by (repeat' (first | (with_reducible exact Below.refl _ _) | (with_reducible refine belS ?_ (by first | omega | (simp; done) | (simp; omega) | (simp only [World.size_alloc, World.size_setCell, World.size_drew] at *; omega))) | (with_reducible refine belA ?_ (by first | omega | (simp; done) | (simp; omega) | (simp only [World.size_alloc, World.size_setCell, World.size_drew] at *; omega))) | (with_reducible refine bel_drewN ?_ _) | (with_reducible refine Below.drew ?_) | (with_reducible assumption) | (refine Hid.out ?_; with_reducible assumption) | (apply belV; (with_reducible assumption); exact (by first | omega | (simp; done) | (simp; omega) | (simp only [World.size_alloc, World.size_setCell, World.size_drew] at *; omega)))))))
        | exact bodyPost_ret (v := .tuple #[.agg #[.int .i64 g.u, .int .i64 g.us, .int .i64 (g.d + 1), .int .i64 (g.ds + x)], .bool true]) (by simp [results, Try.results17, go_sem, *]) rfl (AddEnd.down E.out (by (repeat' (first | (with_reducible exact Below.refl _ _) | (with_reducible refine belS ?_ (by first | omega | (simp; done) | (simp; omega) | (simp only [World.size_alloc, World.size_setCell, World.size_drew] at *; omega))) | (with_reducible refine belA ?_ (by first | omega | (simp; done) | (simp; omega) | (simp only [World.size_alloc, World.size_setCell, World.size_drew] at *; omega))) | (with_reducible refine bel_drewN ?_ _) | (with_reducible refine Below.drew ?_) | (with_reducible assumption) | (refine Hid.out ?_; with_reducible assumption) | (apply belV; (with_reducible assumption); exact (by first | omega | (simp; done) | (simp; omega) | (simp only [World.size_alloc, World.size_setCell, World.size_drew] at *; omega)))))))
  · cases h3 : vGain (oneMore g true x)
    all_goals
      rw [h3] at E
      go_enter Try.func17, Try.ntmps17
      go_wp2_with fail
      refine (spec_validGains g _).mono ?_
      rintro e w1 ⟨rfl, hb⟩
      have G1 : Hid (Below w.heap.size w w1) := belU hb (by (repeat' (first | (with_reducible exact Below.refl _ _) | (with_reducible refine belS ?_ (by first | omega | (simp; done) | (simp; omega) | (simp only [World.size_alloc, World.size_setCell, World.size_drew] at *; omega))) | (with_reducible refine belA ?_ (by first | omega | (simp; done) | (simp; omega) | (simp only [World.size_alloc, World.size_setCell, World.size_drew] at *; omega))) | (with_reducible refine bel_drewN ?_ _) | (with_reducible refine Below.drew ?_) | (with_reducible assumption) | (refine Hid.out ?_; with_reducible assumption) | (apply belV; (with_reducible assumption); exact (by first | omega | (simp; done) | (simp; omega) | (simp only [World.size_alloc, World.size_setCell, World.size_drew] at *; omega)))))) (by first | omega | (simp; done) | (simp; omega) | (simp only [World.size_alloc, World.size_setCell, World.size_drew] at *; omega))
      have G_1 : Hid (Box w1 (w.heap.size) #[.int .i64 g.u, .int .i64 g.us, .int .i64 g.d, .int .i64 g.ds]) := Lib.hid (Box.below (by (repeat' (first | (with_reducible exact Box.new _ _ _ (by first | omega | (simp; done) | (simp; omega) | (simp only [World.size_alloc, World.size_setCell, World.size_drew] at *; omega))) | (with_reducible refine Box.far ?_ (by first | omega | (simp; done) | (simp; omega) | (simp only [World.size_alloc, World.size_setCell, World.size_drew] at *; omega)) _) | (apply Box.put3_0) | (apply Box.put3_1) | (apply Box.put3_2) | (apply Box.put4_0) | (apply Box.put4_1) | (apply Box.put4_2) | (apply Box.put4_3) | (apply Box.put2_0) | (apply Box.put2_1) | (with_reducible refine Box.alloc ?_ _) | (with_reducible refine Box.drewN ?_ _) | (with_reducible refine Box.drew ?_) | (with_reducible assumption) | (refine Hid.out ?_; with_reducible assumption) | (apply Box.only; (with_reducible assumption); exact (by first | omega | (simp; done) | (simp; omega) | (simp only [World.size_alloc, World.size_setCell, World.size_drew] at *; omega))) | (apply Box.belowD; (with_reducible assumption))))) hb)
      have yG_1 : w.heap.size < w1.heap.size := G_1.out.1
      obtain ⟨G_1c0, G_1c1, G_1c2, G_1c3⟩ := Box.facts4 G_1.out
      have G_1f0 := Box.frz G_1.out 0 (by first | decide | simp)
      have G_1f1 := Box.frz G_1.out 1 (by first | decide | simp)
      have G_1f2 := Box.frz G_1.out 2 (by first | decide | simp)
      have G_1f3 := Box.frz G_1.out 3 (by first | decide | simp)
      have R_1 : Hid (Box w1 (w.heap.size + 1) #[.int .i64 0, .int .i64 0, .int .i64 0, .int .i64 0]) := Lib.hid (Box.below (by (repeat' (first | (with_reducible exact Box.new _ _ _ (by first | omega | (simp; done) | (simp; omega) | (simp only [World.size_alloc, World.size_setCell, World.size_drew] at *; omega))) | (with_reducible refine Box.far ?_ (by first | omega | (simp; done) | (simp; omega) | (simp only [World.size_alloc, World.size_setCell, World.size_drew] at *; omega)) _) | (apply Box.put3_0) | (apply Box.put3_1) | (apply Box.put3_2) | (apply Box.put4_0) | (apply Box.put4_1) | (apply Box.put4_2) | (apply Box.put4_3) | (apply Box.put2_0) | (apply Box.put2_1) | (with_reducible refine Box.alloc ?_ _) | (with_reducible refine Box.drewN ?_ _) | (with_reducible refine Box.drew ?_) | (with_reducible assumption) | (refine Hid.out ?_; with_reducible assumption) | (apply Box.only; (with_reducible assumption); exact (by first | omega | (simp; done) | (simp; omega) | (simp only [World.size_alloc, World.size_setCell, World.size_drew] at *; omega))) | (apply Box.belowD; (with_reducible assumption))))) hb)
      have yR_1 : w.heap.size + 1 < w1.heap.size := R_1.out.1
      obtain ⟨R_1c0, R_1c1, R_1c2, R_1c3⟩ := Box.facts4 R_1.out
      have R_1f0 := Box.frz R_1.out 0 (by first | decide | simp)
      have R_1f1 := Box.frz R_1.out 1 (by first | decide | simp)
      have R_1f2 := Box.frz R_1.out 2 (by first | decide | simp)
      have R_1f3 := Box.frz R_1.out 3 (by first | decide | simp)
      have z1 := hb.size
      (try simp at z1)
      have D1 := Lib.hid hb; clear hb
      rw [h1]
      go_wp2_with (go_at_call 69; ((with_reducible refine (spec_inRange _ _ _ _).mono ?_); rintro e w' ⟨rfl, rfl⟩))
      go_wp2_with fail
      refine (spec_validGains (oneMore g true x) _).mono ?_
      rintro e w2 ⟨rfl, hb⟩
      have G2 : Hid (Below w.heap.size w w2) := belU hb (by (repeat' (first | (with_reducible exact Below.refl _ _) | (with_reducible refine belS ?_ (by first | omega | (simp; done) | (simp; omega) | (simp only [World.size_alloc, World.size_setCell, World.size_drew] at *; omega))) | (with_reducible refine belA ?_ (by first | omega | (simp; done) | (simp; omega) | (simp only [World.size_alloc, World.size_setCell, World.size_drew] at *; omega))) | (with_reducible refine bel_drewN ?_ _) | (with_reducible refine Below.drew ?_) | (with_reducible assumption) | (refine Hid.out ?_; with_reducible assumption) | (apply belV; (with_reducible assumption); exact (by first | omega | (simp; done) | (simp; omega) | (simp only [World.size_alloc, World.size_setCell, World.size_drew] at *; omega)))))) (by first | omega | (simp; done) | (simp; omega) | (simp only [World.size_alloc, World.size_setCell, World.size_drew] at *; omega))
      have R_2 : Hid (Box w2 (w.heap.size + 1) #[.int .i64 0, .int .i64 0, .int .i64 0, .int .i64 0]) := Lib.hid (Box.below (by (repeat' (first | (with_reducible exact Box.new _ _ _ (by first | omega | (simp; done) | (simp; omega) | (simp only [World.size_alloc, World.size_setCell, World.size_drew] at *; omega))) | (with_reducible refine Box.far ?_ (by first | omega | (simp; done) | (simp; omega) | (simp only [World.size_alloc, World.size_setCell, World.size_drew] at *; omega)) _) | (apply Box.put3_0) | (apply Box.put3_1) | (apply Box.put3_2) | (apply Box.put4_0) | (apply Box.put4_1) | (apply Box.put4_2) | (apply Box.put4_3) | (apply Box.put2_0) | (apply Box.put2_1) | (with_reducible refine Box.alloc ?_ _) | (with_reducible refine Box.drewN ?_ _) | (with_reducible refine Box.drew ?_) | (with_reducible assumption) | (refine Hid.out ?_; with_reducible assumption) | (apply Box.only; (with_reducible assumption); exact (by first | omega | (simp; done) | (simp; omega) | (simp only [World.size_alloc, World.size_setCell, World.size_drew] at *; omega))) | (apply Box.belowD; (with_reducible assumption))))) hb)
      have yR_2 : w.heap.size + 1 < w2.heap.size := R_2.out.1
      obtain ⟨R_2c0, R_2c1, R_2c2, R_2c3⟩ := Box.facts4 R_2.out
      have R_2f0 := Box.frz R_2.out 0 (by first | decide | simp)
      have R_2f1 := Box.frz R_2.out 1 (by first | decide | simp)
      have R_2f2 := Box.frz R_2.out 2 (by first | decide | simp)
      have R_2f3 := Box.frz R_2.out 3 (by first | decide | simp)
      have G_2 : Hid (Box w2 (w.heap.size) #[.int .i64 (g.u + 1), .int .i64 (g.us + x), .int .i64 g.d, .int .i64 g.ds]) := Lib.hid (Box.below (by (repeat' (first | (with_reducible exact Box.new _ _ _ (by first | omega | (simp; done) | (simp; omega) | (simp only [World.size_alloc, World.size_setCell, World.size_drew] at *; omega))) | (with_reducible refine Box.far ?_ (by first | omega | (simp; done) | (simp; omega) | (simp only [World.size_alloc, World.size_setCell, World.size_drew] at *; omega)) _) | (apply Box.put3_0) | (apply Box.put3_1) | (apply Box.put3_2) | (apply Box.put4_0) | (apply Box.put4_1) | (apply Box.put4_2) | (apply Box.put4_3) | (apply Box.put2_0) | (apply Box.put2_1) | (with_reducible refine Box.alloc ?_ _) | (with_reducible refine Box.drewN ?_ _) | (with_reducible refine Box.drew ?_) | (with_reducible assumption) | (refine Hid.out ?_; with_reducible assumption) | (apply Box.only; (with_reducible assumption); exact (by first | omega | (simp; done) | (simp; omega) | (simp only [World.size_alloc, World.size_setCell, World.size_drew] at *; omega))) | (apply Box.belowD; (with_reducible assumption))))) hb)
      have yG_2 : w.heap.size < w2.heap.size := G_2.out.1
      obtain ⟨G_2c0, G_2c1, G_2c2, G_2c3⟩ := Box.facts4 G_2.out
      have G_2f0 := Box.frz G_2.out 0 (by first | decide | simp)
      have G_2f1 := Box.frz G_2.out 1 (by first | decide | simp)
      have G_2f2 := Box.frz G_2.out 2 (by first | decide | simp)
      have G_2f3 := Box.frz G_2.out 3 (by first | decide | simp)
      have z2 := hb.size
      (try simp at z2)
      have D2 := Lib.hid hb; clear hb
      rw [h3]
      go_wp2_with fail
      first
        | exact bodyPost_ret (v := .tuple #[.agg #[.int .i64 0, .int .i64 0, .int .i64 0, .int .i64 0], .bool false]) (by simp [results, Try.results17, go_sem, *]) rfl (AddEnd.no E.out (by (repeat' (first | (with_reducible exact Below.refl _ _) | (with_reducible refine belS ?_ (by first | omega | (simp; done) | (simp; omega) | (simp only [World.size_alloc, World.size_setCell, World.size_drew] at *; omega))) | (with_reducible refine belA ?_ (by first | omega | (simp; done) | (simp; omega) | (simp only [World.size_alloc, World.size_setCell, World.size_drew] at *; omega))) | (with_reducible refine bel_drewN ?_ _) | (with_reducible refine Below.drew ?_) | (with_reducible assumption) | (refine Hid.out ?_; with_reducible assumption) | (apply belV; (with_reducible assumption); exact (by first | omega | (simp; done) | (simp; omega) | (simp only [World.size_alloc, World.size_setCell, World.size_drew] at *; omega)))))))
        | exact bodyPost_ret (v := .tuple #[.agg #[.int .i64 (g.u + 1), .int .i64 (g.us + x), .int .i64 g.d, .int .i64 g.ds], .bool true]) (by simp [results, Try.results17, go_sem, *]) rfl (AddEnd.up E.out (by (repeat' (first | (with_reducible exact Below.refl _ _) | (with_reducible refine belS ?_ (by first | omega | (simp; done) | (simp; omega) | (simp only [World.size_alloc, World.size_setCell, World.size_drew] at *; omega))) | (with_reducible refine belA ?_ (by first | omega | (simp; done) | (simp; omega) | (simp only [World.size_alloc, World.size_setCell, World.size_drew] at *; omega))) | (with_reducible refine bel_drewN ?_ _) | (with_reducible refine Below.drew ?_) | (with_reducible assumption) | (refine Hid.out ?_; with_reducible assumption) | (apply belV; (with_reducible assumption); exact (by first | omega | (simp; done) | (simp; omega) | (simp only [World.size_alloc, World.size_setCell, World.size_drew] at *; omega)))))))
end Go.Proofs.Ytpcfnlffamgdaab
