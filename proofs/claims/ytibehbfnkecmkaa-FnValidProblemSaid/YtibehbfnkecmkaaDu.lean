
/-
  The draws of the laws on rows; rows that are equal.
-/
import Derived.Test.YtibehbfnkecmkaaDt
set_option linter.unusedSimpArgs false
set_option linter.unusedVariables false
namespace Go.Proofs.Ytibehbfnkecmkaa
open Go.RowKit

/-- A row was drawn: its numbers lie in a block of its own. -/
def RowDrawn (w : World) (e : Ending) (w' : World) : Prop :=
  ∃ (g c : Nat) (r : PRow), w.heap.size ≤ g ∧ e = .returned (.agg #[.slice (some ⟨g, 0, none⟩) r.cs.length c, .int .i64 r.s, .int .i64 r.b]) ∧ OwnI w' g r.cs ∧ RowV w' (some ⟨g, 0, none⟩) c r ∧ r.cs.length ≤ 1000 ∧ Below w.heap.size w w'

set_option maxHeartbeats 1000000 in
theorem laws_equalInts0 (A A' : Option Addr) (n c c' : Nat) (xs : List Int) (w : World) (hi : Ints w A n xs) (hj : Ints w A' n xs) (hn : n ≤ 1048576) :
    Calls Try.prog 63 #[.slice A n c, .slice A' n c'] w fun e w' => e = .returned (.bool true) ∧ ∃ m, w' = w.drewN m := by
  have HI := Lib.hid hi; clear hi
  have HJ := Lib.hid hj; clear hj
  go_enter Try.func63, Try.ntmps63
  go_wp2
  go_loopw [5] (fun s5 wr => ∃ k : Nat, k ≤ n ∧ s5 = .int .i64 k ∧ ∃ m, wr = w.drewN m) (fun s5 _ => n - (intOf s5).toNat)
  case atStart => exact ⟨0, by omega, rfl, 0, rfl⟩
  case round =>
    obtain ⟨k, hk, rfl, m, rfl⟩ := hrel
    by_cases hlt : k < n
    · obtain ⟨b, off, x, rfl, hb, hx, hlo, hhi, hc⟩ := HI.out.at_ hlt
      obtain ⟨b', off', x', rfl, hb', hx', hlo', hhi', hc'⟩ := HJ.out.at_ hlt
      rw [hx] at hx'
      injection hx' with hx'
      subst hx'
      clear hx
      go_wp2
      go_quiet (fail)
      go_wp2
      go_roundw
      case rel => exact ⟨k + 1, by omega, by go_num, m + nq, rfl⟩
      case measure => simp [intOf]; omega
    · go_wp2
      go_ret
      exact ⟨rfl, m, rfl⟩
theorem laws_equalInts (A A' : Option Addr) (n c c' : Nat) (xs : List Int) (w : World) (hi : Ints w A n xs) (hj : Ints w A' n xs) (hn : n ≤ 1048576) :
    Calls Try.prog 63 #[.slice A n c, .slice A' n c'] w fun e w' => e = .returned (.bool true) ∧ Below w.heap.size w w' :=
  (laws_equalInts0 _ _ _ _ _ _ _ hi hj hn).mono fun _ _ ⟨h, m, e⟩ => ⟨h, by subst e; exact bel_drewN (Below.refl _ _) m⟩
theorem laws_equalRow (A A' : Option Addr) (c c' : Nat) (r : PRow) (w : World) (h : Ints w A r.cs.length r.cs) (k : Ints w A' r.cs.length r.cs) (hn : r.cs.length ≤ 1048576) :
    Calls Try.prog 17 #[.agg #[.slice A r.cs.length c, .int .i64 r.s, .int .i64 r.b], .agg #[.slice A' r.cs.length c', .int .i64 r.s, .int .i64 r.b]] w fun e w' => e = .returned (.bool true) ∧ Below w.heap.size w w' := by
  have H := Lib.hid h; clear h
  have K := Lib.hid k; clear k
  go_enter Try.func17, Try.ntmps17
  go_wp2_with fail
  refine (laws_equalInts _ _ _ _ _ r.cs _ (H.out.below (by (repeat' (first | (with_reducible exact Below.refl _ _) | (with_reducible refine belS ?_ (by first | omega | (simp; done) | (simp; omega) | (simp only [World.size_alloc, World.size_setCell, World.size_drew] at *; omega))) | (with_reducible refine belA ?_ (by first | omega | (simp; done) | (simp; omega) | (simp only [World.size_alloc, World.size_setCell, World.size_drew] at *; omega))) | (with_reducible refine bel_drewN ?_ _) | (with_reducible refine Below.drew ?_) | (with_reducible assumption) | (refine Hid.out ?_; with_reducible assumption) | (apply belV; (with_reducible assumption); exact (by first | omega | (simp; done) | (simp; omega) | (simp only [World.size_alloc, World.size_setCell, World.size_drew] at *; omega))))))) (K.out.below (by (repeat' (first | (with_reducible exact Below.refl _ _) | (with_reducible refine belS ?_ (by first | omega | (simp; done) | (simp; omega) | (simp only [World.size_alloc, World.size_setCell, World.size_drew] at *; omega))) | (with_reducible refine belA ?_ (by first | omega | (simp; done) | (simp; omega) | (simp only [World.size_alloc, World.size_setCell, World.size_drew] at *; omega))) | (with_reducible refine bel_drewN ?_ _) | (with_reducible refine Below.drew ?_) | (with_reducible assumption) | (refine Hid.out ?_; with_reducible assumption) | (apply belV; (with_reducible assumption); exact (by first | omega | (simp; done) | (simp; omega) | (simp only [World.size_alloc, World.size_setCell, World.size_drew] at *; omega))))))) hn).mono ?_
  rintro e w1 ⟨rfl, hb⟩
  have G1 : Hid (Below w.heap.size w w1) := belU hb (by (repeat' (first | (with_reducible exact Below.refl _ _) | (with_reducible refine belS ?_ (by first | omega | (simp; done) | (simp; omega) | (simp only [World.size_alloc, World.size_setCell, World.size_drew] at *; omega))) | (with_reducible refine belA ?_ (by first | omega | (simp; done) | (simp; omega) | (simp only [World.size_alloc, World.size_setCell, World.size_drew] at *; omega))) | (with_reducible refine bel_drewN ?_ _) | (with_reducible refine Below.drew ?_) | (with_reducible assumption) | (refine Hid.out ?_; with_reducible assumption) | (apply belV; (with_reducible assumption); exact (by first | omega | (simp; done) | (simp; omega) | (simp only [World.size_alloc, World.size_setCell, World.size_drew] at *; omega)))))) (by first | omega | (simp; done) | (simp; omega) | (simp only [World.size_alloc, World.size_setCell, World.size_drew] at *; omega))
  have X_1 : Hid (Box w1 (w.heap.size) #[.slice A r.cs.length c, .int .i64 r.s, .int .i64 r.b]) := Lib.hid (Box.below (by (repeat' (first | (with_reducible exact Box.new _ _ _ (by first | omega | (simp; done) | (simp; omega) | (simp only [World.size_alloc, World.size_setCell, World.size_drew] at *; omega))) | (with_reducible refine Box.far ?_ (by first | omega | (simp; done) | (simp; omega) | (simp only [World.size_alloc, World.size_setCell, World.size_drew] at *; omega)) _) | (apply Box.put3_0) | (apply Box.put3_1) | (apply Box.put3_2) | (apply Box.put2_0) | (apply Box.put2_1) | (with_reducible refine Box.alloc ?_ _) | (with_reducible refine Box.drewN ?_ _) | (with_reducible refine Box.drew ?_) | (with_reducible assumption) | (refine Hid.out ?_; with_reducible assumption) | (apply Box.belowD; (with_reducible assumption)) | (apply Box.only; (with_reducible assumption); exact (by first | omega | (simp; done) | (simp; omega) | (simp only [World.size_alloc, World.size_setCell, World.size_drew] at *; omega)))))) hb)
  have yX_1 : w.heap.size < w1.heap.size := X_1.out.1
  obtain ⟨X_1c0, X_1c1, X_1c2⟩ := Box.facts3 X_1.out
  have Y_1 : Hid (Box w1 (w.heap.size + 1) #[.slice A' r.cs.length c', .int .i64 r.s, .int .i64 r.b]) := Lib.hid (Box.below (by (repeat' (first | (with_reducible exact Box.new _ _ _ (by first | omega | (simp; done) | (simp; omega) | (simp only [World.size_alloc, World.size_setCell, World.size_drew] at *; omega))) | (with_reducible refine Box.far ?_ (by first | omega | (simp; done) | (simp; omega) | (simp only [World.size_alloc, World.size_setCell, World.size_drew] at *; omega)) _) | (apply Box.put3_0) | (apply Box.put3_1) | (apply Box.put3_2) | (apply Box.put2_0) | (apply Box.put2_1) | (with_reducible refine Box.alloc ?_ _) | (with_reducible refine Box.drewN ?_ _) | (with_reducible refine Box.drew ?_) | (with_reducible assumption) | (refine Hid.out ?_; with_reducible assumption) | (apply Box.belowD; (with_reducible assumption)) | (apply Box.only; (with_reducible assumption); exact (by first | omega | (simp; done) | (simp; omega) | (simp only [World.size_alloc, World.size_setCell, World.size_drew] at *; omega)))))) hb)
  have yY_1 : w.heap.size + 1 < w1.heap.size := Y_1.out.1
  obtain ⟨Y_1c0, Y_1c1, Y_1c2⟩ := Box.facts3 Y_1.out
  have z1 := hb.size
  (try simp at z1)
  have D1 := Lib.hid hb; clear hb
  go_wp2_with fail
  go_ret
  exact ⟨rfl, by (repeat' (first | (with_reducible exact Below.refl _ _) | (with_reducible refine belS ?_ (by first | omega | (simp; done) | (simp; omega) | (simp only [World.size_alloc, World.size_setCell, World.size_drew] at *; omega))) | (with_reducible refine belA ?_ (by first | omega | (simp; done) | (simp; omega) | (simp only [World.size_alloc, World.size_setCell, World.size_drew] at *; omega))) | (with_reducible refine bel_drewN ?_ _) | (with_reducible refine Below.drew ?_) | (with_reducible assumption) | (refine Hid.out ?_; with_reducible assumption) | (apply belV; (with_reducible assumption); exact (by first | omega | (simp; done) | (simp; omega) | (simp only [World.size_alloc, World.size_setCell, World.size_drew] at *; omega)))))⟩

theorem RowDrawn.mk {g c n : Nat} {xs : List Int} {s b : Int} {A : Option Addr} {w w' w0 : World} (hg : w.heap.size ≤ g) (ho : OwnI w' g xs) (hi : Ints w0 A n xs) (lc : xs.length ≤ c) (mc : c ≤ maxLen) (hm : xs.length ≤ 1000) (hs : I64 s) (hb : I64 b) (hO : Below w.heap.size w w') :
    RowDrawn w (.returned (.agg #[.slice (some ⟨g, 0, none⟩) xs.length c, .int .i64 s, .int .i64 b])) w' := by
  have e := hi.1
  subst e
  exact ⟨g, c, ⟨xs, s, b⟩, hg, rfl, ho, ⟨ho.ints_of hi, lc, mc, hs, hb⟩, hm, hO⟩
set_option maxHeartbeats 1000000 in
theorem DrawNegateRow_any (len cap : Nat) (a : Option Addr) (w : World) (h : By w.heap.size w a len cap) : Calls Try.prog 15 #[.slice a len cap] w (RowDrawn w) := by
  have H := Lib.hid h; clear h
  go_enter Try.func15, Try.ntmps15
  go_wp2_with fail
  refine (newReader_any w.heap.size _ _ _ _ (H.out.below (by (repeat' (first | (with_reducible exact Below.refl _ _) | (with_reducible refine belS ?_ (by first | omega | (simp; done) | (simp; omega) | (simp only [World.size_alloc, World.size_setCell, World.size_drew] at *; omega))) | (with_reducible refine belA ?_ (by first | omega | (simp; done) | (simp; omega) | (simp only [World.size_alloc, World.size_setCell, World.size_drew] at *; omega))) | (with_reducible refine bel_drewN ?_ _) | (with_reducible refine Below.drew ?_) | (with_reducible assumption) | (refine Hid.out ?_; with_reducible assumption) | (apply belV; (with_reducible assumption); exact (by first | omega | (simp; done) | (simp; omega) | (simp only [World.size_alloc, World.size_setCell, World.size_drew] at *; omega))))))) (by first | omega | (simp; done) | (simp; omega) | (simp only [World.size_alloc, World.size_setCell, World.size_drew] at *; omega))).mono ?_
  rintro e w1 ⟨rfl, hr, hb⟩
  have G1 : Hid (Below w.heap.size w w1) := belU hb (by (repeat' (first | (with_reducible exact Below.refl _ _) | (with_reducible refine belS ?_ (by first | omega | (simp; done) | (simp; omega) | (simp only [World.size_alloc, World.size_setCell, World.size_drew] at *; omega))) | (with_reducible refine belA ?_ (by first | omega | (simp; done) | (simp; omega) | (simp only [World.size_alloc, World.size_setCell, World.size_drew] at *; omega))) | (with_reducible refine bel_drewN ?_ _) | (with_reducible refine Below.drew ?_) | (with_reducible assumption) | (refine Hid.out ?_; with_reducible assumption) | (apply belV; (with_reducible assumption); exact (by first | omega | (simp; done) | (simp; omega) | (simp only [World.size_alloc, World.size_setCell, World.size_drew] at *; omega)))))) (by first | omega | (simp; done) | (simp; omega) | (simp only [World.size_alloc, World.size_setCell, World.size_drew] at *; omega))
  (try simp only [World.size_alloc, World.size_setCell, World.size_drew, World.heap_drewN] at hr)
  have R1 := Lib.hid hr; clear hr
  have R_1 : Hid (Box w1 (w.heap.size) #[.slice none 0 0, .int .i64 0, .int .i64 0]) := Lib.hid (Box.below (by (repeat' (first | (with_reducible exact Box.new _ _ _ (by first | omega | (simp; done) | (simp; omega) | (simp only [World.size_alloc, World.size_setCell, World.size_drew] at *; omega))) | (with_reducible refine Box.far ?_ (by first | omega | (simp; done) | (simp; omega) | (simp only [World.size_alloc, World.size_setCell, World.size_drew] at *; omega)) _) | (apply Box.put3_0) | (apply Box.put3_1) | (apply Box.put3_2) | (apply Box.put2_0) | (apply Box.put2_1) | (with_reducible refine Box.alloc ?_ _) | (with_reducible refine Box.drewN ?_ _) | (with_reducible refine Box.drew ?_) | (with_reducible assumption) | (refine Hid.out ?_; with_reducible assumption) | (apply Box.belowD; (with_reducible assumption)) | (apply Box.only; (with_reducible assumption); exact (by first | omega | (simp; done) | (simp; omega) | (simp only [World.size_alloc, World.size_setCell, World.size_drew] at *; omega)))))) hb)
  have yR_1 : w.heap.size < w1.heap.size := R_1.out.1
  obtain ⟨R_1c0, R_1c1, R_1c2⟩ := Box.facts3 R_1.out
  have R_1f0 := Box.frz R_1.out 0 (by first | decide | simp)
  have R_1f1 := Box.frz R_1.out 1 (by first | decide | simp)
  have R_1f2 := Box.frz R_1.out 2 (by first | decide | simp)
  have z1 := hb.size
  (try simp at z1)
  have D1 := Lib.hid hb; clear hb
  go_wp2_with fail
  refine (pick_any w.heap.size _ 0 _ _ R1.out (by omega) (by omega) (by omega)).mono ?_
  rintro e w2 ⟨v, v0, v1, rfl, hr, ho⟩
  have z2 := ho.size
  have R2 := Lib.hid hr; clear hr
  have D2 := Lib.hid ho; clear ho
  have G2 : Hid (Below w.heap.size w w2) := Lib.hid (Below.trans (by (repeat' (first | (with_reducible exact Below.refl _ _) | (with_reducible refine belS ?_ (by first | omega | (simp; done) | (simp; omega) | (simp only [World.size_alloc, World.size_setCell, World.size_drew] at *; omega))) | (with_reducible refine belA ?_ (by first | omega | (simp; done) | (simp; omega) | (simp only [World.size_alloc, World.size_setCell, World.size_drew] at *; omega))) | (with_reducible refine bel_drewN ?_ _) | (with_reducible refine Below.drew ?_) | (with_reducible assumption) | (refine Hid.out ?_; with_reducible assumption) | (apply belV; (with_reducible assumption); exact (by first | omega | (simp; done) | (simp; omega) | (simp only [World.size_alloc, World.size_setCell, World.size_drew] at *; omega)))))) (Only.below D2.out (by first | omega | (simp; done) | (simp; omega) | (simp only [World.size_alloc, World.size_setCell, World.size_drew] at *; omega)) (by first | omega | (simp; done) | (simp; omega) | (simp only [World.size_alloc, World.size_setCell, World.size_drew] at *; omega))))
  (try simp at z2)
  have R_2 : Hid (Box w2 (w.heap.size) #[.slice none 0 0, .int .i64 0, .int .i64 0]) := Lib.hid (Box.only D2 (by first | omega | (simp; done) | (simp; omega) | (simp only [World.size_alloc, World.size_setCell, World.size_drew] at *; omega)) (by (repeat' (first | (with_reducible exact Box.new _ _ _ (by first | omega | (simp; done) | (simp; omega) | (simp only [World.size_alloc, World.size_setCell, World.size_drew] at *; omega))) | (with_reducible refine Box.far ?_ (by first | omega | (simp; done) | (simp; omega) | (simp only [World.size_alloc, World.size_setCell, World.size_drew] at *; omega)) _) | (apply Box.put3_0) | (apply Box.put3_1) | (apply Box.put3_2) | (apply Box.put2_0) | (apply Box.put2_1) | (with_reducible refine Box.alloc ?_ _) | (with_reducible refine Box.drewN ?_ _) | (with_reducible refine Box.drew ?_) | (with_reducible assumption) | (refine Hid.out ?_; with_reducible assumption) | (apply Box.belowD; (with_reducible assumption)) | (apply Box.only; (with_reducible assumption); exact (by first | omega | (simp; done) | (simp; omega) | (simp only [World.size_alloc, World.size_setCell, World.size_drew] at *; omega)))))))
  have yR_2 : w.heap.size < w2.heap.size := R_2.out.1
  obtain ⟨R_2c0, R_2c1, R_2c2⟩ := Box.facts3 R_2.out
  have R_2f0 := Box.frz R_2.out 0 (by first | decide | simp)
  have R_2f1 := Box.frz R_2.out 1 (by first | decide | simp)
  have R_2f2 := Box.frz R_2.out 2 (by first | decide | simp)
  obtain ⟨m, rfl⟩ := Int.eq_ofNat_of_zero_le v0
  go_wp2_with fail
  refine (anyRow_any w.heap.size _ 1 m _ R2.out (by omega) (by omega)).mono ?_
  rintro e w3 ⟨g, c, r, hg, rfl, og, vr, hm, hr, ho⟩
  have z3 := ho.size
  have R3 := Lib.hid hr; clear hr
  have D3 := Lib.hid ho; clear ho
  have G3 : Hid (Below w.heap.size w w3) := Lib.hid (Below.trans (by (repeat' (first | (with_reducible exact Below.refl _ _) | (with_reducible refine belS ?_ (by first | omega | (simp; done) | (simp; omega) | (simp only [World.size_alloc, World.size_setCell, World.size_drew] at *; omega))) | (with_reducible refine belA ?_ (by first | omega | (simp; done) | (simp; omega) | (simp only [World.size_alloc, World.size_setCell, World.size_drew] at *; omega))) | (with_reducible refine bel_drewN ?_ _) | (with_reducible refine Below.drew ?_) | (with_reducible assumption) | (refine Hid.out ?_; with_reducible assumption) | (apply belV; (with_reducible assumption); exact (by first | omega | (simp; done) | (simp; omega) | (simp only [World.size_alloc, World.size_setCell, World.size_drew] at *; omega)))))) (Only.below D3.out (by first | omega | (simp; done) | (simp; omega) | (simp only [World.size_alloc, World.size_setCell, World.size_drew] at *; omega)) (by first | omega | (simp; done) | (simp; omega) | (simp only [World.size_alloc, World.size_setCell, World.size_drew] at *; omega))))
  (try simp at z3)
  have OG := Lib.hid og; clear og
  have VR := Lib.hid vr; clear vr
  have R_3 : Hid (Box w3 (w.heap.size) #[.slice none 0 0, .int .i64 0, .int .i64 0]) := Lib.hid (Box.only D3 (by first | omega | (simp; done) | (simp; omega) | (simp only [World.size_alloc, World.size_setCell, World.size_drew] at *; omega)) (by (repeat' (first | (with_reducible exact Box.new _ _ _ (by first | omega | (simp; done) | (simp; omega) | (simp only [World.size_alloc, World.size_setCell, World.size_drew] at *; omega))) | (with_reducible refine Box.far ?_ (by first | omega | (simp; done) | (simp; omega) | (simp only [World.size_alloc, World.size_setCell, World.size_drew] at *; omega)) _) | (apply Box.put3_0) | (apply Box.put3_1) | (apply Box.put3_2) | (apply Box.put2_0) | (apply Box.put2_1) | (with_reducible refine Box.alloc ?_ _) | (with_reducible refine Box.drewN ?_ _) | (with_reducible refine Box.drew ?_) | (with_reducible assumption) | (refine Hid.out ?_; with_reducible assumption) | (apply Box.belowD; (with_reducible assumption)) | (apply Box.only; (with_reducible assumption); exact (by first | omega | (simp; done) | (simp; omega) | (simp only [World.size_alloc, World.size_setCell, World.size_drew] at *; omega)))))))
  have yR_3 : w.heap.size < w3.heap.size := R_3.out.1
  obtain ⟨R_3c0, R_3c1, R_3c2⟩ := Box.facts3 R_3.out
  have R_3f0 := Box.frz R_3.out 0 (by first | decide | simp)
  have R_3f1 := Box.frz R_3.out 1 (by first | decide | simp)
  have R_3f2 := Box.frz R_3.out 2 (by first | decide | simp)
  have hw := VR.out.2.2.2
  have gl := OG.out.1
  go_wp2_with fail
  refine bodyPost_ret (v := .agg #[.slice (some ⟨g, 0, none⟩) r.cs.length c, .int .i64 r.s, .int .i64 r.b]) (by simp [results, Try.results15, go_sem, *]) rfl (RowDrawn.mk (by omega) (by (repeat' (first | (with_reducible exact OwnI.madeAt _ _ _ (by first | omega | (simp; done) | (simp; omega) | (simp only [World.size_alloc, World.size_setCell, World.size_drew] at *; omega))) | (with_reducible refine OwnI.far ?_ (by first | omega | (simp; done) | (simp; omega) | (simp only [World.size_alloc, World.size_setCell, World.size_drew] at *; omega)) _) | (with_reducible refine OwnI.alloc ?_ _) | (with_reducible refine OwnI.drewN ?_ _) | (with_reducible refine OwnI.drew ?_) | (with_reducible assumption) | (refine Hid.out ?_; with_reducible assumption) | (apply OwnI.turn; (with_reducible assumption); exact (by first | omega | (simp; done) | (simp; omega) | (simp only [World.size_alloc, World.size_setCell, World.size_drew] at *; omega))) | (apply OwnI.belowD; (with_reducible assumption)) | (apply OwnI.only; (with_reducible assumption); exact (by first | omega | (simp; done) | (simp; omega) | (simp only [World.size_alloc, World.size_setCell, World.size_drew] at *; omega)))))) VR.out.i VR.out.2.1 VR.out.2.2.1 (by omega) hw.1 hw.2 (by (repeat' (first | (with_reducible exact Below.refl _ _) | (with_reducible refine belS ?_ (by first | omega | (simp; done) | (simp; omega) | (simp only [World.size_alloc, World.size_setCell, World.size_drew] at *; omega))) | (with_reducible refine belA ?_ (by first | omega | (simp; done) | (simp; omega) | (simp only [World.size_alloc, World.size_setCell, World.size_drew] at *; omega))) | (with_reducible refine bel_drewN ?_ _) | (with_reducible refine Below.drew ?_) | (with_reducible assumption) | (refine Hid.out ?_; with_reducible assumption) | (apply belV; (with_reducible assumption); exact (by first | omega | (simp; done) | (simp; omega) | (simp only [World.size_alloc, World.size_setCell, World.size_drew] at *; omega)))))))
end Go.Proofs.Ytibehbfnkecmkaa
