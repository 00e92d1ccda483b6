
/-
  Negated rows, more: NegateRow in the program.
-/
import Derived.Test.YtibehbfnkecmkaaNh
set_option linter.unusedSimpArgs false
set_option linter.unusedVariables false
namespace Go.Proofs.Ytibehbfnkecmkaa
open Go.RowKit

set_option maxHeartbeats 1000000 in
theorem impl_rowValid (b0 c : Nat) (r : PRow) (w : World) (hr : RowV w (some ⟨b0, 0, none⟩) c r) : Calls Try.prog 62 #[.agg #[.slice (some ⟨b0, 0, none⟩) r.cs.length c, .int .i64 r.s, .int .i64 r.b]] w fun e w' => e = .returned (.bool (vRow r r.cs.length)) ∧ Below w.heap.size w w' := by
  have HR := Lib.hid hr; clear hr
  go_enter Try.func62, Try.ntmps62
  go_wp2_with fail
  refine (impl_ValidRow _ _ r _ _ (HR.out.below (by (repeat' (first | (with_reducible exact Below.refl _ _) | (with_reducible refine belS ?_ (by first | omega | (simp; done) | (simp; omega) | (simp only [World.size_alloc, World.size_setCell, World.size_drew] at *; omega))) | (with_reducible refine belA ?_ (by first | omega | (simp; done) | (simp; omega) | (simp only [World.size_alloc, World.size_setCell, World.size_drew] at *; omega))) | (with_reducible refine bel_drewN ?_ _) | (with_reducible refine Below.drew ?_) | (with_reducible assumption) | (refine Hid.out ?_; with_reducible assumption) | (apply belV; (with_reducible assumption); exact (by first | omega | (simp; done) | (simp; omega) | (simp only [World.size_alloc, World.size_setCell, World.size_drew] at *; omega)))))))).mono ?_
  rintro e w1 ⟨rfl, hb⟩
  have G1 : Hid (Below w.heap.size w w1) := belU hb (by (repeat' (first | (with_reducible exact Below.refl _ _) | (with_reducible refine belS ?_ (by first | omega | (simp; done) | (simp; omega) | (simp only [World.size_alloc, World.size_setCell, World.size_drew] at *; omega))) | (with_reducible refine belA ?_ (by first | omega | (simp; done) | (simp; omega) | (simp only [World.size_alloc, World.size_setCell, World.size_drew] at *; omega))) | (with_reducible refine bel_drewN ?_ _) | (with_reducible refine Below.drew ?_) | (with_reducible assumption) | (refine Hid.out ?_; with_reducible assumption) | (apply belV; (with_reducible assumption); exact (by first | omega | (simp; done) | (simp; omega) | (simp only [World.size_alloc, World.size_setCell, World.size_drew] at *; omega)))))) (by first | omega | (simp; done) | (simp; omega) | (simp only [World.size_alloc, World.size_setCell, World.size_drew] at *; omega))
  have X_1 : Hid (Box w1 (w.heap.size) #[.slice (some ⟨b0, 0, none⟩) r.cs.length c, .int .i64 r.s, .int .i64 r.b]) := Lib.hid (Box.below (by (repeat' (first | (with_reducible exact Box.new _ _ _ (by first | omega | (simp; done) | (simp; omega) | (simp only [World.size_alloc, World.size_setCell, World.size_drew] at *; omega))) | (with_reducible refine Box.far ?_ (by first | omega | (simp; done) | (simp; omega) | (simp only [World.size_alloc, World.size_setCell, World.size_drew] at *; omega)) _) | (apply Box.put3_0) | (apply Box.put3_1) | (apply Box.put3_2) | (apply Box.put2_0) | (apply Box.put2_1) | (with_reducible refine Box.alloc ?_ _) | (with_reducible refine Box.drewN ?_ _) | (with_reducible refine Box.drew ?_) | (with_reducible assumption) | (refine Hid.out ?_; with_reducible assumption) | (apply Box.belowD; (with_reducible assumption)) | (apply Box.only; (with_reducible assumption); exact (by first | omega | (simp; done) | (simp; omega) | (simp only [World.size_alloc, World.size_setCell, World.size_drew] at *; omega)))))) hb)
  have yX_1 : w.heap.size < w1.heap.size := X_1.out.1
  obtain ⟨X_1c0, X_1c1, X_1c2⟩ := Box.facts3 X_1.out
  have z1 := hb.size
  (try simp at z1)
  have D1 := Lib.hid hb; clear hb
  go_wp2_with fail
  go_ret
  exact ⟨rfl, by (repeat' (first | (with_reducible exact Below.refl _ _) | (with_reducible refine belS ?_ (by first | omega | (simp; done) | (simp; omega) | (simp only [World.size_alloc, World.size_setCell, World.size_drew] at *; omega))) | (with_reducible refine belA ?_ (by first | omega | (simp; done) | (simp; omega) | (simp only [World.size_alloc, World.size_setCell, World.size_drew] at *; omega))) | (with_reducible refine bel_drewN ?_ _) | (with_reducible refine Below.drew ?_) | (with_reducible assumption) | (refine Hid.out ?_; with_reducible assumption) | (apply belV; (with_reducible assumption); exact (by first | omega | (simp; done) | (simp; omega) | (simp only [World.size_alloc, World.size_setCell, World.size_drew] at *; omega)))))⟩

/-- After k rounds over zeros. -/
def zegK (cs : List Int) (k : Nat) : List Int := (cs.take k).map (fun x => -x) ++ List.replicate (cs.length - k) 0
theorem zegK_0 (cs : List Int) : zegK cs 0 = List.replicate cs.length 0 := by simp [zegK]
theorem zegK_end (cs : List Int) : zegK cs cs.length = negK cs cs.length := by simp [zegK, negK]
theorem zegK_at {cs : List Int} {k : Nat} (h : k < cs.length) : (zegK cs k)[k]? = some 0 := by
  have hl : ((cs.take k).map (fun x => -x)).length = k := by simp; omega
  unfold zegK
  rw [List.getElem?_append_right (by omega), hl, Nat.sub_self, List.getElem?_replicate, if_pos (by omega)]
theorem zegK_set {cs : List Int} {k : Nat} {x : Int} (h : cs[k]? = some x) : (zegK cs k).set k (-x) = zegK cs (k + 1) := by
  have hk : k < cs.length := (List.getElem?_eq_some_iff.1 h).1
  have hl : ((cs.take k).map (fun x => -x)).length = k := by simp; omega
  have e : cs.length - k = (cs.length - (k + 1)) + 1 := by omega
  unfold zegK
  rw [e, List.replicate_succ, List.set_append, hl, if_neg (Nat.lt_irrefl _), Nat.sub_self, List.set_cons_zero, List.take_add_one, h, List.map_append]
  simp
def CutM (b0 c : Nat) (r : PRow) (w : World) (s3 : Value) (wx : World) : Prop :=
  ∃ g h : Nat, s3 = .pointer (some ⟨g, 0, none⟩) ∧ (g ≠ h ∧ w.heap.size + 1 < g ∧ w.heap.size + 1 < h ∧ h < wx.heap.size) ∧ Box wx g #[.slice (some ⟨h, 0, none⟩) r.cs.length r.cs.length, .int .i64 r.s, .int .i64 (-r.b)] ∧ OwnI wx h (List.replicate r.cs.length 0) ∧ Box wx w.heap.size #[.slice (some ⟨b0, 0, none⟩) r.cs.length c, .int .i64 r.s, .int .i64 r.b] ∧ Box wx (w.heap.size + 1) #[.slice none 0 0, .int .i64 0, .int .i64 0] ∧ Below w.heap.size w wx

/-- The result is a row of the call's own, with its capacity. -/
def RowEndC (L : PRow) (w : World) (e : Ending) (w' : World) : Prop :=
  ∃ (A : Option Addr) (c : Nat), (L.cs.length ≤ c ∧ c ≤ maxLen) ∧ e = .returned (.agg #[.slice A L.cs.length c, .int .i64 L.s, .int .i64 L.b]) ∧ OwnS w' w.heap.size w'.heap.size A L.cs ∧ Below w.heap.size w w'
theorem RowEndC.nil {L : PRow} {w w' : World} (h : L = ⟨[], 0, 0⟩) (hb : Below w.heap.size w w') : RowEndC L w (.returned (.agg #[.slice none 0 0, .int .i64 0, .int .i64 0])) w' := by
  subst h; exact ⟨none, 0, ⟨Nat.le_refl _, Nat.zero_le _⟩, rfl, OwnS.nil _ _ _ _, hb⟩
theorem RowEndC.neg {r : PRow} {m : Int} {w w' : World} {g : Nat} {s : Int} (hv : vRow r m = true) (hs : negS r.s = s) (ho : OwnI w' g (negK r.cs r.cs.length)) (h1 : w.heap.size ≤ g) (h2 : g < w'.heap.size) (hb : Below w.heap.size w w') :
    RowEndC (negR r) w (.returned (.agg #[.slice (some ⟨g, 0, none⟩) r.cs.length r.cs.length, .int .i64 s, .int .i64 (-r.b)])) w' := by
  subst hs
  rw [negK_end] at ho
  have hl := (vRow_in hv).1
  refine ⟨_, r.cs.length, ⟨by simp [negR], by unfold maxLen; omega⟩, by simp [negR], OwnS.of_own ho h1 h2 (neg_bd hv) (by show (r.cs.map _).length ≤ _; rw [List.length_map]; omega), hb⟩

set_option maxHeartbeats 4000000 in
set_option maxRecDepth 100000 in
theorem impl_NegateRowC (b0 c : Nat) (r : PRow) (w : World) (hr : RowV w (some ⟨b0, 0, none⟩) c r) : Calls Try.prog 16 #[.agg #[.slice (some ⟨b0, 0, none⟩) r.cs.length c, .int .i64 r.s, .int .i64 r.b]] w (RowEndC (ngR r) w) := by
  obtain ⟨i0, hi0, hz0, hz1, hz2⟩ := info_parts info_int
  have HR := Lib.hid hr; clear hr
  cases h1 : vRow r r.cs.length
  · have E := Lib.hid (ngR_0 h1)
    go_enter Try.func16, Try.ntmps16
    go_wp2_with fail
    refine (impl_rowValid _ _ r _ (HR.out.below (by (repeat' (first | (with_reducible exact Below.refl _ _) | (with_reducible refine belS ?_ (by first | omega | (simp; done) | (simp; omega) | (simp only [World.size_alloc, World.size_setCell, World.size_drew] at *; omega))) | (with_reducible refine belA ?_ (by first | omega | (simp; done) | (simp; omega) | (simp only [World.size_alloc, World.size_setCell, World.size_drew] at *; omega))) | (with_reducible refine bel_drewN ?_ _) | (with_reducible refine Below.drew ?_) | (with_reducible assumption) | (refine Hid.out ?_; with_reducible assumption) | (apply belV; (with_reducible assumption); exact (by first | omega | (simp; done) | (simp; omega) | (simp only [World.size_alloc, World.size_setCell, World.size_drew] at *; omega)))))))).mono ?_
    rintro e w1 ⟨rfl, hb⟩
    have G1 : Hid (Below w.heap.size w w1) := belU hb (by (repeat' (first | (with_reducible exact Below.refl _ _) | (with_reducible refine belS ?_ (by first | omega | (simp; done) | (simp; omega) | (simp only [World.size_alloc, World.size_setCell, World.size_drew] at *; omega))) | (with_reducible refine belA ?_ (by first | omega | (simp; done) | (simp; omega) | (simp only [World.size_alloc, World.size_setCell, World.size_drew] at *; omega))) | (with_reducible refine bel_drewN ?_ _) | (with_reducible refine Below.drew ?_) | (with_reducible assumption) | (refine Hid.out ?_; with_reducible assumption) | (apply belV; (with_reducible assumption); exact (by first | omega | (simp; done) | (simp; omega) | (simp only [World.size_alloc, World.size_setCell, World.size_drew] at *; omega)))))) (by first | omega | (simp; done) | (simp; omega) | (simp only [World.size_alloc, World.size_setCell, World.size_drew] at *; omega))
    have X_1 : Hid (Box w1 (w.heap.size) #[.slice (some ⟨b0, 0, none⟩) r.cs.length c, .int .i64 r.s, .int .i64 r.b]) := Lib.hid (Box.below (by (repeat' (first | (with_reducible exact Box.new _ _ _ (by first | omega | (simp; done) | (simp; omega) | (simp only [World.size_alloc, World.size_setCell, World.size_drew] at *; omega))) | (with_reducible refine Box.far ?_ (by first | omega | (simp; done) | (simp; omega) | (simp only [World.size_alloc, World.size_setCell, World.size_drew] at *; omega)) _) | (apply Box.put3_0) | (apply Box.put3_1) | (apply Box.put3_2) | (apply Box.put2_0) | (apply Box.put2_1) | (with_reducible refine Box.alloc ?_ _) | (with_reducible refine Box.drewN ?_ _) | (with_reducible refine Box.drew ?_) | (with_reducible assumption) | (refine Hid.out ?_; with_reducible assumption) | (apply Box.belowD; (with_reducible assumption)) | (apply Box.only; (with_reducible assumption); exact (by first | omega | (simp; done) | (simp; omega) | (simp only [World.size_alloc, World.size_setCell, World.size_drew] at *; omega)))))) hb)
    have yX_1 : w.heap.size < w1.heap.size := X_1.out.1
    obtain ⟨X_1c0, X_1c1, X_1c2⟩ := Box.facts3 X_1.out
    have R_1 : Hid (Box w1 (w.heap.size + 1) #[.slice none 0 0, .int .i64 0, .int .i64 0]) := Lib.hid (Box.below (by (repeat' (first | (with_reducible exact Box.new _ _ _ (by first | omega | (simp; done) | (simp; omega) | (simp only [World.size_alloc, World.size_setCell, World.size_drew] at *; omega))) | (with_reducible refine Box.far ?_ (by first | omega | (simp; done) | (simp; omega) | (simp only [World.size_alloc, World.size_setCell, World.size_drew] at *; omega)) _) | (apply Box.put3_0) | (apply Box.put3_1) | (apply Box.put3_2) | (apply Box.put2_0) | (apply Box.put2_1) | (with_reducible refine Box.alloc ?_ _) | (with_reducible refine Box.drewN ?_ _) | (with_reducible refine Box.drew ?_) | (with_reducible assumption) | (refine Hid.out ?_; with_reducible assumption) | (apply Box.belowD; (with_reducible assumption)) | (apply Box.only; (with_reducible assumption); exact (by first | omega | (simp; done) | (simp; omega) | (simp only [World.size_alloc, World.size_setCell, World.size_drew] at *; omega)))))) hb)
    have yR_1 : w.heap.size + 1 < w1.heap.size := R_1.out.1
    obtain ⟨R_1c0, R_1c1, R_1c2⟩ := Box.facts3 R_1.out
    have R_1f0 := Box.frz R_1.out 0 (by first | decide | simp)
    have R_1f1 := Box.frz R_1.out 1 (by first | decide | simp)
    have R_1f2 := Box.frz R_1.out 2 (by first | decide | simp)
    have z1 := hb.size
    (try simp at z1)
    have D1 := Lib.hid hb; clear hb
    go_wp2_with fail
    exact bodyPost_ret (v := .agg #[.slice none 0 0, .int .i64 0, .int .i64 0]) (by simp [results, Try.results16, go_sem, *]) rfl (RowEndC.nil E.out (by (repeat' (first | (with_reducible exact Below.refl _ _) | (with_reducible refine belS ?_ (by first | omega | (simp; done) | (simp; omega) | (simp only [World.size_alloc, World.size_setCell, World.size_drew] at *; omega))) | (with_reducible refine belA ?_ (by first | omega | (simp; done) | (simp; omega) | (simp only [World.size_alloc, World.size_setCell, World.size_drew] at *; omega))) | (with_reducible refine bel_drewN ?_ _) | (with_reducible refine Below.drew ?_) | (with_reducible assumption) | (refine Hid.out ?_; with_reducible assumption) | (apply belV; (with_reducible assumption); exact (by first | omega | (simp; done) | (simp; omega) | (simp only [World.size_alloc, World.size_setCell, World.size_drew] at *; omega)))))))
  have E := Lib.hid (ngR_1 h1)
  obtain ⟨h5, hin, _, v0, v1⟩ := vRow_in h1
  have HIN := Lib.hid hin; clear hin
  have HV := Lib.hid h1
  have hne : 0 < r.cs.length := by have := vRow_pos h1; omega
  have hwn : IntKind.i64.wrap (-r.b) = -r.b := IntWalk.i64_in _ ⟨by omega, by omega⟩
  have hmk := fun W => run_makeN (P := Try.prog) 23 3 i0 (.int .i64 0) Try.underlying23 hi0 hz0 r.cs.length (by rw [hz2]; omega) (by omega) W
  simp only [hz1, Nat.mul_one] at hmk
  go_enter Try.func16, Try.ntmps16
  go_wp2_with fail
  refine (impl_rowValid _ _ r _ (HR.out.below (by (repeat' (first | (with_reducible exact Below.refl _ _) | (with_reducible refine belS ?_ (by first | omega | (simp; done) | (simp; omega) | (simp only [World.size_alloc, World.size_setCell, World.size_drew] at *; omega))) | (with_reducible refine belA ?_ (by first | omega | (simp; done) | (simp; omega) | (simp only [World.size_alloc, World.size_setCell, World.size_drew] at *; omega))) | (with_reducible refine bel_drewN ?_ _) | (with_reducible refine Below.drew ?_) | (with_reducible assumption) | (refine Hid.out ?_; with_reducible assumption) | (apply belV; (with_reducible assumption); exact (by first | omega | (simp; done) | (simp; omega) | (simp only [World.size_alloc, World.size_setCell, World.size_drew] at *; omega)))))))).mono ?_
  rintro e w1 ⟨rfl, hb⟩
  have G1 : Hid (Below w.heap.size w w1) := belU hb (by (repeat' (first | (with_reducible exact Below.refl _ _) | (with_reducible refine belS ?_ (by first | omega | (simp; done) | (simp; omega) | (simp only [World.size_alloc, World.size_setCell, World.size_drew] at *; omega))) | (with_reducible refine belA ?_ (by first | omega | (simp; done) | (simp; omega) | (simp only [World.size_alloc, World.size_setCell, World.size_drew] at *; omega))) | (with_reducible refine bel_drewN ?_ _) | (with_reducible refine Below.drew ?_) | (with_reducible assumption) | (refine Hid.out ?_; with_reducible assumption) | (apply belV; (with_reducible assumption); exact (by first | omega | (simp; done) | (simp; omega) | (simp only [World.size_alloc, World.size_setCell, World.size_drew] at *; omega)))))) (by first | omega | (simp; done) | (simp; omega) | (simp only [World.size_alloc, World.size_setCell, World.size_drew] at *; omega))
  have X_1 : Hid (Box w1 (w.heap.size) #[.slice (some ⟨b0, 0, none⟩) r.cs.length c, .int .i64 r.s, .int .i64 r.b]) := Lib.hid (Box.below (by (repeat' (first | (with_reducible exact Box.new _ _ _ (by first | omega | (simp; done) | (simp; omega) | (simp only [World.size_alloc, World.size_setCell, World.size_drew] at *; omega))) | (with_reducible refine Box.far ?_ (by first | omega | (simp; done) | (simp; omega) | (simp only [World.size_alloc, World.size_setCell, World.size_drew] at *; omega)) _) | (apply Box.put3_0) | (apply Box.put3_1) | (apply Box.put3_2) | (apply Box.put2_0) | (apply Box.put2_1) | (with_reducible refine Box.alloc ?_ _) | (with_reducible refine Box.drewN ?_ _) | (with_reducible refine Box.drew ?_) | (with_reducible assumption) | (refine Hid.out ?_; with_reducible assumption) | (apply Box.belowD; (with_reducible assumption)) | (apply Box.only; (with_reducible assumption); exact (by first | omega | (simp; done) | (simp; omega) | (simp only [World.size_alloc, World.size_setCell, World.size_drew] at *; omega)))))) hb)
  have yX_1 : w.heap.size < w1.heap.size := X_1.out.1
  obtain ⟨X_1c0, X_1c1, X_1c2⟩ := Box.facts3 X_1.out
  have R_1 : Hid (Box w1 (w.heap.size + 1) #[.slice none 0 0, .int .i64 0, .int .i64 0]) := Lib.hid (Box.below (by (repeat' (first | (with_reducible exact Box.new _ _ _ (by first | omega | (simp; done) | (simp; omega) | (simp only [World.size_alloc, World.size_setCell, World.size_drew] at *; omega))) | (with_reducible refine Box.far ?_ (by first | omega | (simp; done) | (simp; omega) | (simp only [World.size_alloc, World.size_setCell, World.size_drew] at *; omega)) _) | (apply Box.put3_0) | (apply Box.put3_1) | (apply Box.put3_2) | (apply Box.put2_0) | (apply Box.put2_1) | (with_reducible refine Box.alloc ?_ _) | (with_reducible refine Box.drewN ?_ _) | (with_reducible refine Box.drew ?_) | (with_reducible assumption) | (refine Hid.out ?_; with_reducible assumption) | (apply Box.belowD; (with_reducible assumption)) | (apply Box.only; (with_reducible assumption); exact (by first | omega | (simp; done) | (simp; omega) | (simp only [World.size_alloc, World.size_setCell, World.size_drew] at *; omega)))))) hb)
  have yR_1 : w.heap.size + 1 < w1.heap.size := R_1.out.1
  obtain ⟨R_1c0, R_1c1, R_1c2⟩ := Box.facts3 R_1.out
  have R_1f0 := Box.frz R_1.out 0 (by first | decide | simp)
  have R_1f1 := Box.frz R_1.out 1 (by first | decide | simp)
  have R_1f2 := Box.frz R_1.out 2 (by first | decide | simp)
  have z1 := hb.size
  (try simp at z1)
  have D1 := Lib.hid hb; clear hb
  go_upto_region 3 with fail
  go_cut [3] (fun s3 wx => CutM b0 c r w s3 wx)
  case first =>
    go_region
    all_goals
      go_wp2_with fail
      go_meet
      first
        | refine ⟨w1.heap.size, w1.heap.size + 1, rfl, ⟨?_, ?_, ?_, ?_⟩, ?_, ?_, ?_, ?_, ?_⟩
        | refine ⟨w1.heap.size + 1, w1.heap.size, rfl, ⟨?_, ?_, ?_, ?_⟩, ?_, ?_, ?_, ?_, ?_⟩
      · exact (by first | omega | (simp; done) | (simp; omega) | (simp only [World.size_alloc, World.size_setCell, World.size_drew] at *; omega))
      · exact (by first | omega | (simp; done) | (simp; omega) | (simp only [World.size_alloc, World.size_setCell, World.size_drew] at *; omega))
      · exact (by first | omega | (simp; done) | (simp; omega) | (simp only [World.size_alloc, World.size_setCell, World.size_drew] at *; omega))
      · exact (by first | omega | (simp; done) | (simp; omega) | (simp only [World.size_alloc, World.size_setCell, World.size_drew] at *; omega))
      · (repeat' (first | (with_reducible exact Box.new _ _ _ (by first | omega | (simp; done) | (simp; omega) | (simp only [World.size_alloc, World.size_setCell, World.size_drew] at *; omega))) | (with_reducible refine Box.far ?_ (by first | omega | (simp; done) | (simp; omega) | (simp only [World.size_alloc, World.size_setCell, World.size_drew] at *; omega)) _) | (apply Box.put3_0) | (apply Box.put3_1) | (apply Box.put3_2) | (apply Box.put2_0) | (apply Box.put2_1) | (with_reducible refine Box.alloc ?_ _) | (with_reducible refine Box.drewN ?_ _) | (with_reducible refine Box.drew ?_) | (with_reducible assumption) | (refine Hid.out ?_; with_reducible assumption) | (apply Box.belowD; (with_reducible assumption)) | (apply Box.only; (with_reducible assumption); exact (by first | omega | (simp; done) | (simp; omega) | (simp only [World.size_alloc, World.size_setCell, World.size_drew] at *; omega)))))
      · (repeat' (first | (with_reducible exact OwnI.madeAt _ _ _ (by first | omega | (simp; done) | (simp; omega) | (simp only [World.size_alloc, World.size_setCell, World.size_drew] at *; omega))) | (with_reducible refine OwnI.far ?_ (by first | omega | (simp; done) | (simp; omega) | (simp only [World.size_alloc, World.size_setCell, World.size_drew] at *; omega)) _) | (with_reducible refine OwnI.alloc ?_ _) | (with_reducible refine OwnI.drewN ?_ _) | (with_reducible refine OwnI.drew ?_) | (with_reducible assumption) | (refine Hid.out ?_; with_reducible assumption) | (apply OwnI.turn; (with_reducible assumption); exact (by first | omega | (simp; done) | (simp; omega) | (simp only [World.size_alloc, World.size_setCell, World.size_drew] at *; omega))) | (apply OwnI.belowD; (with_reducible assumption)) | (apply OwnI.only; (with_reducible assumption); exact (by first | omega | (simp; done) | (simp; omega) | (simp only [World.size_alloc, World.size_setCell, World.size_drew] at *; omega)))))
      · (repeat' (first | (with_reducible exact Box.new _ _ _ (by first | omega | (simp; done) | (simp; omega) | (simp only [World.size_alloc, World.size_setCell, World.size_drew] at *; omega))) | (with_reducible refine Box.far ?_ (by first | omega | (simp; done) | (simp; omega) | (simp only [World.size_alloc, World.size_setCell, World.size_drew] at *; omega)) _) | (apply Box.put3_0) | (apply Box.put3_1) | (apply Box.put3_2) | (apply Box.put2_0) | (apply Box.put2_1) | (with_reducible refine Box.alloc ?_ _) | (with_reducible refine Box.drewN ?_ _) | (with_reducible refine Box.drew ?_) | (with_reducible assumption) | (refine Hid.out ?_; with_reducible assumption) | (apply Box.belowD; (with_reducible assumption)) | (apply Box.only; (with_reducible assumption); exact (by first | omega | (simp; done) | (simp; omega) | (simp only [World.size_alloc, World.size_setCell, World.size_drew] at *; omega)))))
      · (repeat' (first | (with_reducible exact Box.new _ _ _ (by first | omega | (simp; done) | (simp; omega) | (simp only [World.size_alloc, World.size_setCell, World.size_drew] at *; omega))) | (with_reducible refine Box.far ?_ (by first | omega | (simp; done) | (simp; omega) | (simp only [World.size_alloc, World.size_setCell, World.size_drew] at *; omega)) _) | (apply Box.put3_0) | (apply Box.put3_1) | (apply Box.put3_2) | (apply Box.put2_0) | (apply Box.put2_1) | (with_reducible refine Box.alloc ?_ _) | (with_reducible refine Box.drewN ?_ _) | (with_reducible refine Box.drew ?_) | (with_reducible assumption) | (refine Hid.out ?_; with_reducible assumption) | (apply Box.belowD; (with_reducible assumption)) | (apply Box.only; (with_reducible assumption); exact (by first | omega | (simp; done) | (simp; omega) | (simp only [World.size_alloc, World.size_setCell, World.size_drew] at *; omega)))))
      · (repeat' (first | (with_reducible exact Below.refl _ _) | (with_reducible refine belS ?_ (by first | omega | (simp; done) | (simp; omega) | (simp only [World.size_alloc, World.size_setCell, World.size_drew] at *; omega))) | (with_reducible refine belA ?_ (by first | omega | (simp; done) | (simp; omega) | (simp only [World.size_alloc, World.size_setCell, World.size_drew] at *; omega))) | (with_reducible refine bel_drewN ?_ _) | (with_reducible refine Below.drew ?_) | (with_reducible assumption) | (refine Hid.out ?_; with_reducible assumption) | (apply belV; (with_reducible assumption); exact (by first | omega | (simp; done) | (simp; omega) | (simp only [World.size_alloc, World.size_setCell, World.size_drew] at *; omega)))))
  case rest =>
    clear hwn hmk
    obtain ⟨g, h, rfl, ⟨n1, n2, n3, n4⟩, bg, oh, bx, br, hbel⟩ := hcut
    have zc := bg.1
    obtain ⟨x0, x1, x2⟩ := Box.facts3 bx
    have BG := Lib.hid bg; clear bg
    rw [← zegK_0] at oh
    have OH := Lib.hid oh; clear oh
    have BX := Lib.hid bx; clear bx
    have BR := Lib.hid br; clear br
    have HB := Lib.hid hbel; clear hbel
    go_wp2_with fail
    clear x0 x1 x2
    go_loopw [4, 5, 23] (fun s4 s5 s23 wr => ∃ (k : Nat) (v4 v5 : Value), k ≤ r.cs.length ∧ s4 = v4 ∧ s5 = v5 ∧ s23 = .int .i64 k ∧ Hid (OwnI wr h (zegK r.cs k)) ∧ Hid (Box wr g #[.slice (some ⟨h, 0, none⟩) r.cs.length r.cs.length, .int .i64 r.s, .int .i64 (-r.b)]) ∧ Hid (Box wr w.heap.size #[.slice (some ⟨b0, 0, none⟩) r.cs.length c, .int .i64 r.s, .int .i64 r.b]) ∧ Hid (Box wr (w.heap.size + 1) #[.slice none 0 0, .int .i64 0, .int .i64 0]) ∧ Hid (Below w.heap.size w wr)) (fun _ _ s23 _ => r.cs.length - (intOf s23).toNat)
    case atStart => exact ⟨0, _, _, by omega, rfl, rfl, rfl, OH, BG, BX, BR, HB⟩
    case round =>
      obtain ⟨k, v4, v5, hk, rfl, rfl, rfl, hown, hg, hx, hrr, hbel⟩ := hrel
      have z0 := hg.out.1
      have z1 := hown.out.1
      obtain ⟨g0, g1, g2⟩ := Box.facts3 hg.out
      by_cases hlt : k < r.cs.length
      · have HIR : Ints wr (some ⟨b0, 0, none⟩) r.cs.length r.cs := HR.out.i.below (by (repeat' (first | (with_reducible exact Below.refl _ _) | (with_reducible refine belS ?_ (by first | omega | (simp; done) | (simp; omega) | (simp only [World.size_alloc, World.size_setCell, World.size_drew] at *; omega))) | (with_reducible refine belA ?_ (by first | omega | (simp; done) | (simp; omega) | (simp only [World.size_alloc, World.size_setCell, World.size_drew] at *; omega))) | (with_reducible refine bel_drewN ?_ _) | (with_reducible refine Below.drew ?_) | (with_reducible assumption) | (refine Hid.out ?_; with_reducible assumption) | (apply belV; (with_reducible assumption); exact (by first | omega | (simp; done) | (simp; omega) | (simp only [World.size_alloc, World.size_setCell, World.size_drew] at *; omega))))))
        obtain ⟨b, off, x, eb, hb, hxk, hlo, hhi, hc⟩ := HIR.at_ hlt
        clear HIR
        injection eb with eb
        injection eb with eb1 eb2
        subst eb1 eb2
        have hxb := HIN.out x (List.mem_of_getElem? hxk)
        obtain ⟨xb0, xb1⟩ := hxb
        have o := hown.out.2 k 0 (zegK_at hlt)
        obtain ⟨o1, o2⟩ := o
        have HX := Lib.hid hxk; clear hxk
        have hwx : IntKind.i64.wrap (-x) = -x := IntWalk.i64_in _ ⟨by omega, by omega⟩
        simp only [Nat.zero_add] at hc
        go_wp2_with fail
        go_roundw
        case rel =>
          refine ⟨k + 1, _, _, by omega, rfl, rfl, by go_num, Lib.hid ?_, ?_, ?_, ?_, ?_⟩
          · have o3 := hown.out.set_ (zegK_at hlt) (-x)
            rw [zegK_set HX.out] at o3
            first | exact o3 | exact o3.drew
          · (refine Lib.hid ?_; (repeat' (first | (with_reducible exact Box.new _ _ _ (by first | omega | (simp; done) | (simp; omega) | (simp only [World.size_alloc, World.size_setCell, World.size_drew] at *; omega))) | (with_reducible refine Box.far ?_ (by first | omega | (simp; done) | (simp; omega) | (simp only [World.size_alloc, World.size_setCell, World.size_drew] at *; omega)) _) | (apply Box.put3_0) | (apply Box.put3_1) | (apply Box.put3_2) | (apply Box.put2_0) | (apply Box.put2_1) | (with_reducible refine Box.alloc ?_ _) | (with_reducible refine Box.drewN ?_ _) | (with_reducible refine Box.drew ?_) | (with_reducible assumption) | (refine Hid.out ?_; with_reducible assumption) | (apply Box.belowD; (with_reducible assumption)) | (apply Box.only; (with_reducible assumption); exact (by first | omega | (simp; done) | (simp; omega) | (simp only [World.size_alloc, World.size_setCell, World.size_drew] at *; omega))))))
          · (refine Lib.hid ?_; (repeat' (first | (with_reducible exact Box.new _ _ _ (by first | omega | (simp; done) | (simp; omega) | (simp only [World.size_alloc, World.size_setCell, World.size_drew] at *; omega))) | (with_reducible refine Box.far ?_ (by first | omega | (simp; done) | (simp; omega) | (simp only [World.size_alloc, World.size_setCell, World.size_drew] at *; omega)) _) | (apply Box.put3_0) | (apply Box.put3_1) | (apply Box.put3_2) | (apply Box.put2_0) | (apply Box.put2_1) | (with_reducible refine Box.alloc ?_ _) | (with_reducible refine Box.drewN ?_ _) | (with_reducible refine Box.drew ?_) | (with_reducible assumption) | (refine Hid.out ?_; with_reducible assumption) | (apply Box.belowD; (with_reducible assumption)) | (apply Box.only; (with_reducible assumption); exact (by first | omega | (simp; done) | (simp; omega) | (simp only [World.size_alloc, World.size_setCell, World.size_drew] at *; omega))))))
          · (refine Lib.hid ?_; (repeat' (first | (with_reducible exact Box.new _ _ _ (by first | omega | (simp; done) | (simp; omega) | (simp only [World.size_alloc, World.size_setCell, World.size_drew] at *; omega))) | (with_reducible refine Box.far ?_ (by first | omega | (simp; done) | (simp; omega) | (simp only [World.size_alloc, World.size_setCell, World.size_drew] at *; omega)) _) | (apply Box.put3_0) | (apply Box.put3_1) | (apply Box.put3_2) | (apply Box.put2_0) | (apply Box.put2_1) | (with_reducible refine Box.alloc ?_ _) | (with_reducible refine Box.drewN ?_ _) | (with_reducible refine Box.drew ?_) | (with_reducible assumption) | (refine Hid.out ?_; with_reducible assumption) | (apply Box.belowD; (with_reducible assumption)) | (apply Box.only; (with_reducible assumption); exact (by first | omega | (simp; done) | (simp; omega) | (simp only [World.size_alloc, World.size_setCell, World.size_drew] at *; omega))))))
          · (refine Lib.hid ?_; (repeat' (first | (with_reducible exact Below.refl _ _) | (with_reducible refine belS ?_ (by first | omega | (simp; done) | (simp; omega) | (simp only [World.size_alloc, World.size_setCell, World.size_drew] at *; omega))) | (with_reducible refine belA ?_ (by first | omega | (simp; done) | (simp; omega) | (simp only [World.size_alloc, World.size_setCell, World.size_drew] at *; omega))) | (with_reducible refine bel_drewN ?_ _) | (with_reducible refine Below.drew ?_) | (with_reducible assumption) | (refine Hid.out ?_; with_reducible assumption) | (apply belV; (with_reducible assumption); exact (by first | omega | (simp; done) | (simp; omega) | (simp only [World.size_alloc, World.size_setCell, World.size_drew] at *; omega))))))
        case measure => simp [intOf]; omega
      · have hke : k = r.cs.length := by omega
        subst hke
        rw [zegK_end] at hown
        have hr0 := hrr.out
        obtain ⟨r0, r1, r2⟩ := Box.facts3 hr0
        have f0 := hr0.frz 0 (by decide)
        have f1 := hr0.frz 1 (by decide)
        have f2 := hr0.frz 2 (by decide)
        have fg1 := hg.out.frz 1 (by simp)
        obtain ⟨x0, x1, x2⟩ := Box.facts3 hx.out
        have hr1 := hr0.1
        clear hr0
        by_cases hs1 : r.s = 1
        · have e1 : (r.s == 1) = true := by simp [hs1]
          have N := Lib.hid (negS_1 hs1)
          clear hs1
          go_wp2_with fail
          rw [E.out]
          refine bodyPost_ret (v := .agg #[.slice (some ⟨h, 0, none⟩) r.cs.length r.cs.length, .int .i64 2, .int .i64 (-r.b)]) (by simp [results, Try.results16, go_sem, *]) rfl (RowEndC.neg (g := h) (m := r.cs.length) HV.out (by exact N.out) (by (repeat' (first | (with_reducible exact OwnI.madeAt _ _ _ (by first | omega | (simp; done) | (simp; omega) | (simp only [World.size_alloc, World.size_setCell, World.size_drew] at *; omega))) | (with_reducible refine OwnI.far ?_ (by first | omega | (simp; done) | (simp; omega) | (simp only [World.size_alloc, World.size_setCell, World.size_drew] at *; omega)) _) | (with_reducible refine OwnI.alloc ?_ _) | (with_reducible refine OwnI.drewN ?_ _) | (with_reducible refine OwnI.drew ?_) | (with_reducible assumption) | (refine Hid.out ?_; with_reducible assumption) | (apply OwnI.turn; (with_reducible assumption); exact (by first | omega | (simp; done) | (simp; omega) | (simp only [World.size_alloc, World.size_setCell, World.size_drew] at *; omega))) | (apply OwnI.belowD; (with_reducible assumption)) | (apply OwnI.only; (with_reducible assumption); exact (by first | omega | (simp; done) | (simp; omega) | (simp only [World.size_alloc, World.size_setCell, World.size_drew] at *; omega)))))) (by first | omega | (simp; done) | (simp; omega) | (simp only [World.size_alloc, World.size_setCell, World.size_drew] at *; omega)) (by first | omega | (simp; done) | (simp; omega) | (simp only [World.size_alloc, World.size_setCell, World.size_drew] at *; omega)) (by (repeat' (first | (with_reducible exact Below.refl _ _) | (with_reducible refine belS ?_ (by first | omega | (simp; done) | (simp; omega) | (simp only [World.size_alloc, World.size_setCell, World.size_drew] at *; omega))) | (with_reducible refine belA ?_ (by first | omega | (simp; done) | (simp; omega) | (simp only [World.size_alloc, World.size_setCell, World.size_drew] at *; omega))) | (with_reducible refine bel_drewN ?_ _) | (with_reducible refine Below.drew ?_) | (with_reducible assumption) | (refine Hid.out ?_; with_reducible assumption) | (apply belV; (with_reducible assumption); exact (by first | omega | (simp; done) | (simp; omega) | (simp only [World.size_alloc, World.size_setCell, World.size_drew] at *; omega)))))))
        by_cases hs2 : r.s = 2
        · have e1 : (r.s == 1) = false := by simp [hs1]
          have e2 : (r.s == 2) = true := by simp [hs2]
          have N := Lib.hid (negS_2 hs2)
          clear hs1 hs2
          go_wp2_with fail
          rw [E.out]
          refine bodyPost_ret (v := .agg #[.slice (some ⟨h, 0, none⟩) r.cs.length r.cs.length, .int .i64 1, .int .i64 (-r.b)]) (by simp [results, Try.results16, go_sem, *]) rfl (RowEndC.neg (g := h) (m := r.cs.length) HV.out (by exact N.out) (by (repeat' (first | (with_reducible exact OwnI.madeAt _ _ _ (by first | omega | (simp; done) | (simp; omega) | (simp only [World.size_alloc, World.size_setCell, World.size_drew] at *; omega))) | (with_reducible refine OwnI.far ?_ (by first | omega | (simp; done) | (simp; omega) | (simp only [World.size_alloc, World.size_setCell, World.size_drew] at *; omega)) _) | (with_reducible refine OwnI.alloc ?_ _) | (with_reducible refine OwnI.drewN ?_ _) | (with_reducible refine OwnI.drew ?_) | (with_reducible assumption) | (refine Hid.out ?_; with_reducible assumption) | (apply OwnI.turn; (with_reducible assumption); exact (by first | omega | (simp; done) | (simp; omega) | (simp only [World.size_alloc, World.size_setCell, World.size_drew] at *; omega))) | (apply OwnI.belowD; (with_reducible assumption)) | (apply OwnI.only; (with_reducible assumption); exact (by first | omega | (simp; done) | (simp; omega) | (simp only [World.size_alloc, World.size_setCell, World.size_drew] at *; omega)))))) (by first | omega | (simp; done) | (simp; omega) | (simp only [World.size_alloc, World.size_setCell, World.size_drew] at *; omega)) (by first | omega | (simp; done) | (simp; omega) | (simp only [World.size_alloc, World.size_setCell, World.size_drew] at *; omega)) (by (repeat' (first | (with_reducible exact Below.refl _ _) | (with_reducible refine belS ?_ (by first | omega | (simp; done) | (simp; omega) | (simp only [World.size_alloc, World.size_setCell, World.size_drew] at *; omega))) | (with_reducible refine belA ?_ (by first | omega | (simp; done) | (simp; omega) | (simp only [World.size_alloc, World.size_setCell, World.size_drew] at *; omega))) | (with_reducible refine bel_drewN ?_ _) | (with_reducible refine Below.drew ?_) | (with_reducible assumption) | (refine Hid.out ?_; with_reducible assumption) | (apply belV; (with_reducible assumption); exact (by first | omega | (simp; done) | (simp; omega) | (simp only [World.size_alloc, World.size_setCell, World.size_drew] at *; omega)))))))
        · have e1 : (r.s == 1) = false := by simp [hs1]
          have e2 : (r.s == 2) = false := by simp [hs2]
          have N := Lib.hid (negS_3 hs1 hs2)
          clear hs1 hs2
          go_wp2_with fail
          rw [E.out]
          refine bodyPost_ret (v := .agg #[.slice (some ⟨h, 0, none⟩) r.cs.length r.cs.length, .int .i64 r.s, .int .i64 (-r.b)]) (by simp [results, Try.results16, go_sem, *]) rfl (RowEndC.neg (g := h) (m := r.cs.length) HV.out (by exact N.out) (by (repeat' (first | (with_reducible exact OwnI.madeAt _ _ _ (by first | omega | (simp; done) | (simp; omega) | (simp only [World.size_alloc, World.size_setCell, World.size_drew] at *; omega))) | (with_reducible refine OwnI.far ?_ (by first | omega | (simp; done) | (simp; omega) | (simp only [World.size_alloc, World.size_setCell, World.size_drew] at *; omega)) _) | (with_reducible refine OwnI.alloc ?_ _) | (with_reducible refine OwnI.drewN ?_ _) | (with_reducible refine OwnI.drew ?_) | (with_reducible assumption) | (refine Hid.out ?_; with_reducible assumption) | (apply OwnI.turn; (with_reducible assumption); exact (by first | omega | (simp; done) | (simp; omega) | (simp only [World.size_alloc, World.size_setCell, World.size_drew] at *; omega))) | (apply OwnI.belowD; (with_reducible assumption)) | (apply OwnI.only; (with_reducible assumption); exact (by first | omega | (simp; done) | (simp; omega) | (simp only [World.size_alloc, World.size_setCell, World.size_drew] at *; omega)))))) (by first | omega | (simp; done) | (simp; omega) | (simp only [World.size_alloc, World.size_setCell, World.size_drew] at *; omega)) (by first | omega | (simp; done) | (simp; omega) | (simp only [World.size_alloc, World.size_setCell, World.size_drew] at *; omega)) (by (repeat' (first | (with_reducible exact Below.refl _ _) | (with_reducible refine belS ?_ (by first | omega | (simp; done) | (simp; omega) | (simp only [World.size_alloc, World.size_setCell, World.size_drew] at *; omega))) | (with_reducible refine belA ?_ (by first | omega | (simp; done) | (simp; omega) | (simp only [World.size_alloc, World.size_setCell, World.size_drew] at *; omega))) | (with_reducible refine bel_drewN ?_ _) | (with_reducible refine Below.drew ?_) | (with_reducible assumption) | (refine Hid.out ?_; with_reducible assumption) | (apply belV; (with_reducible assumption); exact (by first | omega | (simp; done) | (simp; omega) | (simp only [World.size_alloc, World.size_setCell, World.size_drew] at *; omega)))))))
theorem impl_NegateRow (b0 c : Nat) (r : PRow) (w : World) (hr : RowV w (some ⟨b0, 0, none⟩) c r) : Calls Try.prog 16 #[.agg #[.slice (some ⟨b0, 0, none⟩) r.cs.length c, .int .i64 r.s, .int .i64 r.b]] w (RowEnd (ngR r) w) :=
  (impl_NegateRowC b0 c r w hr).mono fun _ _ ⟨A, c, _, he, ho, hb⟩ => ⟨A, c, he, ho, hb⟩
end Go.Proofs.Ytibehbfnkecmkaa
