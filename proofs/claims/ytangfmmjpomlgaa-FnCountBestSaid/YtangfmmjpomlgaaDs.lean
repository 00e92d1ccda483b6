
/-
  The draws of rows out of the reader.
-/
import Derived.Test.YtangfmmjpomlgaaDr
set_option linter.unusedSimpArgs false
set_option linter.unusedVariables false
namespace Go.Proofs.Ytangfmmjpomlgaa
open Go.RowKit

/-- A row was drawn: its numbers lie in a block of its own. -/
def DrewRow (B rb P m : Nat) (w : World) (e : Ending) (w' : World) : Prop :=
  ∃ (g c : Nat) (r : PRow), w.heap.size ≤ g ∧ e = .returned (.agg #[.slice (some ⟨g, 0, none⟩) r.cs.length c, .int .i64 r.s, .int .i64 r.b]) ∧ OwnI w' g r.cs ∧ RowV w' (some ⟨g, 0, none⟩) c r ∧ r.cs.length ≤ m ∧ Rd B w' rb P ∧ Only rb w w'

theorem DrewRow.mk {B rb P m g c n : Nat} {xs : List Int} {s b : Int} {w w' w0 : World} {A : Option Addr} (hg : w.heap.size ≤ g) (ho : OwnI w' g xs) (hi : Ints w0 A n xs) (lc : xs.length ≤ c) (mc : c ≤ maxLen) (hm : xs.length ≤ m) (hs : I64 s) (hb : I64 b)
    (hr : Rd B w' rb P) (hO : Only rb w w') : DrewRow B rb P m w (.returned (.agg #[.slice (some ⟨g, 0, none⟩) xs.length c, .int .i64 s, .int .i64 b])) w' := by
  have e := hi.1
  subst e
  exact ⟨g, c, ⟨xs, s, b⟩, hg, rfl, ho, ⟨ho.ints_of hi, lc, mc, hs, hb⟩, hm, hr, hO⟩

set_option maxHeartbeats 4000000 in
set_option maxRecDepth 100000 in
theorem randomRow_any (B rb P n : Nat) (w : World) (hr : Rd B w rb P) (hP : P + n ≤ 800000) (hn : n ≤ 1000) :
    Calls Try.prog 67 #[.pointer (some ⟨rb, 0, none⟩), .int .i64 n] w (DrewRow B rb (P + n + 5) n w) := by
  obtain ⟨i0, hi0, hz0, hz1, hz2⟩ := info_parts info_int
  have hrb := hr.2.1
  have hB := hr.1
  have HR := Lib.hid hr; clear hr
  go_enter Try.func67, Try.ntmps67
  go_wp2_with fail
  refine (pick_any B rb P _ _ (HR.out.alloc _) (by omega) (by omega) (by omega)).mono ?_
  rintro e w1 ⟨u, u0, u1, rfl, hr, ho⟩
  have z1 := ho.size
  have R1 := Lib.hid hr; clear hr
  have D1 := Lib.hid ho; clear ho
  have O1 : Hid (OnlyA rb w w1) := Lib.hid (Only.trans (by (repeat' (first | exact Only.refl _ _ | (with_reducible assumption) | (refine Hid.out ?_; with_reducible assumption) | (refine OnlyA.out ?_; refine Hid.out ?_; with_reducible assumption) | (with_reducible refine Only.setNew ?_ (by first | omega | (simp; done) | (simp; omega) | (simp only [World.size_alloc, World.size_setCell, World.size_drew] at *; omega))) | (with_reducible refine Only.alloc ?_ _) | (with_reducible refine Only.drewN ?_ _) | (with_reducible refine Only.drew ?_) | (apply Only.thenD; (with_reducible assumption)) | (apply Only.belowD; (with_reducible assumption))))) D1.out)
  (try simp at z1)
  have R_1 : Hid (Box w1 (w.heap.size) #[.slice none 0 0, .int .i64 0, .int .i64 0]) := Lib.hid (Box.only D1 (by first | omega | (simp; done) | (simp; omega) | (simp only [World.size_alloc, World.size_setCell, World.size_drew] at *; omega)) (by (repeat' (first | (with_reducible exact Box.new _ _ _ (by first | omega | (simp; done) | (simp; omega) | (simp only [World.size_alloc, World.size_setCell, World.size_drew] at *; omega))) | (with_reducible refine Box.far ?_ (by first | omega | (simp; done) | (simp; omega) | (simp only [World.size_alloc, World.size_setCell, World.size_drew] at *; omega)) _) | (apply Box.put3_0) | (apply Box.put3_1) | (apply Box.put3_2) | (apply Box.put2_0) | (apply Box.put2_1) | (with_reducible refine Box.alloc ?_ _) | (with_reducible refine Box.drewN ?_ _) | (with_reducible refine Box.drew ?_) | (with_reducible assumption) | (refine Hid.out ?_; with_reducible assumption) | (apply Box.only; (with_reducible assumption); exact (by first | omega | (simp; done) | (simp; omega) | (simp only [World.size_alloc, World.size_setCell, World.size_drew] at *; omega))) | (apply Box.belowD; (with_reducible assumption))))))
  have yR_1 : w.heap.size < w1.heap.size := R_1.out.1
  obtain ⟨R_1c0, R_1c1, R_1c2⟩ := Box.facts3 R_1.out
  have R_1f0 := Box.frz R_1.out 0 (by first | decide | simp)
  have R_1f1 := Box.frz R_1.out 1 (by first | decide | simp)
  have R_1f2 := Box.frz R_1.out 2 (by first | decide | simp)
  go_wp2_with fail
  refine (pick_any B rb (P + 1) _ _ (by (repeat' (first | (with_reducible assumption) | (refine Hid.out ?_; with_reducible assumption) | (with_reducible refine Rd.set ?_ (by first | omega | (simp; done) | (simp; omega) | (simp only [World.size_alloc, World.size_setCell, World.size_drew] at *; omega)) (by first | omega | (simp; done) | (simp; omega) | (simp only [World.size_alloc, World.size_setCell, World.size_drew] at *; omega))) | (with_reducible refine Rd.alloc ?_ _) | (with_reducible refine Rd.drewN ?_ _) | (with_reducible refine Rd.drew ?_)))) (by omega) (by omega) (by omega)).mono ?_
  rintro e w2 ⟨v, v0, v1, rfl, hr, ho⟩
  have z2 := ho.size
  have R2 := Lib.hid hr; clear hr
  have D2 := Lib.hid ho; clear ho
  have O2 : Hid (OnlyA rb w w2) := Lib.hid (Only.trans (by (repeat' (first | exact Only.refl _ _ | (with_reducible assumption) | (refine Hid.out ?_; with_reducible assumption) | (refine OnlyA.out ?_; refine Hid.out ?_; with_reducible assumption) | (with_reducible refine Only.setNew ?_ (by first | omega | (simp; done) | (simp; omega) | (simp only [World.size_alloc, World.size_setCell, World.size_drew] at *; omega))) | (with_reducible refine Only.alloc ?_ _) | (with_reducible refine Only.drewN ?_ _) | (with_reducible refine Only.drew ?_) | (apply Only.thenD; (with_reducible assumption)) | (apply Only.belowD; (with_reducible assumption))))) D2.out)
  (try simp at z2)
  have R_2 : Hid (Box w2 (w.heap.size) #[.slice none 0 0, .int .i64 0, .int .i64 0]) := Lib.hid (Box.only D2 (by first | omega | (simp; done) | (simp; omega) | (simp only [World.size_alloc, World.size_setCell, World.size_drew] at *; omega)) (by (repeat' (first | (with_reducible exact Box.new _ _ _ (by first | omega | (simp; done) | (simp; omega) | (simp only [World.size_alloc, World.size_setCell, World.size_drew] at *; omega))) | (with_reducible refine Box.far ?_ (by first | omega | (simp; done) | (simp; omega) | (simp only [World.size_alloc, World.size_setCell, World.size_drew] at *; omega)) _) | (apply Box.put3_0) | (apply Box.put3_1) | (apply Box.put3_2) | (apply Box.put2_0) | (apply Box.put2_1) | (with_reducible refine Box.alloc ?_ _) | (with_reducible refine Box.drewN ?_ _) | (with_reducible refine Box.drew ?_) | (with_reducible assumption) | (refine Hid.out ?_; with_reducible assumption) | (apply Box.only; (with_reducible assumption); exact (by first | omega | (simp; done) | (simp; omega) | (simp only [World.size_alloc, World.size_setCell, World.size_drew] at *; omega))) | (apply Box.belowD; (with_reducible assumption))))))
  have yR_2 : w.heap.size < w2.heap.size := R_2.out.1
  obtain ⟨R_2c0, R_2c1, R_2c2⟩ := Box.facts3 R_2.out
  have R_2f0 := Box.frz R_2.out 0 (by first | decide | simp)
  have R_2f1 := Box.frz R_2.out 1 (by first | decide | simp)
  have R_2f2 := Box.frz R_2.out 2 (by first | decide | simp)
  have hwu : wrap64 (1 + u) = 1 + u := IntWalk.wrap64_in _ ⟨by omega, by omega⟩
  go_wp2_with fail
  refine (pick_any B rb (P + 2) _ _ (by (repeat' (first | (with_reducible assumption) | (refine Hid.out ?_; with_reducible assumption) | (with_reducible refine Rd.set ?_ (by first | omega | (simp; done) | (simp; omega) | (simp only [World.size_alloc, World.size_setCell, World.size_drew] at *; omega)) (by first | omega | (simp; done) | (simp; omega) | (simp only [World.size_alloc, World.size_setCell, World.size_drew] at *; omega))) | (with_reducible refine Rd.alloc ?_ _) | (with_reducible refine Rd.drewN ?_ _) | (with_reducible refine Rd.drew ?_)))) (by omega) (by omega) (by omega)).mono ?_
  rintro e w3 ⟨t, t0, t1, rfl, hr, ho⟩
  have z3 := ho.size
  have R3 := Lib.hid hr; clear hr
  have D3 := Lib.hid ho; clear ho
  have O3 : Hid (OnlyA rb w w3) := Lib.hid (Only.trans (by (repeat' (first | exact Only.refl _ _ | (with_reducible assumption) | (refine Hid.out ?_; with_reducible assumption) | (refine OnlyA.out ?_; refine Hid.out ?_; with_reducible assumption) | (with_reducible refine Only.setNew ?_ (by first | omega | (simp; done) | (simp; omega) | (simp only [World.size_alloc, World.size_setCell, World.size_drew] at *; omega))) | (with_reducible refine Only.alloc ?_ _) | (with_reducible refine Only.drewN ?_ _) | (with_reducible refine Only.drew ?_) | (apply Only.thenD; (with_reducible assumption)) | (apply Only.belowD; (with_reducible assumption))))) D3.out)
  (try simp at z3)
  have R_3 : Hid (Box w3 (w.heap.size) #[.slice none 0 0, .int .i64 0, .int .i64 0]) := Lib.hid (Box.only D3 (by first | omega | (simp; done) | (simp; omega) | (simp only [World.size_alloc, World.size_setCell, World.size_drew] at *; omega)) (by (repeat' (first | (with_reducible exact Box.new _ _ _ (by first | omega | (simp; done) | (simp; omega) | (simp only [World.size_alloc, World.size_setCell, World.size_drew] at *; omega))) | (with_reducible refine Box.far ?_ (by first | omega | (simp; done) | (simp; omega) | (simp only [World.size_alloc, World.size_setCell, World.size_drew] at *; omega)) _) | (apply Box.put3_0) | (apply Box.put3_1) | (apply Box.put3_2) | (apply Box.put2_0) | (apply Box.put2_1) | (with_reducible refine Box.alloc ?_ _) | (with_reducible refine Box.drewN ?_ _) | (with_reducible refine Box.drew ?_) | (with_reducible assumption) | (refine Hid.out ?_; with_reducible assumption) | (apply Box.only; (with_reducible assumption); exact (by first | omega | (simp; done) | (simp; omega) | (simp only [World.size_alloc, World.size_setCell, World.size_drew] at *; omega))) | (apply Box.belowD; (with_reducible assumption))))))
  have yR_3 : w.heap.size < w3.heap.size := R_3.out.1
  obtain ⟨R_3c0, R_3c1, R_3c2⟩ := Box.facts3 R_3.out
  have R_3f0 := Box.frz R_3.out 0 (by first | decide | simp)
  have R_3f1 := Box.frz R_3.out 1 (by first | decide | simp)
  have R_3f2 := Box.frz R_3.out 2 (by first | decide | simp)
  have X_3 : Hid (Box w3 (w2.heap.size) #[.slice none 0 0, .int .i64 (1 + u), .int .i64 v]) := Lib.hid (Box.only D3 (by first | omega | (simp; done) | (simp; omega) | (simp only [World.size_alloc, World.size_setCell, World.size_drew] at *; omega)) (by (repeat' (first | (with_reducible exact Box.new _ _ _ (by first | omega | (simp; done) | (simp; omega) | (simp only [World.size_alloc, World.size_setCell, World.size_drew] at *; omega))) | (with_reducible refine Box.far ?_ (by first | omega | (simp; done) | (simp; omega) | (simp only [World.size_alloc, World.size_setCell, World.size_drew] at *; omega)) _) | (apply Box.put3_0) | (apply Box.put3_1) | (apply Box.put3_2) | (apply Box.put2_0) | (apply Box.put2_1) | (with_reducible refine Box.alloc ?_ _) | (with_reducible refine Box.drewN ?_ _) | (with_reducible refine Box.drew ?_) | (with_reducible assumption) | (refine Hid.out ?_; with_reducible assumption) | (apply Box.only; (with_reducible assumption); exact (by first | omega | (simp; done) | (simp; omega) | (simp only [World.size_alloc, World.size_setCell, World.size_drew] at *; omega))) | (apply Box.belowD; (with_reducible assumption))))))
  have yX_3 : w2.heap.size < w3.heap.size := X_3.out.1
  obtain ⟨X_3c0, X_3c1, X_3c2⟩ := Box.facts3 X_3.out
  have X_3f0 := Box.frz X_3.out 0 (by first | decide | simp)
  have X_3f1 := Box.frz X_3.out 1 (by first | decide | simp)
  have X_3f2 := Box.frz X_3.out 2 (by first | decide | simp)
  by_cases ht : t = 0
  · subst ht
    go_wp2_with fail
    go_loopw [6, 7] (fun s6 s7 wr => ∃ (k : Nat) (v6 : Value) (xs : List Int), k ≤ n ∧ v6 = s6 ∧ s7 = .int .i64 k ∧ Hid (xs.length = k ∧ ∀ x ∈ xs, -2 ≤ x ∧ x ≤ 5) ∧ Hid (v6 ≠ .slice none 0 0) ∧ Hid (Grow wr (w2.heap.size + 1) 3 v6 xs) ∧ Hid (Rd B wr rb (P + 3 + k)) ∧ Hid (Only rb w wr) ∧ Hid (Box wr w.heap.size #[.slice none 0 0, .int .i64 0, .int .i64 0]) ∧ Hid (Box wr w2.heap.size #[.slice none 0 0, .int .i64 (3), .int .i64 v])) (fun _ s7 _ => n - (intOf s7).toNat)
    case atStart => exact ⟨0, _, [], by omega, rfl, rfl, Lib.hid ⟨rfl, by simp⟩, Lib.hid (by simp), (by refine Lib.hid (Grow.lit0_at _ ?_ ?_ _) <;> exact (by first | omega | (simp; done) | (simp; omega) | (simp only [World.size_alloc, World.size_setCell, World.size_drew] at *; omega))), Lib.hid (by (repeat' (first | (with_reducible assumption) | (refine Hid.out ?_; with_reducible assumption) | (with_reducible refine Rd.set ?_ (by first | omega | (simp; done) | (simp; omega) | (simp only [World.size_alloc, World.size_setCell, World.size_drew] at *; omega)) (by first | omega | (simp; done) | (simp; omega) | (simp only [World.size_alloc, World.size_setCell, World.size_drew] at *; omega))) | (with_reducible refine Rd.alloc ?_ _) | (with_reducible refine Rd.drewN ?_ _) | (with_reducible refine Rd.drew ?_)))), Lib.hid (by (repeat' (first | exact Only.refl _ _ | (with_reducible assumption) | (refine Hid.out ?_; with_reducible assumption) | (refine OnlyA.out ?_; refine Hid.out ?_; with_reducible assumption) | (with_reducible refine Only.setNew ?_ (by first | omega | (simp; done) | (simp; omega) | (simp only [World.size_alloc, World.size_setCell, World.size_drew] at *; omega))) | (with_reducible refine Only.alloc ?_ _) | (with_reducible refine Only.drewN ?_ _) | (with_reducible refine Only.drew ?_) | (apply Only.thenD; (with_reducible assumption)) | (apply Only.belowD; (with_reducible assumption))))), Lib.hid (by (repeat' (first | (with_reducible exact Box.new _ _ _ (by first | omega | (simp; done) | (simp; omega) | (simp only [World.size_alloc, World.size_setCell, World.size_drew] at *; omega))) | (with_reducible refine Box.far ?_ (by first | omega | (simp; done) | (simp; omega) | (simp only [World.size_alloc, World.size_setCell, World.size_drew] at *; omega)) _) | (apply Box.put3_0) | (apply Box.put3_1) | (apply Box.put3_2) | (apply Box.put2_0) | (apply Box.put2_1) | (with_reducible refine Box.alloc ?_ _) | (with_reducible refine Box.drewN ?_ _) | (with_reducible refine Box.drew ?_) | (with_reducible assumption) | (refine Hid.out ?_; with_reducible assumption) | (apply Box.only; (with_reducible assumption); exact (by first | omega | (simp; done) | (simp; omega) | (simp only [World.size_alloc, World.size_setCell, World.size_drew] at *; omega))) | (apply Box.belowD; (with_reducible assumption))))), Lib.hid (by (repeat' (first | (with_reducible exact Box.new _ _ _ (by first | omega | (simp; done) | (simp; omega) | (simp only [World.size_alloc, World.size_setCell, World.size_drew] at *; omega))) | (with_reducible refine Box.far ?_ (by first | omega | (simp; done) | (simp; omega) | (simp only [World.size_alloc, World.size_setCell, World.size_drew] at *; omega)) _) | (apply Box.put3_0) | (apply Box.put3_1) | (apply Box.put3_2) | (apply Box.put2_0) | (apply Box.put2_1) | (with_reducible refine Box.alloc ?_ _) | (with_reducible refine Box.drewN ?_ _) | (with_reducible refine Box.drew ?_) | (with_reducible assumption) | (refine Hid.out ?_; with_reducible assumption) | (apply Box.only; (with_reducible assumption); exact (by first | omega | (simp; done) | (simp; omega) | (simp only [World.size_alloc, World.size_setCell, World.size_drew] at *; omega))) | (apply Box.belowD; (with_reducible assumption)))))⟩
    case round =>
      obtain ⟨k, v6, xs, hk, rfl, rfl, hxs, hne, hgr, hrd, ho, hR, hX⟩ := hrel
      obtain ⟨hxl, hxb⟩ := hxs.out
      have zr := ho.out.size
      have y0 := hR.out.1
      have y1 := hX.out.1
      have zg : ∀ j, v6.ownBlock = some j → w2.heap.size + 1 ≤ j := hgr.out.row
      by_cases hlt : k < n
      · go_wp2_with fail
        refine (one_any B rb (P + 3 + k) _ _ [1, 2, 0, 3, 1, -1, 2, -2, 5, 0] _ (hrd.out.alloc _) (by omega) (by decide) (by decide) (by omega) (by simp) (lit_cells (l := [1, 2, 0, 3, 1, -1, 2, -2, 5, 0]))).mono ?_
        rintro e w4 ⟨q, hq, rfl, hr, ho4⟩
        have bq : -2 ≤ q ∧ q ≤ 5 := by simp at hq; omega
        have zz := ho4.size
        (try simp at zz)
        have R4 := Lib.hid hr
        have D4 := Lib.hid ho4
        have O4 : Hid (Only rb w w4) := Lib.hid ((ho.out.alloc _).trans ho4)
        have G4 : Hid (Grow w4 (w2.heap.size + 1) 3 v6 xs) := Lib.hid (Grow.only D4 (by omega) (hgr.out.alloc _))
        have Z4 : Hid (Box w4 w.heap.size #[.slice none 0 0, .int .i64 0, .int .i64 0]) := Lib.hid (Box.only D4 (by omega) (hR.out.alloc _))
        have Y4 : Hid (Box w4 w2.heap.size #[.slice none 0 0, .int .i64 (3), .int .i64 v]) := Lib.hid (Box.only D4 (by omega) (hX.out.alloc _))
        clear hr ho4 hq
        go_wp2_with (
          at_builtin
          refine wpList_append_own _ rfl (.tmp 24) (.tmp 28) 23 rfl (w2.heap.size + 1) 3 i0 (.int .i64 0) 1 8 Try.underlying23 hi0 hz0 hz1 hz2 rfl (by decide) v6 _ _ rfl (G4.out.alloc _).own ⟨w4.heap.size, 0, none⟩ 1 1 [.int .i64 q] rfl rfl ?c1 ?c2 ?c3 ?c4 ?c5 ?_
          case c1 => intro j u hj; (rcases j with _ | j <;> simp at hj); subst hj; simp [go_sem]
          case c2 => intro u hu; simp at hu; subst hu; rfl
          case c3 => unfold maxLen; omega
          case c4 => omega
          case c5 => simp; omega
          intro v' w5 hown' hgrow hnil
          have G5 : Hid (Grow w5 (w2.heap.size + 1) 3 v' (xs ++ [q])) := Lib.hid (Grow.snoc hown')
          have N5 : Hid (v' ≠ .slice none 0 0) := Lib.hid (fun h => by have := hnil.1 h; omega)
          have R5 : Hid (Rd B w5 rb (P + 3 + k + 1)) := Lib.hid ((R4.out.alloc _).grown hgrow (fun j hj => by have := zg j hj; omega))
          have O5 : Hid (Only rb w w5) := Lib.hid ((O4.out.alloc _).grown hgrow (fun j hj => by have := zg j hj; omega))
          have Z5 : Hid (Box w5 w.heap.size #[.slice none 0 0, .int .i64 0, .int .i64 0]) := Lib.hid ((Z4.out.alloc _).grown hgrow (fun j hj => by have := zg j hj; omega))
          have Y5 : Hid (Box w5 w2.heap.size #[.slice none 0 0, .int .i64 (3), .int .i64 v]) := Lib.hid ((Y4.out.alloc _).grown hgrow (fun j hj => by have := zg j hj; omega))
          clear hown' hgrow hnil)
        go_roundw
        case rel => exact ⟨k + 1, _, _, by omega, rfl, by go_num, Lib.hid ⟨by simp [hxl], fun x hx => by
            rcases List.mem_append.1 hx with h | h
            · exact hxs.out.2 x h
            · simp at h; subst h; omega⟩, N5, G5, R5, O5, Z5, Y5⟩
        case measure => simp [intOf]; omega
      · subst hxl
        have hke : n = xs.length := by omega
        subst hke
        obtain ⟨g, cg, rfl, hg1, og, lc, mc, ig⟩ := hgr.out.block hne.out (fun x hx => by have := hxs.out.2 x hx; exact ⟨by omega, by omega⟩)
        have OG := Lib.hid og; clear og
        have IN := Lib.hid ig; clear ig
        have gl := OG.out.1
        clear hgr hne zg
        obtain ⟨r0, r1, r2⟩ := Box.facts3 hR.out
        obtain ⟨x0, x1, x2⟩ := Box.facts3 hX.out
        have f0 := hR.out.frz 0 (by decide)
        have f1 := hR.out.frz 1 (by decide)
        have f2 := hR.out.frz 2 (by decide)
        have e0 := hX.out.frz 0 (by simp)
        have e1 := hX.out.frz 1 (by simp)
        have e2 := hX.out.frz 2 (by simp)
        go_wp2_with fail
        refine (pick_any B rb (P + 3 + xs.length) _ _ (by (repeat' (first | (with_reducible assumption) | (refine Hid.out ?_; with_reducible assumption) | (with_reducible refine Rd.set ?_ (by first | omega | (simp; done) | (simp; omega) | (simp only [World.size_alloc, World.size_setCell, World.size_drew] at *; omega)) (by first | omega | (simp; done) | (simp; omega) | (simp only [World.size_alloc, World.size_setCell, World.size_drew] at *; omega))) | (with_reducible refine Rd.alloc ?_ _) | (with_reducible refine Rd.drewN ?_ _) | (with_reducible refine Rd.drew ?_)))) (by omega) (by omega) (by omega)).mono ?_
        rintro e w6 ⟨t2, t20, t21, rfl, hr, ho⟩
        have z6 := ho.size
        have R6 := Lib.hid hr; clear hr
        have D6 := Lib.hid ho; clear ho
        have O6 : Hid (OnlyA rb w w6) := Lib.hid (Only.trans (by (repeat' (first | exact Only.refl _ _ | (with_reducible assumption) | (refine Hid.out ?_; with_reducible assumption) | (refine OnlyA.out ?_; refine Hid.out ?_; with_reducible assumption) | (with_reducible refine Only.setNew ?_ (by first | omega | (simp; done) | (simp; omega) | (simp only [World.size_alloc, World.size_setCell, World.size_drew] at *; omega))) | (with_reducible refine Only.alloc ?_ _) | (with_reducible refine Only.drewN ?_ _) | (with_reducible refine Only.drew ?_) | (apply Only.thenD; (with_reducible assumption)) | (apply Only.belowD; (with_reducible assumption))))) D6.out)
        (try simp at z6)
        have R_6 : Hid (Box w6 (w.heap.size) #[.slice none 0 0, .int .i64 0, .int .i64 0]) := Lib.hid (Box.only D6 (by first | omega | (simp; done) | (simp; omega) | (simp only [World.size_alloc, World.size_setCell, World.size_drew] at *; omega)) (by (repeat' (first | (with_reducible exact Box.new _ _ _ (by first | omega | (simp; done) | (simp; omega) | (simp only [World.size_alloc, World.size_setCell, World.size_drew] at *; omega))) | (with_reducible refine Box.far ?_ (by first | omega | (simp; done) | (simp; omega) | (simp only [World.size_alloc, World.size_setCell, World.size_drew] at *; omega)) _) | (apply Box.put3_0) | (apply Box.put3_1) | (apply Box.put3_2) | (apply Box.put2_0) | (apply Box.put2_1) | (with_reducible refine Box.alloc ?_ _) | (with_reducible refine Box.drewN ?_ _) | (with_reducible refine Box.drew ?_) | (with_reducible assumption) | (refine Hid.out ?_; with_reducible assumption) | (apply Box.only; (with_reducible assumption); exact (by first | omega | (simp; done) | (simp; omega) | (simp only [World.size_alloc, World.size_setCell, World.size_drew] at *; omega))) | (apply Box.belowD; (with_reducible assumption))))))
        have yR_6 : w.heap.size < w6.heap.size := R_6.out.1
        obtain ⟨R_6c0, R_6c1, R_6c2⟩ := Box.facts3 R_6.out
        have R_6f0 := Box.frz R_6.out 0 (by first | decide | simp)
        have R_6f1 := Box.frz R_6.out 1 (by first | decide | simp)
        have R_6f2 := Box.frz R_6.out 2 (by first | decide | simp)
        have X_6 : Hid (Box w6 (w2.heap.size) #[.slice (some ⟨g, 0, none⟩) xs.length cg, .int .i64 (3), .int .i64 v]) := Lib.hid (Box.only D6 (by first | omega | (simp; done) | (simp; omega) | (simp only [World.size_alloc, World.size_setCell, World.size_drew] at *; omega)) (by (repeat' (first | (with_reducible exact Box.new _ _ _ (by first | omega | (simp; done) | (simp; omega) | (simp only [World.size_alloc, World.size_setCell, World.size_drew] at *; omega))) | (with_reducible refine Box.far ?_ (by first | omega | (simp; done) | (simp; omega) | (simp only [World.size_alloc, World.size_setCell, World.size_drew] at *; omega)) _) | (apply Box.put3_0) | (apply Box.put3_1) | (apply Box.put3_2) | (apply Box.put2_0) | (apply Box.put2_1) | (with_reducible refine Box.alloc ?_ _) | (with_reducible refine Box.drewN ?_ _) | (with_reducible refine Box.drew ?_) | (with_reducible assumption) | (refine Hid.out ?_; with_reducible assumption) | (apply Box.only; (with_reducible assumption); exact (by first | omega | (simp; done) | (simp; omega) | (simp only [World.size_alloc, World.size_setCell, World.size_drew] at *; omega))) | (apply Box.belowD; (with_reducible assumption))))))
        have yX_6 : w2.heap.size < w6.heap.size := X_6.out.1
        obtain ⟨X_6c0, X_6c1, X_6c2⟩ := Box.facts3 X_6.out
        have X_6f0 := Box.frz X_6.out 0 (by first | decide | simp)
        have X_6f1 := Box.frz X_6.out 1 (by first | decide | simp)
        have X_6f2 := Box.frz X_6.out 2 (by first | decide | simp)
        by_cases ht2 : t2 = 0
        · subst ht2
          go_wp2_with fail
          refine (pick_any B rb (P + 3 + xs.length + 1) _ _ (by (repeat' (first | (with_reducible assumption) | (refine Hid.out ?_; with_reducible assumption) | (with_reducible refine Rd.set ?_ (by first | omega | (simp; done) | (simp; omega) | (simp only [World.size_alloc, World.size_setCell, World.size_drew] at *; omega)) (by first | omega | (simp; done) | (simp; omega) | (simp only [World.size_alloc, World.size_setCell, World.size_drew] at *; omega))) | (with_reducible refine Rd.alloc ?_ _) | (with_reducible refine Rd.drewN ?_ _) | (with_reducible refine Rd.drew ?_)))) (by omega) (by omega) (by omega)).mono ?_
          rintro e w7 ⟨s2, s20, s21, rfl, hr, ho⟩
          have z7 := ho.size
          have R7 := Lib.hid hr; clear hr
          have D7 := Lib.hid ho; clear ho
          have O7 : Hid (OnlyA rb w w7) := Lib.hid (Only.trans (by (repeat' (first | exact Only.refl _ _ | (with_reducible assumption) | (refine Hid.out ?_; with_reducible assumption) | (refine OnlyA.out ?_; refine Hid.out ?_; with_reducible assumption) | (with_reducible refine Only.setNew ?_ (by first | omega | (simp; done) | (simp; omega) | (simp only [World.size_alloc, World.size_setCell, World.size_drew] at *; omega))) | (with_reducible refine Only.alloc ?_ _) | (with_reducible refine Only.drewN ?_ _) | (with_reducible refine Only.drew ?_) | (apply Only.thenD; (with_reducible assumption)) | (apply Only.belowD; (with_reducible assumption))))) D7.out)
          (try simp at z7)
          have R_7 : Hid (Box w7 (w.heap.size) #[.slice none 0 0, .int .i64 0, .int .i64 0]) := Lib.hid (Box.only D7 (by first | omega | (simp; done) | (simp; omega) | (simp only [World.size_alloc, World.size_setCell, World.size_drew] at *; omega)) (by (repeat' (first | (with_reducible exact Box.new _ _ _ (by first | omega | (simp; done) | (simp; omega) | (simp only [World.size_alloc, World.size_setCell, World.size_drew] at *; omega))) | (with_reducible refine Box.far ?_ (by first | omega | (simp; done) | (simp; omega) | (simp only [World.size_alloc, World.size_setCell, World.size_drew] at *; omega)) _) | (apply Box.put3_0) | (apply Box.put3_1) | (apply Box.put3_2) | (apply Box.put2_0) | (apply Box.put2_1) | (with_reducible refine Box.alloc ?_ _) | (with_reducible refine Box.drewN ?_ _) | (with_reducible refine Box.drew ?_) | (with_reducible assumption) | (refine Hid.out ?_; with_reducible assumption) | (apply Box.only; (with_reducible assumption); exact (by first | omega | (simp; done) | (simp; omega) | (simp only [World.size_alloc, World.size_setCell, World.size_drew] at *; omega))) | (apply Box.belowD; (with_reducible assumption))))))
          have yR_7 : w.heap.size < w7.heap.size := R_7.out.1
          obtain ⟨R_7c0, R_7c1, R_7c2⟩ := Box.facts3 R_7.out
          have R_7f0 := Box.frz R_7.out 0 (by first | decide | simp)
          have R_7f1 := Box.frz R_7.out 1 (by first | decide | simp)
          have R_7f2 := Box.frz R_7.out 2 (by first | decide | simp)
          have X_7 : Hid (Box w7 (w2.heap.size) #[.slice (some ⟨g, 0, none⟩) xs.length cg, .int .i64 (3), .int .i64 v]) := Lib.hid (Box.only D7 (by first | omega | (simp; done) | (simp; omega) | (simp only [World.size_alloc, World.size_setCell, World.size_drew] at *; omega)) (by (repeat' (first | (with_reducible exact Box.new _ _ _ (by first | omega | (simp; done) | (simp; omega) | (simp only [World.size_alloc, World.size_setCell, World.size_drew] at *; omega))) | (with_reducible refine Box.far ?_ (by first | omega | (simp; done) | (simp; omega) | (simp only [World.size_alloc, World.size_setCell, World.size_drew] at *; omega)) _) | (apply Box.put3_0) | (apply Box.put3_1) | (apply Box.put3_2) | (apply Box.put2_0) | (apply Box.put2_1) | (with_reducible refine Box.alloc ?_ _) | (with_reducible refine Box.drewN ?_ _) | (with_reducible refine Box.drew ?_) | (with_reducible assumption) | (refine Hid.out ?_; with_reducible assumption) | (apply Box.only; (with_reducible assumption); exact (by first | omega | (simp; done) | (simp; omega) | (simp only [World.size_alloc, World.size_setCell, World.size_drew] at *; omega))) | (apply Box.belowD; (with_reducible assumption))))))
          have yX_7 : w2.heap.size < w7.heap.size := X_7.out.1
          obtain ⟨X_7c0, X_7c1, X_7c2⟩ := Box.facts3 X_7.out
          have X_7f0 := Box.frz X_7.out 0 (by first | decide | simp)
          have X_7f1 := Box.frz X_7.out 1 (by first | decide | simp)
          have X_7f2 := Box.frz X_7.out 2 (by first | decide | simp)
          have hwn : IntKind.i64.wrap (-s2) = -s2 := IntWalk.i64_in _ ⟨by omega, by omega⟩
          go_wp2_with fail
          refine bodyPost_ret (v := .agg #[.slice (some ⟨g, 0, none⟩) xs.length cg, .int .i64 (3), .int .i64 (-s2)]) (by simp [results, Try.results67, go_sem, *]) rfl (DrewRow.mk (by omega) (by (repeat' (first | (with_reducible exact OwnI.madeAt _ _ _ (by first | omega | (simp; done) | (simp; omega) | (simp only [World.size_alloc, World.size_setCell, World.size_drew] at *; omega))) | (with_reducible refine OwnI.far ?_ (by first | omega | (simp; done) | (simp; omega) | (simp only [World.size_alloc, World.size_setCell, World.size_drew] at *; omega)) _) | (with_reducible refine OwnI.alloc ?_ _) | (with_reducible refine OwnI.drewN ?_ _) | (with_reducible refine OwnI.drew ?_) | (with_reducible assumption) | (refine Hid.out ?_; with_reducible assumption) | (apply OwnI.turn; (with_reducible assumption); exact (by first | omega | (simp; done) | (simp; omega) | (simp only [World.size_alloc, World.size_setCell, World.size_drew] at *; omega))) | (apply OwnI.only; (with_reducible assumption); exact (by first | omega | (simp; done) | (simp; omega) | (simp only [World.size_alloc, World.size_setCell, World.size_drew] at *; omega))) | (apply OwnI.belowD; (with_reducible assumption))))) IN.out lc mc (Nat.le_refl _) ⟨by omega, by omega⟩ ⟨by omega, by omega⟩ (Rd.mono (P := P + 3 + xs.length + 1 + 1) (by (repeat' (first | (with_reducible assumption) | (refine Hid.out ?_; with_reducible assumption) | (with_reducible refine Rd.set ?_ (by first | omega | (simp; done) | (simp; omega) | (simp only [World.size_alloc, World.size_setCell, World.size_drew] at *; omega)) (by first | omega | (simp; done) | (simp; omega) | (simp only [World.size_alloc, World.size_setCell, World.size_drew] at *; omega))) | (with_reducible refine Rd.alloc ?_ _) | (with_reducible refine Rd.drewN ?_ _) | (with_reducible refine Rd.drew ?_)))) (by omega)) (by (repeat' (first | exact Only.refl _ _ | (with_reducible assumption) | (refine Hid.out ?_; with_reducible assumption) | (refine OnlyA.out ?_; refine Hid.out ?_; with_reducible assumption) | (with_reducible refine Only.setNew ?_ (by first | omega | (simp; done) | (simp; omega) | (simp only [World.size_alloc, World.size_setCell, World.size_drew] at *; omega))) | (with_reducible refine Only.alloc ?_ _) | (with_reducible refine Only.drewN ?_ _) | (with_reducible refine Only.drew ?_) | (apply Only.thenD; (with_reducible assumption)) | (apply Only.belowD; (with_reducible assumption))))))
        · have htb2 : (t2 == 0) = false := by simp [ht2]
          clear ht2
          go_wp2_with fail
          refine bodyPost_ret (v := .agg #[.slice (some ⟨g, 0, none⟩) xs.length cg, .int .i64 (3), .int .i64 v]) (by simp [results, Try.results67, go_sem, *]) rfl (DrewRow.mk (by omega) (by (repeat' (first | (with_reducible exact OwnI.madeAt _ _ _ (by first | omega | (simp; done) | (simp; omega) | (simp only [World.size_alloc, World.size_setCell, World.size_drew] at *; omega))) | (with_reducible refine OwnI.far ?_ (by first | omega | (simp; done) | (simp; omega) | (simp only [World.size_alloc, World.size_setCell, World.size_drew] at *; omega)) _) | (with_reducible refine OwnI.alloc ?_ _) | (with_reducible refine OwnI.drewN ?_ _) | (with_reducible refine OwnI.drew ?_) | (with_reducible assumption) | (refine Hid.out ?_; with_reducible assumption) | (apply OwnI.turn; (with_reducible assumption); exact (by first | omega | (simp; done) | (simp; omega) | (simp only [World.size_alloc, World.size_setCell, World.size_drew] at *; omega))) | (apply OwnI.only; (with_reducible assumption); exact (by first | omega | (simp; done) | (simp; omega) | (simp only [World.size_alloc, World.size_setCell, World.size_drew] at *; omega))) | (apply OwnI.belowD; (with_reducible assumption))))) IN.out lc mc (Nat.le_refl _) ⟨by omega, by omega⟩ ⟨by omega, by omega⟩ (Rd.mono (P := P + 3 + xs.length + 1) (by (repeat' (first | (with_reducible assumption) | (refine Hid.out ?_; with_reducible assumption) | (with_reducible refine Rd.set ?_ (by first | omega | (simp; done) | (simp; omega) | (simp only [World.size_alloc, World.size_setCell, World.size_drew] at *; omega)) (by first | omega | (simp; done) | (simp; omega) | (simp only [World.size_alloc, World.size_setCell, World.size_drew] at *; omega))) | (with_reducible refine Rd.alloc ?_ _) | (with_reducible refine Rd.drewN ?_ _) | (with_reducible refine Rd.drew ?_)))) (by omega)) (by (repeat' (first | exact Only.refl _ _ | (with_reducible assumption) | (refine Hid.out ?_; with_reducible assumption) | (refine OnlyA.out ?_; refine Hid.out ?_; with_reducible assumption) | (with_reducible refine Only.setNew ?_ (by first | omega | (simp; done) | (simp; omega) | (simp only [World.size_alloc, World.size_setCell, World.size_drew] at *; omega))) | (with_reducible refine Only.alloc ?_ _) | (with_reducible refine Only.drewN ?_ _) | (with_reducible refine Only.drew ?_) | (apply Only.thenD; (with_reducible assumption)) | (apply Only.belowD; (with_reducible assumption))))))
  · have htb : (t == 0) = false := by simp [ht]
    clear ht
    go_wp2_with fail
    go_loopw [6, 7] (fun s6 s7 wr => ∃ (k : Nat) (v6 : Value) (xs : List Int), k ≤ n ∧ v6 = s6 ∧ s7 = .int .i64 k ∧ Hid (xs.length = k ∧ ∀ x ∈ xs, -2 ≤ x ∧ x ≤ 5) ∧ Hid (v6 ≠ .slice none 0 0) ∧ Hid (Grow wr (w2.heap.size + 1) 3 v6 xs) ∧ Hid (Rd B wr rb (P + 3 + k)) ∧ Hid (Only rb w wr) ∧ Hid (Box wr w.heap.size #[.slice none 0 0, .int .i64 0, .int .i64 0]) ∧ Hid (Box wr w2.heap.size #[.slice none 0 0, .int .i64 (1 + u), .int .i64 v])) (fun _ s7 _ => n - (intOf s7).toNat)
    case atStart => exact ⟨0, _, [], by omega, rfl, rfl, Lib.hid ⟨rfl, by simp⟩, Lib.hid (by simp), (by refine Lib.hid (Grow.lit0_at _ ?_ ?_ _) <;> exact (by first | omega | (simp; done) | (simp; omega) | (simp only [World.size_alloc, World.size_setCell, World.size_drew] at *; omega))), Lib.hid (by (repeat' (first | (with_reducible assumption) | (refine Hid.out ?_; with_reducible assumption) | (with_reducible refine Rd.set ?_ (by first | omega | (simp; done) | (simp; omega) | (simp only [World.size_alloc, World.size_setCell, World.size_drew] at *; omega)) (by first | omega | (simp; done) | (simp; omega) | (simp only [World.size_alloc, World.size_setCell, World.size_drew] at *; omega))) | (with_reducible refine Rd.alloc ?_ _) | (with_reducible refine Rd.drewN ?_ _) | (with_reducible refine Rd.drew ?_)))), Lib.hid (by (repeat' (first | exact Only.refl _ _ | (with_reducible assumption) | (refine Hid.out ?_; with_reducible assumption) | (refine OnlyA.out ?_; refine Hid.out ?_; with_reducible assumption) | (with_reducible refine Only.setNew ?_ (by first | omega | (simp; done) | (simp; omega) | (simp only [World.size_alloc, World.size_setCell, World.size_drew] at *; omega))) | (with_reducible refine Only.alloc ?_ _) | (with_reducible refine Only.drewN ?_ _) | (with_reducible refine Only.drew ?_) | (apply Only.thenD; (with_reducible assumption)) | (apply Only.belowD; (with_reducible assumption))))), Lib.hid (by (repeat' (first | (with_reducible exact Box.new _ _ _ (by first | omega | (simp; done) | (simp; omega) | (simp only [World.size_alloc, World.size_setCell, World.size_drew] at *; omega))) | (with_reducible refine Box.far ?_ (by first | omega | (simp; done) | (simp; omega) | (simp only [World.size_alloc, World.size_setCell, World.size_drew] at *; omega)) _) | (apply Box.put3_0) | (apply Box.put3_1) | (apply Box.put3_2) | (apply Box.put2_0) | (apply Box.put2_1) | (with_reducible refine Box.alloc ?_ _) | (with_reducible refine Box.drewN ?_ _) | (with_reducible refine Box.drew ?_) | (with_reducible assumption) | (refine Hid.out ?_; with_reducible assumption) | (apply Box.only; (with_reducible assumption); exact (by first | omega | (simp; done) | (simp; omega) | (simp only [World.size_alloc, World.size_setCell, World.size_drew] at *; omega))) | (apply Box.belowD; (with_reducible assumption))))), Lib.hid (by (repeat' (first | (with_reducible exact Box.new _ _ _ (by first | omega | (simp; done) | (simp; omega) | (simp only [World.size_alloc, World.size_setCell, World.size_drew] at *; omega))) | (with_reducible refine Box.far ?_ (by first | omega | (simp; done) | (simp; omega) | (simp only [World.size_alloc, World.size_setCell, World.size_drew] at *; omega)) _) | (apply Box.put3_0) | (apply Box.put3_1) | (apply Box.put3_2) | (apply Box.put2_0) | (apply Box.put2_1) | (with_reducible refine Box.alloc ?_ _) | (with_reducible refine Box.drewN ?_ _) | (with_reducible refine Box.drew ?_) | (with_reducible assumption) | (refine Hid.out ?_; with_reducible assumption) | (apply Box.only; (with_reducible assumption); exact (by first | omega | (simp; done) | (simp; omega) | (simp only [World.size_alloc, World.size_setCell, World.size_drew] at *; omega))) | (apply Box.belowD; (with_reducible assumption)))))⟩
    case round =>
      obtain ⟨k, v6, xs, hk, rfl, rfl, hxs, hne, hgr, hrd, ho, hR, hX⟩ := hrel
      obtain ⟨hxl, hxb⟩ := hxs.out
      have zr := ho.out.size
      have y0 := hR.out.1
      have y1 := hX.out.1
      have zg : ∀ j, v6.ownBlock = some j → w2.heap.size + 1 ≤ j := hgr.out.row
      by_cases hlt : k < n
      · go_wp2_with fail
        refine (one_any B rb (P + 3 + k) _ _ [1, 2, 0, 3, 1, -1, 2, -2, 5, 0] _ (hrd.out.alloc _) (by omega) (by decide) (by decide) (by omega) (by simp) (lit_cells (l := [1, 2, 0, 3, 1, -1, 2, -2, 5, 0]))).mono ?_
        rintro e w4 ⟨q, hq, rfl, hr, ho4⟩
        have bq : -2 ≤ q ∧ q ≤ 5 := by simp at hq; omega
        have zz := ho4.size
        (try simp at zz)
        have R4 := Lib.hid hr
        have D4 := Lib.hid ho4
        have O4 : Hid (Only rb w w4) := Lib.hid ((ho.out.alloc _).trans ho4)
        have G4 : Hid (Grow w4 (w2.heap.size + 1) 3 v6 xs) := Lib.hid (Grow.only D4 (by omega) (hgr.out.alloc _))
        have Z4 : Hid (Box w4 w.heap.size #[.slice none 0 0, .int .i64 0, .int .i64 0]) := Lib.hid (Box.only D4 (by omega) (hR.out.alloc _))
        have Y4 : Hid (Box w4 w2.heap.size #[.slice none 0 0, .int .i64 (1 + u), .int .i64 v]) := Lib.hid (Box.only D4 (by omega) (hX.out.alloc _))
        clear hr ho4 hq
        go_wp2_with (
          at_builtin
          refine wpList_append_own _ rfl (.tmp 24) (.tmp 28) 23 rfl (w2.heap.size + 1) 3 i0 (.int .i64 0) 1 8 Try.underlying23 hi0 hz0 hz1 hz2 rfl (by decide) v6 _ _ rfl (G4.out.alloc _).own ⟨w4.heap.size, 0, none⟩ 1 1 [.int .i64 q] rfl rfl ?c1 ?c2 ?c3 ?c4 ?c5 ?_
          case c1 => intro j u hj; (rcases j with _ | j <;> simp at hj); subst hj; simp [go_sem]
          case c2 => intro u hu; simp at hu; subst hu; rfl
          case c3 => unfold maxLen; omega
          case c4 => omega
          case c5 => simp; omega
          intro v' w5 hown' hgrow hnil
          have G5 : Hid (Grow w5 (w2.heap.size + 1) 3 v' (xs ++ [q])) := Lib.hid (Grow.snoc hown')
          have N5 : Hid (v' ≠ .slice none 0 0) := Lib.hid (fun h => by have := hnil.1 h; omega)
          have R5 : Hid (Rd B w5 rb (P + 3 + k + 1)) := Lib.hid ((R4.out.alloc _).grown hgrow (fun j hj => by have := zg j hj; omega))
          have O5 : Hid (Only rb w w5) := Lib.hid ((O4.out.alloc _).grown hgrow (fun j hj => by have := zg j hj; omega))
          have Z5 : Hid (Box w5 w.heap.size #[.slice none 0 0, .int .i64 0, .int .i64 0]) := Lib.hid ((Z4.out.alloc _).grown hgrow (fun j hj => by have := zg j hj; omega))
          have Y5 : Hid (Box w5 w2.heap.size #[.slice none 0 0, .int .i64 (1 + u), .int .i64 v]) := Lib.hid ((Y4.out.alloc _).grown hgrow (fun j hj => by have := zg j hj; omega))
          clear hown' hgrow hnil)
        go_roundw
        case rel => exact ⟨k + 1, _, _, by omega, rfl, by go_num, Lib.hid ⟨by simp [hxl], fun x hx => by
            rcases List.mem_append.1 hx with h | h
            · exact hxs.out.2 x h
            · simp at h; subst h; omega⟩, N5, G5, R5, O5, Z5, Y5⟩
        case measure => simp [intOf]; omega
      · subst hxl
        have hke : n = xs.length := by omega
        subst hke
        obtain ⟨g, cg, rfl, hg1, og, lc, mc, ig⟩ := hgr.out.block hne.out (fun x hx => by have := hxs.out.2 x hx; exact ⟨by omega, by omega⟩)
        have OG := Lib.hid og; clear og
        have IN := Lib.hid ig; clear ig
        have gl := OG.out.1
        clear hgr hne zg
        obtain ⟨r0, r1, r2⟩ := Box.facts3 hR.out
        obtain ⟨x0, x1, x2⟩ := Box.facts3 hX.out
        have f0 := hR.out.frz 0 (by decide)
        have f1 := hR.out.frz 1 (by decide)
        have f2 := hR.out.frz 2 (by decide)
        have e0 := hX.out.frz 0 (by simp)
        have e1 := hX.out.frz 1 (by simp)
        have e2 := hX.out.frz 2 (by simp)
        go_wp2_with fail
        refine (pick_any B rb (P + 3 + xs.length) _ _ (by (repeat' (first | (with_reducible assumption) | (refine Hid.out ?_; with_reducible assumption) | (with_reducible refine Rd.set ?_ (by first | omega | (simp; done) | (simp; omega) | (simp only [World.size_alloc, World.size_setCell, World.size_drew] at *; omega)) (by first | omega | (simp; done) | (simp; omega) | (simp only [World.size_alloc, World.size_setCell, World.size_drew] at *; omega))) | (with_reducible refine Rd.alloc ?_ _) | (with_reducible refine Rd.drewN ?_ _) | (with_reducible refine Rd.drew ?_)))) (by omega) (by omega) (by omega)).mono ?_
        rintro e w6 ⟨t2, t20, t21, rfl, hr, ho⟩
        have z6 := ho.size
        have R6 := Lib.hid hr; clear hr
        have D6 := Lib.hid ho; clear ho
        have O6 : Hid (OnlyA rb w w6) := Lib.hid (Only.trans (by (repeat' (first | exact Only.refl _ _ | (with_reducible assumption) | (refine Hid.out ?_; with_reducible assumption) | (refine OnlyA.out ?_; refine Hid.out ?_; with_reducible assumption) | (with_reducible refine Only.setNew ?_ (by first | omega | (simp; done) | (simp; omega) | (simp only [World.size_alloc, World.size_setCell, World.size_drew] at *; omega))) | (with_reducible refine Only.alloc ?_ _) | (with_reducible refine Only.drewN ?_ _) | (with_reducible refine Only.drew ?_) | (apply Only.thenD; (with_reducible assumption)) | (apply Only.belowD; (with_reducible assumption))))) D6.out)
        (try simp at z6)
        have R_6 : Hid (Box w6 (w.heap.size) #[.slice none 0 0, .int .i64 0, .int .i64 0]) := Lib.hid (Box.only D6 (by first | omega | (simp; done) | (simp; omega) | (simp only [World.size_alloc, World.size_setCell, World.size_drew] at *; omega)) (by (repeat' (first | (with_reducible exact Box.new _ _ _ (by first | omega | (simp; done) | (simp; omega) | (simp only [World.size_alloc, World.size_setCell, World.size_drew] at *; omega))) | (with_reducible refine Box.far ?_ (by first | omega | (simp; done) | (simp; omega) | (simp only [World.size_alloc, World.size_setCell, World.size_drew] at *; omega)) _) | (apply Box.put3_0) | (apply Box.put3_1) | (apply Box.put3_2) | (apply Box.put2_0) | (apply Box.put2_1) | (with_reducible refine Box.alloc ?_ _) | (with_reducible refine Box.drewN ?_ _) | (with_reducible refine Box.drew ?_) | (with_reducible assumption) | (refine Hid.out ?_; with_reducible assumption) | (apply Box.only; (with_reducible assumption); exact (by first | omega | (simp; done) | (simp; omega) | (simp only [World.size_alloc, World.size_setCell, World.size_drew] at *; omega))) | (apply Box.belowD; (with_reducible assumption))))))
        have yR_6 : w.heap.size < w6.heap.size := R_6.out.1
        obtain ⟨R_6c0, R_6c1, R_6c2⟩ := Box.facts3 R_6.out
        have R_6f0 := Box.frz R_6.out 0 (by first | decide | simp)
        have R_6f1 := Box.frz R_6.out 1 (by first | decide | simp)
        have R_6f2 := Box.frz R_6.out 2 (by first | decide | simp)
        have X_6 : Hid (Box w6 (w2.heap.size) #[.slice (some ⟨g, 0, none⟩) xs.length cg, .int .i64 (1 + u), .int .i64 v]) := Lib.hid (Box.only D6 (by first | omega | (simp; done) | (simp; omega) | (simp only [World.size_alloc, World.size_setCell, World.size_drew] at *; omega)) (by (repeat' (first | (with_reducible exact Box.new _ _ _ (by first | omega | (simp; done) | (simp; omega) | (simp only [World.size_alloc, World.size_setCell, World.size_drew] at *; omega))) | (with_reducible refine Box.far ?_ (by first | omega | (simp; done) | (simp; omega) | (simp only [World.size_alloc, World.size_setCell, World.size_drew] at *; omega)) _) | (apply Box.put3_0) | (apply Box.put3_1) | (apply Box.put3_2) | (apply Box.put2_0) | (apply Box.put2_1) | (with_reducible refine Box.alloc ?_ _) | (with_reducible refine Box.drewN ?_ _) | (with_reducible refine Box.drew ?_) | (with_reducible assumption) | (refine Hid.out ?_; with_reducible assumption) | (apply Box.only; (with_reducible assumption); exact (by first | omega | (simp; done) | (simp; omega) | (simp only [World.size_alloc, World.size_setCell, World.size_drew] at *; omega))) | (apply Box.belowD; (with_reducible assumption))))))
        have yX_6 : w2.heap.size < w6.heap.size := X_6.out.1
        obtain ⟨X_6c0, X_6c1, X_6c2⟩ := Box.facts3 X_6.out
        have X_6f0 := Box.frz X_6.out 0 (by first | decide | simp)
        have X_6f1 := Box.frz X_6.out 1 (by first | decide | simp)
        have X_6f2 := Box.frz X_6.out 2 (by first | decide | simp)
        by_cases ht2 : t2 = 0
        · subst ht2
          go_wp2_with fail
          refine (pick_any B rb (P + 3 + xs.length + 1) _ _ (by (repeat' (first | (with_reducible assumption) | (refine Hid.out ?_; with_reducible assumption) | (with_reducible refine Rd.set ?_ (by first | omega | (simp; done) | (simp; omega) | (simp only [World.size_alloc, World.size_setCell, World.size_drew] at *; omega)) (by first | omega | (simp; done) | (simp; omega) | (simp only [World.size_alloc, World.size_setCell, World.size_drew] at *; omega))) | (with_reducible refine Rd.alloc ?_ _) | (with_reducible refine Rd.drewN ?_ _) | (with_reducible refine Rd.drew ?_)))) (by omega) (by omega) (by omega)).mono ?_
          rintro e w7 ⟨s2, s20, s21, rfl, hr, ho⟩
          have z7 := ho.size
          have R7 := Lib.hid hr; clear hr
          have D7 := Lib.hid ho; clear ho
          have O7 : Hid (OnlyA rb w w7) := Lib.hid (Only.trans (by (repeat' (first | exact Only.refl _ _ | (with_reducible assumption) | (refine Hid.out ?_; with_reducible assumption) | (refine OnlyA.out ?_; refine Hid.out ?_; with_reducible assumption) | (with_reducible refine Only.setNew ?_ (by first | omega | (simp; done) | (simp; omega) | (simp only [World.size_alloc, World.size_setCell, World.size_drew] at *; omega))) | (with_reducible refine Only.alloc ?_ _) | (with_reducible refine Only.drewN ?_ _) | (with_reducible refine Only.drew ?_) | (apply Only.thenD; (with_reducible assumption)) | (apply Only.belowD; (with_reducible assumption))))) D7.out)
          (try simp at z7)
          have R_7 : Hid (Box w7 (w.heap.size) #[.slice none 0 0, .int .i64 0, .int .i64 0]) := Lib.hid (Box.only D7 (by first | omega | (simp; done) | (simp; omega) | (simp only [World.size_alloc, World.size_setCell, World.size_drew] at *; omega)) (by (repeat' (first | (with_reducible exact Box.new _ _ _ (by first | omega | (simp; done) | (simp; omega) | (simp only [World.size_alloc, World.size_setCell, World.size_drew] at *; omega))) | (with_reducible refine Box.far ?_ (by first | omega | (simp; done) | (simp; omega) | (simp only [World.size_alloc, World.size_setCell, World.size_drew] at *; omega)) _) | (apply Box.put3_0) | (apply Box.put3_1) | (apply Box.put3_2) | (apply Box.put2_0) | (apply Box.put2_1) | (with_reducible refine Box.alloc ?_ _) | (with_reducible refine Box.drewN ?_ _) | (with_reducible refine Box.drew ?_) | (with_reducible assumption) | (refine Hid.out ?_; with_reducible assumption) | (apply Box.only; (with_reducible assumption); exact (by first | omega | (simp; done) | (simp; omega) | (simp only [World.size_alloc, World.size_setCell, World.size_drew] at *; omega))) | (apply Box.belowD; (with_reducible assumption))))))
          have yR_7 : w.heap.size < w7.heap.size := R_7.out.1
          obtain ⟨R_7c0, R_7c1, R_7c2⟩ := Box.facts3 R_7.out
          have R_7f0 := Box.frz R_7.out 0 (by first | decide | simp)
          have R_7f1 := Box.frz R_7.out 1 (by first | decide | simp)
          have R_7f2 := Box.frz R_7.out 2 (by first | decide | simp)
          have X_7 : Hid (Box w7 (w2.heap.size) #[.slice (some ⟨g, 0, none⟩) xs.length cg, .int .i64 (1 + u), .int .i64 v]) := Lib.hid (Box.only D7 (by first | omega | (simp; done) | (simp; omega) | (simp only [World.size_alloc, World.size_setCell, World.size_drew] at *; omega)) (by (repeat' (first | (with_reducible exact Box.new _ _ _ (by first | omega | (simp; done) | (simp; omega) | (simp only [World.size_alloc, World.size_setCell, World.size_drew] at *; omega))) | (with_reducible refine Box.far ?_ (by first | omega | (simp; done) | (simp; omega) | (simp only [World.size_alloc, World.size_setCell, World.size_drew] at *; omega)) _) | (apply Box.put3_0) | (apply Box.put3_1) | (apply Box.put3_2) | (apply Box.put2_0) | (apply Box.put2_1) | (with_reducible refine Box.alloc ?_ _) | (with_reducible refine Box.drewN ?_ _) | (with_reducible refine Box.drew ?_) | (with_reducible assumption) | (refine Hid.out ?_; with_reducible assumption) | (apply Box.only; (with_reducible assumption); exact (by first | omega | (simp; done) | (simp; omega) | (simp only [World.size_alloc, World.size_setCell, World.size_drew] at *; omega))) | (apply Box.belowD; (with_reducible assumption))))))
          have yX_7 : w2.heap.size < w7.heap.size := X_7.out.1
          obtain ⟨X_7c0, X_7c1, X_7c2⟩ := Box.facts3 X_7.out
          have X_7f0 := Box.frz X_7.out 0 (by first | decide | simp)
          have X_7f1 := Box.frz X_7.out 1 (by first | decide | simp)
          have X_7f2 := Box.frz X_7.out 2 (by first | decide | simp)
          have hwn : IntKind.i64.wrap (-s2) = -s2 := IntWalk.i64_in _ ⟨by omega, by omega⟩
          go_wp2_with fail
          refine bodyPost_ret (v := .agg #[.slice (some ⟨g, 0, none⟩) xs.length cg, .int .i64 (1 + u), .int .i64 (-s2)]) (by simp [results, Try.results67, go_sem, *]) rfl (DrewRow.mk (by omega) (by (repeat' (first | (with_reducible exact OwnI.madeAt _ _ _ (by first | omega | (simp; done) | (simp; omega) | (simp only [World.size_alloc, World.size_setCell, World.size_drew] at *; omega))) | (with_reducible refine OwnI.far ?_ (by first | omega | (simp; done) | (simp; omega) | (simp only [World.size_alloc, World.size_setCell, World.size_drew] at *; omega)) _) | (with_reducible refine OwnI.alloc ?_ _) | (with_reducible refine OwnI.drewN ?_ _) | (with_reducible refine OwnI.drew ?_) | (with_reducible assumption) | (refine Hid.out ?_; with_reducible assumption) | (apply OwnI.turn; (with_reducible assumption); exact (by first | omega | (simp; done) | (simp; omega) | (simp only [World.size_alloc, World.size_setCell, World.size_drew] at *; omega))) | (apply OwnI.only; (with_reducible assumption); exact (by first | omega | (simp; done) | (simp; omega) | (simp only [World.size_alloc, World.size_setCell, World.size_drew] at *; omega))) | (apply OwnI.belowD; (with_reducible assumption))))) IN.out lc mc (Nat.le_refl _) ⟨by omega, by omega⟩ ⟨by omega, by omega⟩ (Rd.mono (P := P + 3 + xs.length + 1 + 1) (by (repeat' (first | (with_reducible assumption) | (refine Hid.out ?_; with_reducible assumption) | (with_reducible refine Rd.set ?_ (by first | omega | (simp; done) | (simp; omega) | (simp only [World.size_alloc, World.size_setCell, World.size_drew] at *; omega)) (by first | omega | (simp; done) | (simp; omega) | (simp only [World.size_alloc, World.size_setCell, World.size_drew] at *; omega))) | (with_reducible refine Rd.alloc ?_ _) | (with_reducible refine Rd.drewN ?_ _) | (with_reducible refine Rd.drew ?_)))) (by omega)) (by (repeat' (first | exact Only.refl _ _ | (with_reducible assumption) | (refine Hid.out ?_; with_reducible assumption) | (refine OnlyA.out ?_; refine Hid.out ?_; with_reducible assumption) | (with_reducible refine Only.setNew ?_ (by first | omega | (simp; done) | (simp; omega) | (simp only [World.size_alloc, World.size_setCell, World.size_drew] at *; omega))) | (with_reducible refine Only.alloc ?_ _) | (with_reducible refine Only.drewN ?_ _) | (with_reducible refine Only.drew ?_) | (apply Only.thenD; (with_reducible assumption)) | (apply Only.belowD; (with_reducible assumption))))))
        · have htb2 : (t2 == 0) = false := by simp [ht2]
          clear ht2
          go_wp2_with fail
          refine bodyPost_ret (v := .agg #[.slice (some ⟨g, 0, none⟩) xs.length cg, .int .i64 (1 + u), .int .i64 v]) (by simp [results, Try.results67, go_sem, *]) rfl (DrewRow.mk (by omega) (by (repeat' (first | (with_reducible exact OwnI.madeAt _ _ _ (by first | omega | (simp; done) | (simp; omega) | (simp only [World.size_alloc, World.size_setCell, World.size_drew] at *; omega))) | (with_reducible refine OwnI.far ?_ (by first | omega | (simp; done) | (simp; omega) | (simp only [World.size_alloc, World.size_setCell, World.size_drew] at *; omega)) _) | (with_reducible refine OwnI.alloc ?_ _) | (with_reducible refine OwnI.drewN ?_ _) | (with_reducible refine OwnI.drew ?_) | (with_reducible assumption) | (refine Hid.out ?_; with_reducible assumption) | (apply OwnI.turn; (with_reducible assumption); exact (by first | omega | (simp; done) | (simp; omega) | (simp only [World.size_alloc, World.size_setCell, World.size_drew] at *; omega))) | (apply OwnI.only; (with_reducible assumption); exact (by first | omega | (simp; done) | (simp; omega) | (simp only [World.size_alloc, World.size_setCell, World.size_drew] at *; omega))) | (apply OwnI.belowD; (with_reducible assumption))))) IN.out lc mc (Nat.le_refl _) ⟨by omega, by omega⟩ ⟨by omega, by omega⟩ (Rd.mono (P := P + 3 + xs.length + 1) (by (repeat' (first | (with_reducible assumption) | (refine Hid.out ?_; with_reducible assumption) | (with_reducible refine Rd.set ?_ (by first | omega | (simp; done) | (simp; omega) | (simp only [World.size_alloc, World.size_setCell, World.size_drew] at *; omega)) (by first | omega | (simp; done) | (simp; omega) | (simp only [World.size_alloc, World.size_setCell, World.size_drew] at *; omega))) | (with_reducible refine Rd.alloc ?_ _) | (with_reducible refine Rd.drewN ?_ _) | (with_reducible refine Rd.drew ?_)))) (by omega)) (by (repeat' (first | exact Only.refl _ _ | (with_reducible assumption) | (refine Hid.out ?_; with_reducible assumption) | (refine OnlyA.out ?_; refine Hid.out ?_; with_reducible assumption) | (with_reducible refine Only.setNew ?_ (by first | omega | (simp; done) | (simp; omega) | (simp only [World.size_alloc, World.size_setCell, World.size_drew] at *; omega))) | (with_reducible refine Only.alloc ?_ _) | (with_reducible refine Only.drewN ?_ _) | (with_reducible refine Only.drew ?_) | (apply Only.thenD; (with_reducible assumption)) | (apply Only.belowD; (with_reducible assumption))))))
end Go.Proofs.Ytangfmmjpomlgaa
