
/-
  The draws of problems out of the reader.
-/
import Derived.Test.YtangfmmjpomlgaaDw
import Derived.Test.YtangfmmjpomlgaaGr
set_option linter.unusedSimpArgs false
set_option linter.unusedVariables false
namespace Go.Proofs.Ytangfmmjpomlgaa
open Go.RowKit

theorem wrap64_bd (x : Int) : I64 (wrap64 x) := by unfold I64 wrap64; omega
theorem dotW_bd (xs ys : List Int) : I64 (dotW xs ys) := by
  unfold dotW
  cases xs.length with
  | zero => exact (show I64 0 from ⟨by decide, by decide⟩)
  | succ k => exact wrap64_bd _
theorem spec_dotB (A A' : Option Addr) (n n' c c' : Nat) (xs ys : List Int) (w : World) (hI : Ints w A n xs) (hJ : Ints w A' n' ys) (hn : n ≤ maxLen) (hnn : n ≤ n') (hn' : n' ≤ maxLen) :
    Calls Try.prog 39 #[.slice A n c, .slice A' n' c'] w fun e w' => e = .returned (.int .i64 (dotW xs ys)) ∧ Below w.heap.size w w' :=
  (spec_dot _ _ _ _ _ _ _ _ _ hI hJ hn hnn hn').mono fun _ _ ⟨h, m, e⟩ => ⟨h, by subst e; exact bel_drewN (Below.refl _ _) m⟩
theorem randomRow_at (B rb P n : Nat) (k : Int) (w : World) (hr : Rd B w rb P) (hP : P + n ≤ 800000) (hn : n ≤ 1000) (hk : k = (n : Int)) :
    Calls Try.prog 67 #[.pointer (some ⟨rb, 0, none⟩), .int .i64 k] w (DrewRow B rb (P + n + 5) n w) := by subst hk; exact randomRow_any B rb P n w hr hP hn
section
variable {w w' : World} {lo B g n c rb i : Nat} {e : TypeId} {v : Value} {xs : List Int} {rs : List PRow}
theorem GrowR.only (k : Hid (Only rb w w')) (hn : rb < lo) (h : GrowR w lo B e v rs) : GrowR w' lo B e v rs := h.keep k.out.size fun j h1 h2 => k.out.block j h2 (by omega)
theorem GrowR.lit0_at (w : World) (hg : g = w.heap.size) (h : lo ≤ B) (hB : B ≤ w.heap.size) (e : TypeId) : GrowR (w.alloc (.cells #[] e)) lo B e (.slice (some ⟨g, 0, none⟩) 0 0) [] := by subst hg; exact GrowR.lit0 w h hB e
theorem RowVx.lower {lo' : Nat} {x : Option Nat} {A : Option Addr} {r : PRow} (h : RowVx w lo x A c r) (hl : lo' ≤ lo) : RowVx w lo' x A c r := fun w'' h1 h2 => h w'' h1 fun j a b d => h2 j (by omega) b d
theorem Grow.kept {row : Option Nat} (h : Grow w B e v xs) (hg : w.grownBy w' row) (hne : ∀ k, v.ownBlock = some k → row ≠ some k) : Grow w' B e v xs :=
  World.ownsRow.kept h hg (by
    cases hv : v.ownBlock with
    | none => exact .inl rfl
    | some k => exact .inr (fun e => hne k hv e.symm))
theorem grownBy_set (w : World) (p : Addr) (u : Value) : w.grownBy (w.setCell p u) (some p.block) :=
  ⟨rfl, rfl, rfl, by simp [World.setCell], fun k _ hk => Below.heap_setCell _ _ _ _ (by intro h; exact hk (by rw [h]))⟩
theorem Grow.farO (h : Grow w B e (.slice (some ⟨g, 0, none⟩) n c) xs) {p : Addr} (hp : p.block ≠ g) (u : Value) : Grow (w.setCell p u) B e (.slice (some ⟨g, 0, none⟩) n c) xs :=
  h.kept (grownBy_set w p u) (fun k hk e => by simp [Value.ownBlock] at hk; injection e with e; omega)
theorem Grow.cell {x : Int} (h : Grow w B e (.slice (some ⟨g, 0, none⟩) xs.length c) xs) (hi : xs[i]? = some x) : w.cell? ⟨g, i, none⟩ = some (.int .i64 x) := by
  have hl : i < xs.length := (List.getElem?_eq_some_iff.1 hi).1
  rw [World.ownsRow.cellAt h i (by omega)]
  simp [hi]
theorem Grow.lt (h : Grow w B e (.slice (some ⟨g, 0, none⟩) n c) xs) : B ≤ g ∧ g < w.heap.size := World.ownsRow.lt h g rfl
theorem RowV.bound {A : Option Addr} {r : PRow} (h : RowV w A c r) {b : Int} (hb : I64 b) : RowV w A c ⟨r.cs, r.s, b⟩ := ⟨h.1, h.2.1, h.2.2.1, h.2.2.2.1, hb⟩
theorem OwnI.rowV {w0 : World} {A : Option Addr} {r : PRow} (ho : OwnI w g r.cs) (h : RowV w0 A c r) : RowV w (some ⟨g, 0, none⟩) c r := ⟨ho.ints_of h.1, h.2⟩
end

/-- A problem was drawn: the blocks of its rows are newer than those of its costs and upper bounds. -/
def DrewProb (B rb P : Nat) (w : World) (e : Ending) (w' : World) : Prop :=
  ∃ (g0 d0 g1 d1 : Nat) (v2 : Value) (p : PProb) (lo : Nat), e = .returned (.agg #[.slice (some ⟨g0, 0, none⟩) p.costs.length d0, .slice (some ⟨g1, 0, none⟩) p.uppers.length d1, v2]) ∧
    Grow w' w.heap.size 3 (.slice (some ⟨g0, 0, none⟩) p.costs.length d0) p.costs ∧ Grow w' w.heap.size 3 (.slice (some ⟨g1, 0, none⟩) p.uppers.length d1) p.uppers ∧ GrowR w' lo lo 35 v2 p.rows ∧
    (g0 < lo ∧ g1 < lo ∧ g0 ≠ g1 ∧ w.heap.size ≤ lo ∧ lo ≤ w'.heap.size) ∧ (1 ≤ p.costs.length ∧ p.costs.length ≤ 4 ∧ p.uppers.length = p.costs.length ∧ p.rows.length ≤ 4 ∧ (∀ x ∈ p.costs, 0 ≤ x ∧ x ≤ 12) ∧ (∀ x ∈ p.uppers, 0 ≤ x ∧ x ≤ 9) ∧ ∀ r ∈ p.rows, r.cs.length ≤ 4) ∧
    Rd B w' rb P ∧ Only rb w w'

set_option maxHeartbeats 8000000 in
set_option maxRecDepth 100000 in
theorem randomProblem_any (B rb P : Nat) (w : World) (hr : Rd B w rb P) (hP : P ≤ 500000) :
    Calls Try.prog 51 #[.pointer (some ⟨rb, 0, none⟩)] w (DrewProb B rb (P + 100) w) := by
  obtain ⟨i0, hi0, hz0, hz1, hz2⟩ := info_parts info_int
  obtain ⟨ir, hir, hzr0, hzr1, hzr2⟩ := info_parts info_row
  have hrb := hr.2.1
  have hB := hr.1
  have HR := Lib.hid hr; clear hr
  go_enter Try.func51, Try.ntmps51
  go_wp2_with fail
  refine (pick_any B rb P _ _ (HR.out.alloc _) (by omega) (by omega) (by omega)).mono ?_
  rintro e w1 ⟨u, u0, u1, rfl, hr, ho⟩
  have z1 := ho.size
  have R1 := Lib.hid hr; clear hr
  have D1 := Lib.hid ho; clear ho
  have O1 : Hid (OnlyA rb w w1) := Lib.hid (Only.trans (by (repeat' (first | exact Only.refl _ _ | (with_reducible assumption) | (refine Hid.out ?_; with_reducible assumption) | (refine OnlyA.out ?_; refine Hid.out ?_; with_reducible assumption) | (with_reducible refine Only.setNew ?_ (by first | omega | (simp; done) | (simp; omega) | (simp only [World.size_alloc, World.size_setCell, World.size_drew] at *; omega))) | (with_reducible refine Only.alloc ?_ _) | (with_reducible refine Only.drewN ?_ _) | (with_reducible refine Only.drew ?_) | (apply Only.thenD; (with_reducible assumption)) | (apply Only.belowD; (with_reducible assumption))))) D1.out)
  (try simp at z1)
  have R_1 : Hid (Box w1 (w.heap.size) #[.slice none 0 0, .slice none 0 0, .slice none 0 0]) := Lib.hid (Box.only D1 (by first | omega | (simp; done) | (simp; omega) | (simp only [World.size_alloc, World.size_setCell, World.size_drew] at *; omega)) (by (repeat' (first | (with_reducible exact Box.new _ _ _ (by first | omega | (simp; done) | (simp; omega) | (simp only [World.size_alloc, World.size_setCell, World.size_drew] at *; omega))) | (with_reducible refine Box.far ?_ (by first | omega | (simp; done) | (simp; omega) | (simp only [World.size_alloc, World.size_setCell, World.size_drew] at *; omega)) _) | (apply Box.put3_0) | (apply Box.put3_1) | (apply Box.put3_2) | (apply Box.put2_0) | (apply Box.put2_1) | (with_reducible refine Box.alloc ?_ _) | (with_reducible refine Box.drewN ?_ _) | (with_reducible refine Box.drew ?_) | (with_reducible assumption) | (refine Hid.out ?_; with_reducible assumption) | (apply Box.only; (with_reducible assumption); exact (by first | omega | (simp; done) | (simp; omega) | (simp only [World.size_alloc, World.size_setCell, World.size_drew] at *; omega))) | (apply Box.belowD; (with_reducible assumption))))))
  have yR_1 : w.heap.size < w1.heap.size := R_1.out.1
  obtain ⟨R_1c0, R_1c1, R_1c2⟩ := Box.facts3 R_1.out
  have R_1f0 := Box.frz R_1.out 0 (by first | decide | simp)
  have R_1f1 := Box.frz R_1.out 1 (by first | decide | simp)
  have R_1f2 := Box.frz R_1.out 2 (by first | decide | simp)
  have hwu : wrap64 (1 + u) = 1 + u := IntWalk.wrap64_in _ ⟨by omega, by omega⟩
  obtain ⟨n, hn, n1, n4⟩ : ∃ n : Nat, 1 + u = (n : Int) ∧ 1 ≤ n ∧ n ≤ 4 := ⟨(1 + u).toNat, by omega, by omega, by omega⟩
  have HN := Lib.hid hn; clear hn
  go_wp2_with fail
  refine (some_at B rb (P + 1) n _ 0 12 _ R1.out (by omega) (by omega) (by omega) (by omega) (by omega) HN.out).mono ?_
  rintro e w2 ⟨v0, cs, hl0, hb0, hn0, rfl, hgr0, hr, ho⟩
  have z2 := ho.size
  have R2 := Lib.hid hr; clear hr
  have D2 := Lib.hid ho; clear ho
  have O2 : Hid (OnlyA rb w w2) := Lib.hid (Only.trans (by (repeat' (first | exact Only.refl _ _ | (with_reducible assumption) | (refine Hid.out ?_; with_reducible assumption) | (refine OnlyA.out ?_; refine Hid.out ?_; with_reducible assumption) | (with_reducible refine Only.setNew ?_ (by first | omega | (simp; done) | (simp; omega) | (simp only [World.size_alloc, World.size_setCell, World.size_drew] at *; omega))) | (with_reducible refine Only.alloc ?_ _) | (with_reducible refine Only.drewN ?_ _) | (with_reducible refine Only.drew ?_) | (apply Only.thenD; (with_reducible assumption)) | (apply Only.belowD; (with_reducible assumption))))) D2.out)
  (try simp at z2)
  have G0 := Lib.hid hgr0; clear hgr0
  have N0 := Lib.hid hn0; clear hn0
  have B0 := Lib.hid hb0; clear hb0
  have R_2 : Hid (Box w2 (w.heap.size) #[.slice none 0 0, .slice none 0 0, .slice none 0 0]) := Lib.hid (Box.only D2 (by first | omega | (simp; done) | (simp; omega) | (simp only [World.size_alloc, World.size_setCell, World.size_drew] at *; omega)) (by (repeat' (first | (with_reducible exact Box.new _ _ _ (by first | omega | (simp; done) | (simp; omega) | (simp only [World.size_alloc, World.size_setCell, World.size_drew] at *; omega))) | (with_reducible refine Box.far ?_ (by first | omega | (simp; done) | (simp; omega) | (simp only [World.size_alloc, World.size_setCell, World.size_drew] at *; omega)) _) | (apply Box.put3_0) | (apply Box.put3_1) | (apply Box.put3_2) | (apply Box.put2_0) | (apply Box.put2_1) | (with_reducible refine Box.alloc ?_ _) | (with_reducible refine Box.drewN ?_ _) | (with_reducible refine Box.drew ?_) | (with_reducible assumption) | (refine Hid.out ?_; with_reducible assumption) | (apply Box.only; (with_reducible assumption); exact (by first | omega | (simp; done) | (simp; omega) | (simp only [World.size_alloc, World.size_setCell, World.size_drew] at *; omega))) | (apply Box.belowD; (with_reducible assumption))))))
  have yR_2 : w.heap.size < w2.heap.size := R_2.out.1
  obtain ⟨R_2c0, R_2c1, R_2c2⟩ := Box.facts3 R_2.out
  have R_2f0 := Box.frz R_2.out 0 (by first | decide | simp)
  have R_2f1 := Box.frz R_2.out 1 (by first | decide | simp)
  have R_2f2 := Box.frz R_2.out 2 (by first | decide | simp)
  obtain ⟨g0, d0, rfl, hg0, og0, lc0, mc0, ig0⟩ := Grow.block G0.out N0.out (fun x hx => by have := B0.out x hx; exact ⟨by omega, by omega⟩)
  clear og0 ig0
  subst hl0
  have gl0 := (Grow.lt G0.out).2
  by_cases h3 : cs.length < 3
  · have e3 : decide (1 + u < 3) = true := by have := HN.out; simp; omega
    go_wp2_with fail
    refine (some_at B rb (P + 1 + cs.length) cs.length _ 1 9 _ (by (repeat' (first | (with_reducible assumption) | (refine Hid.out ?_; with_reducible assumption) | (with_reducible refine Rd.set ?_ (by first | omega | (simp; done) | (simp; omega) | (simp only [World.size_alloc, World.size_setCell, World.size_drew] at *; omega)) (by first | omega | (simp; done) | (simp; omega) | (simp only [World.size_alloc, World.size_setCell, World.size_drew] at *; omega))) | (with_reducible refine Rd.alloc ?_ _) | (with_reducible refine Rd.drewN ?_ _) | (with_reducible refine Rd.drew ?_)))) (by omega) (by omega) (by omega) (by omega) (by omega) HN.out).mono ?_
    rintro e w3 ⟨v1, us, hl1, hb1, hn1, rfl, hgr1, hr, ho⟩
    have z3 := ho.size
    have R3 := Lib.hid hr; clear hr
    have D3 := Lib.hid ho; clear ho
    have O3 : Hid (OnlyA rb w w3) := Lib.hid (Only.trans (by (repeat' (first | exact Only.refl _ _ | (with_reducible assumption) | (refine Hid.out ?_; with_reducible assumption) | (refine OnlyA.out ?_; refine Hid.out ?_; with_reducible assumption) | (with_reducible refine Only.setNew ?_ (by first | omega | (simp; done) | (simp; omega) | (simp only [World.size_alloc, World.size_setCell, World.size_drew] at *; omega))) | (with_reducible refine Only.alloc ?_ _) | (with_reducible refine Only.drewN ?_ _) | (with_reducible refine Only.drew ?_) | (apply Only.thenD; (with_reducible assumption)) | (apply Only.belowD; (with_reducible assumption))))) D3.out)
    (try simp at z3)
    (try simp only [World.size_alloc, World.size_setCell, World.size_drew, World.heap_drewN] at hgr1)
    have G1 := Lib.hid hgr1; clear hgr1
    have N1 := Lib.hid hn1; clear hn1
    have B1 := Lib.hid hb1; clear hb1
    have R_3 : Hid (Box w3 (w.heap.size) #[.slice none 0 0, .slice none 0 0, .slice none 0 0]) := Lib.hid (Box.only D3 (by first | omega | (simp; done) | (simp; omega) | (simp only [World.size_alloc, World.size_setCell, World.size_drew] at *; omega)) (by (repeat' (first | (with_reducible exact Box.new _ _ _ (by first | omega | (simp; done) | (simp; omega) | (simp only [World.size_alloc, World.size_setCell, World.size_drew] at *; omega))) | (with_reducible refine Box.far ?_ (by first | omega | (simp; done) | (simp; omega) | (simp only [World.size_alloc, World.size_setCell, World.size_drew] at *; omega)) _) | (apply Box.put3_0) | (apply Box.put3_1) | (apply Box.put3_2) | (apply Box.put2_0) | (apply Box.put2_1) | (with_reducible refine Box.alloc ?_ _) | (with_reducible refine Box.drewN ?_ _) | (with_reducible refine Box.drew ?_) | (with_reducible assumption) | (refine Hid.out ?_; with_reducible assumption) | (apply Box.only; (with_reducible assumption); exact (by first | omega | (simp; done) | (simp; omega) | (simp only [World.size_alloc, World.size_setCell, World.size_drew] at *; omega))) | (apply Box.belowD; (with_reducible assumption))))))
    have yR_3 : w.heap.size < w3.heap.size := R_3.out.1
    obtain ⟨R_3c0, R_3c1, R_3c2⟩ := Box.facts3 R_3.out
    have R_3f0 := Box.frz R_3.out 0 (by first | decide | simp)
    have R_3f1 := Box.frz R_3.out 1 (by first | decide | simp)
    have R_3f2 := Box.frz R_3.out 2 (by first | decide | simp)
    have X_3 : Hid (Box w3 (w2.heap.size) #[.slice (some ⟨g0, 0, none⟩) cs.length d0, .slice none 0 0, .slice none 0 0]) := Lib.hid (Box.only D3 (by first | omega | (simp; done) | (simp; omega) | (simp only [World.size_alloc, World.size_setCell, World.size_drew] at *; omega)) (by (repeat' (first | (with_reducible exact Box.new _ _ _ (by first | omega | (simp; done) | (simp; omega) | (simp only [World.size_alloc, World.size_setCell, World.size_drew] at *; omega))) | (with_reducible refine Box.far ?_ (by first | omega | (simp; done) | (simp; omega) | (simp only [World.size_alloc, World.size_setCell, World.size_drew] at *; omega)) _) | (apply Box.put3_0) | (apply Box.put3_1) | (apply Box.put3_2) | (apply Box.put2_0) | (apply Box.put2_1) | (with_reducible refine Box.alloc ?_ _) | (with_reducible refine Box.drewN ?_ _) | (with_reducible refine Box.drew ?_) | (with_reducible assumption) | (refine Hid.out ?_; with_reducible assumption) | (apply Box.only; (with_reducible assumption); exact (by first | omega | (simp; done) | (simp; omega) | (simp only [World.size_alloc, World.size_setCell, World.size_drew] at *; omega))) | (apply Box.belowD; (with_reducible assumption))))))
    have yX_3 : w2.heap.size < w3.heap.size := X_3.out.1
    obtain ⟨X_3c0, X_3c1, X_3c2⟩ := Box.facts3 X_3.out
    have X_3f0 := Box.frz X_3.out 0 (by first | decide | simp)
    have X_3f1 := Box.frz X_3.out 1 (by first | decide | simp)
    have X_3f2 := Box.frz X_3.out 2 (by first | decide | simp)
    have HL1 := Lib.hid hl1; clear hl1
    obtain ⟨g1, d1, rfl, hg1, og1, lc1, mc1, ig1⟩ := Grow.block G1.out N1.out (fun x hx => by have := B1.out x hx; exact ⟨by omega, by omega⟩)
    clear og1 ig1
    have gl1 := (Grow.lt G1.out).2
    have E0 : Hid (Grow w3 w1.heap.size 3 (.slice (some ⟨g0, 0, none⟩) cs.length d0) cs) := Lib.hid (by (repeat' (first | (with_reducible assumption) | (refine Hid.out ?_; with_reducible assumption) | (with_reducible refine Grow.far ?_ (by first | omega | (simp; done) | (simp; omega) | (simp only [World.size_alloc, World.size_setCell, World.size_drew] at *; omega)) _) | (with_reducible refine Grow.farO ?_ (by first | omega | (simp; done) | (simp; omega) | (simp only [World.size_alloc, World.size_setCell, World.size_drew] at *; omega)) _) | (with_reducible refine Grow.alloc ?_ _) | (with_reducible refine Grow.drewN ?_ _) | (with_reducible refine Grow.drew ?_) | (apply Grow.only; (with_reducible assumption); exact (by first | omega | (simp; done) | (simp; omega) | (simp only [World.size_alloc, World.size_setCell, World.size_drew] at *; omega))) | (apply Grow.belowD; (with_reducible assumption)))))
    go_wp2_with fail
    refine (pick_any B rb (P + 1 + cs.length + cs.length) _ _ (by (repeat' (first | (with_reducible assumption) | (refine Hid.out ?_; with_reducible assumption) | (with_reducible refine Rd.set ?_ (by first | omega | (simp; done) | (simp; omega) | (simp only [World.size_alloc, World.size_setCell, World.size_drew] at *; omega)) (by first | omega | (simp; done) | (simp; omega) | (simp only [World.size_alloc, World.size_setCell, World.size_drew] at *; omega))) | (with_reducible refine Rd.alloc ?_ _) | (with_reducible refine Rd.drewN ?_ _) | (with_reducible refine Rd.drew ?_)))) (by omega) (by omega) (by omega)).mono ?_
    rintro e w4 ⟨k, k0, k1, rfl, hr, ho⟩
    have z4 := ho.size
    have R4 := Lib.hid hr; clear hr
    have D4 := Lib.hid ho; clear ho
    have O4 : Hid (OnlyA rb w w4) := Lib.hid (Only.trans (by (repeat' (first | exact Only.refl _ _ | (with_reducible assumption) | (refine Hid.out ?_; with_reducible assumption) | (refine OnlyA.out ?_; refine Hid.out ?_; with_reducible assumption) | (with_reducible refine Only.setNew ?_ (by first | omega | (simp; done) | (simp; omega) | (simp only [World.size_alloc, World.size_setCell, World.size_drew] at *; omega))) | (with_reducible refine Only.alloc ?_ _) | (with_reducible refine Only.drewN ?_ _) | (with_reducible refine Only.drew ?_) | (apply Only.thenD; (with_reducible assumption)) | (apply Only.belowD; (with_reducible assumption))))) D4.out)
    (try simp at z4)
    have R_4 : Hid (Box w4 (w.heap.size) #[.slice none 0 0, .slice none 0 0, .slice none 0 0]) := Lib.hid (Box.only D4 (by first | omega | (simp; done) | (simp; omega) | (simp only [World.size_alloc, World.size_setCell, World.size_drew] at *; omega)) (by (repeat' (first | (with_reducible exact Box.new _ _ _ (by first | omega | (simp; done) | (simp; omega) | (simp only [World.size_alloc, World.size_setCell, World.size_drew] at *; omega))) | (with_reducible refine Box.far ?_ (by first | omega | (simp; done) | (simp; omega) | (simp only [World.size_alloc, World.size_setCell, World.size_drew] at *; omega)) _) | (apply Box.put3_0) | (apply Box.put3_1) | (apply Box.put3_2) | (apply Box.put2_0) | (apply Box.put2_1) | (with_reducible refine Box.alloc ?_ _) | (with_reducible refine Box.drewN ?_ _) | (with_reducible refine Box.drew ?_) | (with_reducible assumption) | (refine Hid.out ?_; with_reducible assumption) | (apply Box.only; (with_reducible assumption); exact (by first | omega | (simp; done) | (simp; omega) | (simp only [World.size_alloc, World.size_setCell, World.size_drew] at *; omega))) | (apply Box.belowD; (with_reducible assumption))))))
    have yR_4 : w.heap.size < w4.heap.size := R_4.out.1
    obtain ⟨R_4c0, R_4c1, R_4c2⟩ := Box.facts3 R_4.out
    have R_4f0 := Box.frz R_4.out 0 (by first | decide | simp)
    have R_4f1 := Box.frz R_4.out 1 (by first | decide | simp)
    have R_4f2 := Box.frz R_4.out 2 (by first | decide | simp)
    have X_4 : Hid (Box w4 (w2.heap.size) #[.slice (some ⟨g0, 0, none⟩) cs.length d0, .slice (some ⟨g1, 0, none⟩) us.length d1, .slice none 0 0]) := Lib.hid (Box.only D4 (by first | omega | (simp; done) | (simp; omega) | (simp only [World.size_alloc, World.size_setCell, World.size_drew] at *; omega)) (by (repeat' (first | (with_reducible exact Box.new _ _ _ (by first | omega | (simp; done) | (simp; omega) | (simp only [World.size_alloc, World.size_setCell, World.size_drew] at *; omega))) | (with_reducible refine Box.far ?_ (by first | omega | (simp; done) | (simp; omega) | (simp only [World.size_alloc, World.size_setCell, World.size_drew] at *; omega)) _) | (apply Box.put3_0) | (apply Box.put3_1) | (apply Box.put3_2) | (apply Box.put2_0) | (apply Box.put2_1) | (with_reducible refine Box.alloc ?_ _) | (with_reducible refine Box.drewN ?_ _) | (with_reducible refine Box.drew ?_) | (with_reducible assumption) | (refine Hid.out ?_; with_reducible assumption) | (apply Box.only; (with_reducible assumption); exact (by first | omega | (simp; done) | (simp; omega) | (simp only [World.size_alloc, World.size_setCell, World.size_drew] at *; omega))) | (apply Box.belowD; (with_reducible assumption))))))
    have yX_4 : w2.heap.size < w4.heap.size := X_4.out.1
    obtain ⟨X_4c0, X_4c1, X_4c2⟩ := Box.facts3 X_4.out
    have X_4f0 := Box.frz X_4.out 0 (by first | decide | simp)
    have X_4f1 := Box.frz X_4.out 1 (by first | decide | simp)
    have X_4f2 := Box.frz X_4.out 2 (by first | decide | simp)
    obtain ⟨K, rfl⟩ := Int.eq_ofNat_of_zero_le k0
    have F04 : Hid (Grow w4 w1.heap.size 3 (.slice (some ⟨g0, 0, none⟩) cs.length d0) cs) := Lib.hid (Grow.only D4 (by omega) ((E0.out.farO (by show w2.heap.size ≠ g0; omega) _).alloc _))
    have F14 : Hid (Grow w4 (w2.heap.size + 1) 3 (.slice (some ⟨g1, 0, none⟩) us.length d1) us) := Lib.hid (Grow.only D4 (by omega) ((G1.out.farO (by show w2.heap.size ≠ g1; omega) _).alloc _))
    have GR4 : Hid (GrowR w4 w3.heap.size w3.heap.size 35 (.slice (some ⟨w3.heap.size, 0, none⟩) 0 0) []) := Lib.hid (GrowR.only D4 (by omega) (GrowR.lit0_at _ (by first | omega | (simp; done) | (simp; omega) | (simp only [World.size_alloc, World.size_setCell, World.size_drew] at *; omega)) (Nat.le_refl _) (by first | omega | (simp; done) | (simp; omega) | (simp only [World.size_alloc, World.size_setCell, World.size_drew] at *; omega)) _))
    go_wp2_with fail
    go_loopw [5, 6] (fun s5 s6 wr => ∃ (k : Nat) (v5 : Value) (rs : List PRow), k ≤ K ∧ v5 = s5 ∧ s6 = .int .i64 k ∧ rs.length ≤ 4 - k ∧ Hid (∀ r ∈ rs, r.cs.length ≤ 4) ∧ Hid (GrowR wr w3.heap.size w3.heap.size 35 v5 rs) ∧ Hid (Rd B wr rb (P + 12 + 18 * (4 - k))) ∧ Hid (Only rb w wr) ∧ Hid (Box wr w.heap.size #[.slice none 0 0, .slice none 0 0, .slice none 0 0]) ∧ Hid (Box wr w2.heap.size #[.slice (some ⟨g0, 0, none⟩) cs.length d0, .slice (some ⟨g1, 0, none⟩) us.length d1, .slice none 0 0]) ∧ Hid (Grow wr w1.heap.size 3 (.slice (some ⟨g0, 0, none⟩) cs.length d0) cs) ∧ Hid (Grow wr (w2.heap.size + 1) 3 (.slice (some ⟨g1, 0, none⟩) us.length d1) us) ∧ w3.heap.size ≤ wr.heap.size) (fun _ s6 _ => (intOf s6).toNat)
    case atStart => exact ⟨K, _, [], by omega, rfl, rfl, by simp, Lib.hid (by simp), GR4, Lib.hid (R4.out.mono (by omega)), Lib.hid O4.out.out, R_4, X_4, F04, F14, by omega⟩
    case round =>
      obtain ⟨k, v5, rs, hk, rfl, rfl, hrl, hlr, hGR, hrd, ho, hR, hX, h0, h1, zr⟩ := hrel
      have zo := ho.out.size
      have hrw : ∀ j, v5.ownBlock = some j → j < wr.heap.size := fun j hj => (hGR.out.row j hj).2
      have hR1 := hR.out.1
      have hX1 := hX.out.1
      rcases k with _ | k
      · obtain ⟨A5, c5, rfl, lc5, mc5⟩ := hGR.out.shape
        obtain ⟨r0, r1, r2⟩ := Box.facts3 hR.out
        obtain ⟨x0, x1, x2⟩ := Box.facts3 hX.out
        have f0 := hR.out.frz 0 (by decide)
        have f1 := hR.out.frz 1 (by decide)
        have f2 := hR.out.frz 2 (by decide)
        have e0 := hX.out.frz 0 (by simp)
        have e1 := hX.out.frz 1 (by simp)
        have e2 := hX.out.frz 2 (by simp)
        go_wp2_with fail
        refine bodyPost_ret (v := .agg #[.slice (some ⟨g0, 0, none⟩) cs.length d0, .slice (some ⟨g1, 0, none⟩) us.length d1, .slice A5 rs.length c5]) (by simp [results, Try.results51, go_sem, *]) rfl ⟨g0, d0, g1, d1, _, ⟨cs, us, rs⟩, w3.heap.size, rfl, ?_, ?_, ?_, ⟨by omega, by omega, by omega, by omega, by simp [World.setCell]; omega⟩, ⟨n1, n4, HL1.out, by (show rs.length ≤ 4); omega, B0.out, fun x hx => by have := B1.out x hx; omega, hlr.out⟩, Rd.mono (P := P + 12 + 18 * (4 - 0)) (by (repeat' (first | (with_reducible assumption) | (refine Hid.out ?_; with_reducible assumption) | (with_reducible refine Rd.set ?_ (by first | omega | (simp; done) | (simp; omega) | (simp only [World.size_alloc, World.size_setCell, World.size_drew] at *; omega)) (by first | omega | (simp; done) | (simp; omega) | (simp only [World.size_alloc, World.size_setCell, World.size_drew] at *; omega))) | (with_reducible refine Rd.alloc ?_ _) | (with_reducible refine Rd.drewN ?_ _) | (with_reducible refine Rd.drew ?_)))) (by omega), by (repeat' (first | exact Only.refl _ _ | (with_reducible assumption) | (refine Hid.out ?_; with_reducible assumption) | (refine OnlyA.out ?_; refine Hid.out ?_; with_reducible assumption) | (with_reducible refine Only.setNew ?_ (by first | omega | (simp; done) | (simp; omega) | (simp only [World.size_alloc, World.size_setCell, World.size_drew] at *; omega))) | (with_reducible refine Only.alloc ?_ _) | (with_reducible refine Only.drewN ?_ _) | (with_reducible refine Only.drew ?_) | (apply Only.thenD; (with_reducible assumption)) | (apply Only.belowD; (with_reducible assumption))))⟩
        · exact Grow.mono (B := w1.heap.size) (by (repeat' (first | (with_reducible exact Hid.out (by assumption)) | (with_reducible refine Grow.farO ?_ (by first | omega | (simp; done) | (simp; omega) | (simp only [World.size_alloc, World.size_setCell, World.size_drew] at *; omega)) _)))) (by omega)
        · exact Grow.mono (B := w2.heap.size + 1) (by (repeat' (first | (with_reducible exact Hid.out (by assumption)) | (with_reducible refine Grow.farO ?_ (by first | omega | (simp; done) | (simp; omega) | (simp only [World.size_alloc, World.size_setCell, World.size_drew] at *; omega)) _)))) (by omega)
        · (repeat' (first | (with_reducible assumption) | (refine Hid.out ?_; with_reducible assumption) | (with_reducible refine GrowR.far ?_ (by first | omega | (simp; done) | (simp; omega) | (simp only [World.size_alloc, World.size_setCell, World.size_drew] at *; omega)) _) |  (with_reducible refine GrowR.alloc ?_ _) | (with_reducible refine GrowR.drewN ?_ _) | (with_reducible refine GrowR.drew ?_) | (apply GrowR.only; (with_reducible assumption); exact (by first | omega | (simp; done) | (simp; omega) | (simp only [World.size_alloc, World.size_setCell, World.size_drew] at *; omega))) | (apply GrowR.belowD; (with_reducible assumption))))
      · go_wp2_with fail
        refine (randomRow_at B rb (P + 12 + 18 * (4 - (k + 1))) cs.length _ _ hrd.out (by omega) (by omega) HN.out).mono ?_
        rintro e w5 ⟨gx, cx, r, hgx, rfl, ogx, vrx, hmx, hr, ho⟩
        have z5 := ho.size
        have R5 := Lib.hid hr; clear hr
        have D5 := Lib.hid ho; clear ho
        have O5 : Hid (OnlyA rb w w5) := Lib.hid (Only.trans (by (repeat' (first | exact Only.refl _ _ | (with_reducible assumption) | (refine Hid.out ?_; with_reducible assumption) | (refine OnlyA.out ?_; refine Hid.out ?_; with_reducible assumption) | (with_reducible refine Only.setNew ?_ (by first | omega | (simp; done) | (simp; omega) | (simp only [World.size_alloc, World.size_setCell, World.size_drew] at *; omega))) | (with_reducible refine Only.alloc ?_ _) | (with_reducible refine Only.drewN ?_ _) | (with_reducible refine Only.drew ?_) | (apply Only.thenD; (with_reducible assumption)) | (apply Only.belowD; (with_reducible assumption))))) D5.out)
        (try simp at z5)
        have OX := Lib.hid ogx; clear ogx
        have VX := Lib.hid vrx; clear vrx
        have R_5 : Hid (Box w5 (w.heap.size) #[.slice none 0 0, .slice none 0 0, .slice none 0 0]) := Lib.hid (Box.only D5 (by first | omega | (simp; done) | (simp; omega) | (simp only [World.size_alloc, World.size_setCell, World.size_drew] at *; omega)) (by (repeat' (first | (with_reducible exact Box.new _ _ _ (by first | omega | (simp; done) | (simp; omega) | (simp only [World.size_alloc, World.size_setCell, World.size_drew] at *; omega))) | (with_reducible refine Box.far ?_ (by first | omega | (simp; done) | (simp; omega) | (simp only [World.size_alloc, World.size_setCell, World.size_drew] at *; omega)) _) | (apply Box.put3_0) | (apply Box.put3_1) | (apply Box.put3_2) | (apply Box.put2_0) | (apply Box.put2_1) | (with_reducible refine Box.alloc ?_ _) | (with_reducible refine Box.drewN ?_ _) | (with_reducible refine Box.drew ?_) | (with_reducible assumption) | (refine Hid.out ?_; with_reducible assumption) | (apply Box.only; (with_reducible assumption); exact (by first | omega | (simp; done) | (simp; omega) | (simp only [World.size_alloc, World.size_setCell, World.size_drew] at *; omega))) | (apply Box.belowD; (with_reducible assumption))))))
        have yR_5 : w.heap.size < w5.heap.size := R_5.out.1
        obtain ⟨R_5c0, R_5c1, R_5c2⟩ := Box.facts3 R_5.out
        have R_5f0 := Box.frz R_5.out 0 (by first | decide | simp)
        have R_5f1 := Box.frz R_5.out 1 (by first | decide | simp)
        have R_5f2 := Box.frz R_5.out 2 (by first | decide | simp)
        have X_5 : Hid (Box w5 (w2.heap.size) #[.slice (some ⟨g0, 0, none⟩) cs.length d0, .slice (some ⟨g1, 0, none⟩) us.length d1, .slice none 0 0]) := Lib.hid (Box.only D5 (by first | omega | (simp; done) | (simp; omega) | (simp only [World.size_alloc, World.size_setCell, World.size_drew] at *; omega)) (by (repeat' (first | (with_reducible exact Box.new _ _ _ (by first | omega | (simp; done) | (simp; omega) | (simp only [World.size_alloc, World.size_setCell, World.size_drew] at *; omega))) | (with_reducible refine Box.far ?_ (by first | omega | (simp; done) | (simp; omega) | (simp only [World.size_alloc, World.size_setCell, World.size_drew] at *; omega)) _) | (apply Box.put3_0) | (apply Box.put3_1) | (apply Box.put3_2) | (apply Box.put2_0) | (apply Box.put2_1) | (with_reducible refine Box.alloc ?_ _) | (with_reducible refine Box.drewN ?_ _) | (with_reducible refine Box.drew ?_) | (with_reducible assumption) | (refine Hid.out ?_; with_reducible assumption) | (apply Box.only; (with_reducible assumption); exact (by first | omega | (simp; done) | (simp; omega) | (simp only [World.size_alloc, World.size_setCell, World.size_drew] at *; omega))) | (apply Box.belowD; (with_reducible assumption))))))
        have yX_5 : w2.heap.size < w5.heap.size := X_5.out.1
        obtain ⟨X_5c0, X_5c1, X_5c2⟩ := Box.facts3 X_5.out
        have X_5f0 := Box.frz X_5.out 0 (by first | decide | simp)
        have X_5f1 := Box.frz X_5.out 1 (by first | decide | simp)
        have X_5f2 := Box.frz X_5.out 2 (by first | decide | simp)
        have lgx := OX.out.1
        go_wp2_with fail
        refine (pick_any B rb (P + 12 + 18 * (4 - (k + 1)) + cs.length + 5) _ _ (by (repeat' (first | (with_reducible assumption) | (refine Hid.out ?_; with_reducible assumption) | (with_reducible refine Rd.set ?_ (by first | omega | (simp; done) | (simp; omega) | (simp only [World.size_alloc, World.size_setCell, World.size_drew] at *; omega)) (by first | omega | (simp; done) | (simp; omega) | (simp only [World.size_alloc, World.size_setCell, World.size_drew] at *; omega))) | (with_reducible refine Rd.alloc ?_ _) | (with_reducible refine Rd.drewN ?_ _) | (with_reducible refine Rd.drew ?_)))) (by omega) (by omega) (by omega)).mono ?_
        rintro e w6 ⟨t, t0, t1, rfl, hr, ho⟩
        have z6 := ho.size
        have R6 := Lib.hid hr; clear hr
        have D6 := Lib.hid ho; clear ho
        have O6 : Hid (OnlyA rb w w6) := Lib.hid (Only.trans (by (repeat' (first | exact Only.refl _ _ | (with_reducible assumption) | (refine Hid.out ?_; with_reducible assumption) | (refine OnlyA.out ?_; refine Hid.out ?_; with_reducible assumption) | (with_reducible refine Only.setNew ?_ (by first | omega | (simp; done) | (simp; omega) | (simp only [World.size_alloc, World.size_setCell, World.size_drew] at *; omega))) | (with_reducible refine Only.alloc ?_ _) | (with_reducible refine Only.drewN ?_ _) | (with_reducible refine Only.drew ?_) | (apply Only.thenD; (with_reducible assumption)) | (apply Only.belowD; (with_reducible assumption))))) D6.out)
        (try simp at z6)
        have R_6 : Hid (Box w6 (w.heap.size) #[.slice none 0 0, .slice none 0 0, .slice none 0 0]) := Lib.hid (Box.only D6 (by first | omega | (simp; done) | (simp; omega) | (simp only [World.size_alloc, World.size_setCell, World.size_drew] at *; omega)) (by (repeat' (first | (with_reducible exact Box.new _ _ _ (by first | omega | (simp; done) | (simp; omega) | (simp only [World.size_alloc, World.size_setCell, World.size_drew] at *; omega))) | (with_reducible refine Box.far ?_ (by first | omega | (simp; done) | (simp; omega) | (simp only [World.size_alloc, World.size_setCell, World.size_drew] at *; omega)) _) | (apply Box.put3_0) | (apply Box.put3_1) | (apply Box.put3_2) | (apply Box.put2_0) | (apply Box.put2_1) | (with_reducible refine Box.alloc ?_ _) | (with_reducible refine Box.drewN ?_ _) | (with_reducible refine Box.drew ?_) | (with_reducible assumption) | (refine Hid.out ?_; with_reducible assumption) | (apply Box.only; (with_reducible assumption); exact (by first | omega | (simp; done) | (simp; omega) | (simp only [World.size_alloc, World.size_setCell, World.size_drew] at *; omega))) | (apply Box.belowD; (with_reducible assumption))))))
        have yR_6 : w.heap.size < w6.heap.size := R_6.out.1
        obtain ⟨R_6c0, R_6c1, R_6c2⟩ := Box.facts3 R_6.out
        have R_6f0 := Box.frz R_6.out 0 (by first | decide | simp)
        have R_6f1 := Box.frz R_6.out 1 (by first | decide | simp)
        have R_6f2 := Box.frz R_6.out 2 (by first | decide | simp)
        have X_6 : Hid (Box w6 (w2.heap.size) #[.slice (some ⟨g0, 0, none⟩) cs.length d0, .slice (some ⟨g1, 0, none⟩) us.length d1, .slice none 0 0]) := Lib.hid (Box.only D6 (by first | omega | (simp; done) | (simp; omega) | (simp only [World.size_alloc, World.size_setCell, World.size_drew] at *; omega)) (by (repeat' (first | (with_reducible exact Box.new _ _ _ (by first | omega | (simp; done) | (simp; omega) | (simp only [World.size_alloc, World.size_setCell, World.size_drew] at *; omega))) | (with_reducible refine Box.far ?_ (by first | omega | (simp; done) | (simp; omega) | (simp only [World.size_alloc, World.size_setCell, World.size_drew] at *; omega)) _) | (apply Box.put3_0) | (apply Box.put3_1) | (apply Box.put3_2) | (apply Box.put2_0) | (apply Box.put2_1) | (with_reducible refine Box.alloc ?_ _) | (with_reducible refine Box.drewN ?_ _) | (with_reducible refine Box.drew ?_) | (with_reducible assumption) | (refine Hid.out ?_; with_reducible assumption) | (apply Box.only; (with_reducible assumption); exact (by first | omega | (simp; done) | (simp; omega) | (simp only [World.size_alloc, World.size_setCell, World.size_drew] at *; omega))) | (apply Box.belowD; (with_reducible assumption))))))
        have yX_6 : w2.heap.size < w6.heap.size := X_6.out.1
        obtain ⟨X_6c0, X_6c1, X_6c2⟩ := Box.facts3 X_6.out
        have X_6f0 := Box.frz X_6.out 0 (by first | decide | simp)
        have X_6f1 := Box.frz X_6.out 1 (by first | decide | simp)
        have X_6f2 := Box.frz X_6.out 2 (by first | decide | simp)
        have Y_6 : Hid (Box w6 (w5.heap.size) #[.slice (some ⟨gx, 0, none⟩) r.cs.length cx, .int .i64 r.s, .int .i64 r.b]) := Lib.hid (Box.only D6 (by first | omega | (simp; done) | (simp; omega) | (simp only [World.size_alloc, World.size_setCell, World.size_drew] at *; omega)) (by (repeat' (first | (with_reducible exact Box.new _ _ _ (by first | omega | (simp; done) | (simp; omega) | (simp only [World.size_alloc, World.size_setCell, World.size_drew] at *; omega))) | (with_reducible refine Box.far ?_ (by first | omega | (simp; done) | (simp; omega) | (simp only [World.size_alloc, World.size_setCell, World.size_drew] at *; omega)) _) | (apply Box.put3_0) | (apply Box.put3_1) | (apply Box.put3_2) | (apply Box.put2_0) | (apply Box.put2_1) | (with_reducible refine Box.alloc ?_ _) | (with_reducible refine Box.drewN ?_ _) | (with_reducible refine Box.drew ?_) | (with_reducible assumption) | (refine Hid.out ?_; with_reducible assumption) | (apply Box.only; (with_reducible assumption); exact (by first | omega | (simp; done) | (simp; omega) | (simp only [World.size_alloc, World.size_setCell, World.size_drew] at *; omega))) | (apply Box.belowD; (with_reducible assumption))))))
        have yY_6 : w5.heap.size < w6.heap.size := Y_6.out.1
        obtain ⟨Y_6c0, Y_6c1, Y_6c2⟩ := Box.facts3 Y_6.out
        have Y_6f0 := Box.frz Y_6.out 0 (by first | decide | simp)
        have Y_6f1 := Box.frz Y_6.out 1 (by first | decide | simp)
        have Y_6f2 := Box.frz Y_6.out 2 (by first | decide | simp)
        by_cases ht : t = 0
        · subst ht
          have F16 : Hid (Grow w6 (w2.heap.size + 1) 3 (.slice (some ⟨g1, 0, none⟩) us.length d1) us) := Lib.hid (by (repeat' (first | (with_reducible assumption) | (refine Hid.out ?_; with_reducible assumption) | (with_reducible refine Grow.far ?_ (by first | omega | (simp; done) | (simp; omega) | (simp only [World.size_alloc, World.size_setCell, World.size_drew] at *; omega)) _) | (with_reducible refine Grow.farO ?_ (by first | omega | (simp; done) | (simp; omega) | (simp only [World.size_alloc, World.size_setCell, World.size_drew] at *; omega)) _) | (with_reducible refine Grow.alloc ?_ _) | (with_reducible refine Grow.drewN ?_ _) | (with_reducible refine Grow.drew ?_) | (apply Grow.only; (with_reducible assumption); exact (by first | omega | (simp; done) | (simp; omega) | (simp only [World.size_alloc, World.size_setCell, World.size_drew] at *; omega))) | (apply Grow.belowD; (with_reducible assumption)))))
          go_wp2_with fail
          go_loopw [8, 9] (fun s8 s9 wr => ∃ (i : Nat) (v8 : Value) (ys : List Int), i ≤ cs.length ∧ v8 = s8 ∧ s9 = .int .i64 i ∧ Hid (ys.length = i ∧ ∀ x ∈ ys, 0 ≤ x ∧ x ≤ 1000) ∧ Hid (v8 ≠ .slice none 0 0) ∧ Hid (Grow wr w6.heap.size 3 v8 ys) ∧ Hid (Rd B wr rb (P + 12 + 18 * (4 - (k + 1)) + cs.length + 6 + i)) ∧ Hid (Only rb w6 wr)) (fun _ s9 _ => cs.length - (intOf s9).toNat)
          case atStart => exact ⟨0, _, [], by omega, rfl, rfl, Lib.hid ⟨rfl, by simp⟩, Lib.hid (by simp), Lib.hid (Grow.lit0_at w6 rfl (Nat.le_refl _) _), Lib.hid (by (repeat' (first | (with_reducible assumption) | (refine Hid.out ?_; with_reducible assumption) | (with_reducible refine Rd.set ?_ (by first | omega | (simp; done) | (simp; omega) | (simp only [World.size_alloc, World.size_setCell, World.size_drew] at *; omega)) (by first | omega | (simp; done) | (simp; omega) | (simp only [World.size_alloc, World.size_setCell, World.size_drew] at *; omega))) | (with_reducible refine Rd.alloc ?_ _) | (with_reducible refine Rd.drewN ?_ _) | (with_reducible refine Rd.drew ?_)))), Lib.hid ((Only.refl _ _).alloc _)⟩
          case round =>
            obtain ⟨i, v8, ys, hi, rfl, rfl, hys, hne8, hg8, hr8, ho8⟩ := hrel
            have zy := ho8.out.size
            have RY : Hid (Box wr w.heap.size #[.slice none 0 0, .slice none 0 0, .slice none 0 0]) := Lib.hid (Box.only ho8 (by omega) R_6.out)
            have XY : Hid (Box wr w2.heap.size #[.slice (some ⟨g0, 0, none⟩) cs.length d0, .slice (some ⟨g1, 0, none⟩) us.length d1, .slice none 0 0]) := Lib.hid (Box.only ho8 (by omega) X_6.out)
            have YY : Hid (Box wr w5.heap.size #[.slice (some ⟨gx, 0, none⟩) r.cs.length cx, .int .i64 r.s, .int .i64 r.b]) := Lib.hid (Box.only ho8 (by omega) Y_6.out)
            have F1y : Hid (Grow wr (w2.heap.size + 1) 3 (.slice (some ⟨g1, 0, none⟩) us.length d1) us) := Lib.hid (Grow.only ho8 (by omega) F16.out)
            have row8 := hg8.out.row
            obtain ⟨xx0, xx1, xx2⟩ := Box.facts3 XY.out
            have y2 := XY.out.1
            by_cases hlt : i < cs.length
            · have hlu : (i : Int) < 1 + u := by rw [HN.out]; omega
              have hlt' : i < us.length := by rw [HL1.out]; exact hlt
              have hux : us[i]? = some us[i] := List.getElem?_eq_getElem hlt'
              have hub := B1.out us[i] (List.getElem_mem hlt')
              obtain ⟨ub0, ub1⟩ := hub
              have hcell := Grow.cell F1y.out hux
              have hw1 : wrap64 (us[i] + 1) = us[i] + 1 := IntWalk.wrap64_in _ ⟨by omega, by omega⟩
              clear hux
              go_wp2_with fail
              refine (pick_any B rb (P + 12 + 18 * (4 - (k + 1)) + cs.length + 6 + i) _ _ hr8.out (by omega) (by omega) (by omega)).mono ?_
              rintro e w7 ⟨q, q0, q1, rfl, hr7, ho7⟩
              have z7 := ho7.size
              have R7 := Lib.hid hr7; clear hr7
              have D7 := Lib.hid ho7; clear ho7
              have O7 : Hid (Only rb w6 w7) := Lib.hid (ho8.out.trans D7.out)
              have G7 : Hid (Grow w7 w6.heap.size 3 v8 ys) := Lib.hid (Grow.only D7 (by omega) hg8.out)
              have hyl := hys.out.1
              go_wp2_with (
                at_builtin
                refine wpList_append_own _ rfl (.tmp 46) (.tmp 55) 23 rfl w6.heap.size 3 i0 (.int .i64 0) 1 8 Try.underlying23 hi0 hz0 hz1 hz2 rfl (by decide) v8 _ _ rfl (G7.out.alloc _).own ⟨w7.heap.size, 0, none⟩ 1 1 [.int .i64 q] rfl rfl ?c1 ?c2 ?c3 ?c4 ?c5 ?_
                case c1 => intro j u hj; (rcases j with _ | j <;> simp at hj); subst hj; simp [go_sem]
                case c2 => intro u hu; simp at hu; subst hu; rfl
                case c3 => unfold maxLen; omega
                case c4 => omega
                case c5 => simp; omega
                intro v' w8 hown' hgrow hnil
                have G8 : Hid (Grow w8 w6.heap.size 3 v' (ys ++ [q])) := Lib.hid (Grow.snoc hown')
                have N8 : Hid (v' ≠ .slice none 0 0) := Lib.hid (fun h => by have := hnil.1 h; omega)
                have R8 : Hid (Rd B w8 rb (P + 12 + 18 * (4 - (k + 1)) + cs.length + 6 + i + 1)) := Lib.hid ((R7.out.alloc _).grown hgrow (fun j hj => by have := row8 j hj; omega))
                have O8 : Hid (Only rb w6 w8) := Lib.hid ((O7.out.alloc _).grown hgrow row8)
                clear hown' hgrow hnil)
              go_roundw
              case rel => exact ⟨i + 1, _, _, by omega, rfl, by go_num, Lib.hid ⟨by simp [hyl], fun x hx => by
                  rcases List.mem_append.1 hx with h | h
                  · exact hys.out.2 x h
                  · simp at h; subst h; omega⟩, N8, G8, R8, O8⟩
              case measure => simp [intOf]; omega
            · have hlu : ¬ (i : Int) < 1 + u := by rw [HN.out]; omega
              have hie : i = cs.length := by omega
              subst hie
              obtain ⟨g8, d8, rfl, hg8b, og8, lc8, mc8, ig8⟩ := Grow.block hg8.out hne8.out (fun x hx => by have := hys.out.2 x hx; exact ⟨by omega, by omega⟩)
              have I8 := Lib.hid ig8; clear ig8 og8
              have HYL := Lib.hid hys.out.1
              obtain ⟨yy0, yy1, yy2⟩ := Box.facts3 YY.out
              have y5 := YY.out.1
              have OXy : Hid (OwnI wr gx r.cs) := Lib.hid (OwnI.only ho8 (by omega) (by (repeat' (first | (with_reducible exact OwnI.madeAt _ _ _ (by first | omega | (simp; done) | (simp; omega) | (simp only [World.size_alloc, World.size_setCell, World.size_drew] at *; omega))) | (with_reducible refine OwnI.far ?_ (by first | omega | (simp; done) | (simp; omega) | (simp only [World.size_alloc, World.size_setCell, World.size_drew] at *; omega)) _) | (with_reducible refine OwnI.alloc ?_ _) | (with_reducible refine OwnI.drewN ?_ _) | (with_reducible refine OwnI.drew ?_) | (with_reducible assumption) | (refine Hid.out ?_; with_reducible assumption) | (apply OwnI.turn; (with_reducible assumption); exact (by first | omega | (simp; done) | (simp; omega) | (simp only [World.size_alloc, World.size_setCell, World.size_drew] at *; omega))) | (apply OwnI.only; (with_reducible assumption); exact (by first | omega | (simp; done) | (simp; omega) | (simp only [World.size_alloc, World.size_setCell, World.size_drew] at *; omega))) | (apply OwnI.belowD; (with_reducible assumption))))))
              have hsm := Nat.le_trans VX.out.2.1 VX.out.2.2.1
              go_wp2_with fail
              refine (spec_dotB _ _ _ _ _ _ r.cs ys _ (OXy.out.ints_of VX.out.1) I8.out hsm (by have := HYL.out; omega) (Nat.le_trans lc8 mc8)).mono ?_
              rintro e w7 ⟨rfl, hb⟩
              have z7 := hb.size
              have R7 := Lib.hid (Rd.below (by (repeat' (first | (with_reducible assumption) | (refine Hid.out ?_; with_reducible assumption) | (with_reducible refine Rd.set ?_ (by first | omega | (simp; done) | (simp; omega) | (simp only [World.size_alloc, World.size_setCell, World.size_drew] at *; omega)) (by first | omega | (simp; done) | (simp; omega) | (simp only [World.size_alloc, World.size_setCell, World.size_drew] at *; omega))) | (with_reducible refine Rd.alloc ?_ _) | (with_reducible refine Rd.drewN ?_ _) | (with_reducible refine Rd.drew ?_)))) hb)
              have D7 := Lib.hid hb; clear hb
              have O7 : Hid (OnlyA rb w w7) := Lib.hid (Only.trans (by (repeat' (first | exact Only.refl _ _ | (with_reducible assumption) | (refine Hid.out ?_; with_reducible assumption) | (refine OnlyA.out ?_; refine Hid.out ?_; with_reducible assumption) | (with_reducible refine Only.setNew ?_ (by first | omega | (simp; done) | (simp; omega) | (simp only [World.size_alloc, World.size_setCell, World.size_drew] at *; omega))) | (with_reducible refine Only.alloc ?_ _) | (with_reducible refine Only.drewN ?_ _) | (with_reducible refine Only.drew ?_) | (apply Only.thenD; (with_reducible assumption)) | (apply Only.belowD; (with_reducible assumption))))) (Only.of_below D7.out))
              (try simp at z7)
              have R_7 : Hid (Box w7 (w.heap.size) #[.slice none 0 0, .slice none 0 0, .slice none 0 0]) := Lib.hid (Box.below (by (repeat' (first | (with_reducible exact Box.new _ _ _ (by first | omega | (simp; done) | (simp; omega) | (simp only [World.size_alloc, World.size_setCell, World.size_drew] at *; omega))) | (with_reducible refine Box.far ?_ (by first | omega | (simp; done) | (simp; omega) | (simp only [World.size_alloc, World.size_setCell, World.size_drew] at *; omega)) _) | (apply Box.put3_0) | (apply Box.put3_1) | (apply Box.put3_2) | (apply Box.put2_0) | (apply Box.put2_1) | (with_reducible refine Box.alloc ?_ _) | (with_reducible refine Box.drewN ?_ _) | (with_reducible refine Box.drew ?_) | (with_reducible assumption) | (refine Hid.out ?_; with_reducible assumption) | (apply Box.only; (with_reducible assumption); exact (by first | omega | (simp; done) | (simp; omega) | (simp only [World.size_alloc, World.size_setCell, World.size_drew] at *; omega))) | (apply Box.belowD; (with_reducible assumption))))) D7.out)
              have yR_7 : w.heap.size < w7.heap.size := R_7.out.1
              obtain ⟨R_7c0, R_7c1, R_7c2⟩ := Box.facts3 R_7.out
              have R_7f0 := Box.frz R_7.out 0 (by first | decide | simp)
              have R_7f1 := Box.frz R_7.out 1 (by first | decide | simp)
              have R_7f2 := Box.frz R_7.out 2 (by first | decide | simp)
              have X_7 : Hid (Box w7 (w2.heap.size) #[.slice (some ⟨g0, 0, none⟩) cs.length d0, .slice (some ⟨g1, 0, none⟩) us.length d1, .slice none 0 0]) := Lib.hid (Box.below (by (repeat' (first | (with_reducible exact Box.new _ _ _ (by first | omega | (simp; done) | (simp; omega) | (simp only [World.size_alloc, World.size_setCell, World.size_drew] at *; omega))) | (with_reducible refine Box.far ?_ (by first | omega | (simp; done) | (simp; omega) | (simp only [World.size_alloc, World.size_setCell, World.size_drew] at *; omega)) _) | (apply Box.put3_0) | (apply Box.put3_1) | (apply Box.put3_2) | (apply Box.put2_0) | (apply Box.put2_1) | (with_reducible refine Box.alloc ?_ _) | (with_reducible refine Box.drewN ?_ _) | (with_reducible refine Box.drew ?_) | (with_reducible assumption) | (refine Hid.out ?_; with_reducible assumption) | (apply Box.only; (with_reducible assumption); exact (by first | omega | (simp; done) | (simp; omega) | (simp only [World.size_alloc, World.size_setCell, World.size_drew] at *; omega))) | (apply Box.belowD; (with_reducible assumption))))) D7.out)
              have yX_7 : w2.heap.size < w7.heap.size := X_7.out.1
              obtain ⟨X_7c0, X_7c1, X_7c2⟩ := Box.facts3 X_7.out
              have X_7f0 := Box.frz X_7.out 0 (by first | decide | simp)
              have X_7f1 := Box.frz X_7.out 1 (by first | decide | simp)
              have X_7f2 := Box.frz X_7.out 2 (by first | decide | simp)
              have Y_7 : Hid (Box w7 (w5.heap.size) #[.slice (some ⟨gx, 0, none⟩) r.cs.length cx, .int .i64 r.s, .int .i64 r.b]) := Lib.hid (Box.below (by (repeat' (first | (with_reducible exact Box.new _ _ _ (by first | omega | (simp; done) | (simp; omega) | (simp only [World.size_alloc, World.size_setCell, World.size_drew] at *; omega))) | (with_reducible refine Box.far ?_ (by first | omega | (simp; done) | (simp; omega) | (simp only [World.size_alloc, World.size_setCell, World.size_drew] at *; omega)) _) | (apply Box.put3_0) | (apply Box.put3_1) | (apply Box.put3_2) | (apply Box.put2_0) | (apply Box.put2_1) | (with_reducible refine Box.alloc ?_ _) | (with_reducible refine Box.drewN ?_ _) | (with_reducible refine Box.drew ?_) | (with_reducible assumption) | (refine Hid.out ?_; with_reducible assumption) | (apply Box.only; (with_reducible assumption); exact (by first | omega | (simp; done) | (simp; omega) | (simp only [World.size_alloc, World.size_setCell, World.size_drew] at *; omega))) | (apply Box.belowD; (with_reducible assumption))))) D7.out)
              have yY_7 : w5.heap.size < w7.heap.size := Y_7.out.1
              obtain ⟨Y_7c0, Y_7c1, Y_7c2⟩ := Box.facts3 Y_7.out
              have Y_7f0 := Box.frz Y_7.out 0 (by first | decide | simp)
              have Y_7f1 := Box.frz Y_7.out 1 (by first | decide | simp)
              have Y_7f2 := Box.frz Y_7.out 2 (by first | decide | simp)
              have GRc : Hid (GrowR (w7.setCell ⟨w5.heap.size, 2, none⟩ (.int .i64 (dotW r.cs ys))) w3.heap.size w3.heap.size 35 v5 rs) := Lib.hid (GrowR.only (Lib.hid (Only.trans D5.out (by (repeat' (first | exact Only.refl _ _ | (with_reducible assumption) | (refine Hid.out ?_; with_reducible assumption) | (refine OnlyA.out ?_; refine Hid.out ?_; with_reducible assumption) | (with_reducible refine Only.setNew ?_ (by first | omega | (simp; done) | (simp; omega) | (simp only [World.size_alloc, World.size_setCell, World.size_drew] at *; omega))) | (with_reducible refine Only.alloc ?_ _) | (with_reducible refine Only.drewN ?_ _) | (with_reducible refine Only.drew ?_) | (apply Only.thenD; (with_reducible assumption)) | (apply Only.belowD; (with_reducible assumption))))))) (by omega) hGR.out)
              have F0c : Hid (Grow (w7.setCell ⟨w5.heap.size, 2, none⟩ (.int .i64 (dotW r.cs ys))) w1.heap.size 3 (.slice (some ⟨g0, 0, none⟩) cs.length d0) cs) := Lib.hid (by (repeat' (first | (with_reducible assumption) | (refine Hid.out ?_; with_reducible assumption) | (with_reducible refine Grow.far ?_ (by first | omega | (simp; done) | (simp; omega) | (simp only [World.size_alloc, World.size_setCell, World.size_drew] at *; omega)) _) | (with_reducible refine Grow.farO ?_ (by first | omega | (simp; done) | (simp; omega) | (simp only [World.size_alloc, World.size_setCell, World.size_drew] at *; omega)) _) | (with_reducible refine Grow.alloc ?_ _) | (with_reducible refine Grow.drewN ?_ _) | (with_reducible refine Grow.drew ?_) | (apply Grow.only; (with_reducible assumption); exact (by first | omega | (simp; done) | (simp; omega) | (simp only [World.size_alloc, World.size_setCell, World.size_drew] at *; omega))) | (apply Grow.belowD; (with_reducible assumption)))))
              have F1c : Hid (Grow (w7.setCell ⟨w5.heap.size, 2, none⟩ (.int .i64 (dotW r.cs ys))) (w2.heap.size + 1) 3 (.slice (some ⟨g1, 0, none⟩) us.length d1) us) := Lib.hid (by (repeat' (first | (with_reducible assumption) | (refine Hid.out ?_; with_reducible assumption) | (with_reducible refine Grow.far ?_ (by first | omega | (simp; done) | (simp; omega) | (simp only [World.size_alloc, World.size_setCell, World.size_drew] at *; omega)) _) | (with_reducible refine Grow.farO ?_ (by first | omega | (simp; done) | (simp; omega) | (simp only [World.size_alloc, World.size_setCell, World.size_drew] at *; omega)) _) | (with_reducible refine Grow.alloc ?_ _) | (with_reducible refine Grow.drewN ?_ _) | (with_reducible refine Grow.drew ?_) | (apply Grow.only; (with_reducible assumption); exact (by first | omega | (simp; done) | (simp; omega) | (simp only [World.size_alloc, World.size_setCell, World.size_drew] at *; omega))) | (apply Grow.belowD; (with_reducible assumption)))))
              have OXc : Hid (OwnI (w7.setCell ⟨w5.heap.size, 2, none⟩ (.int .i64 (dotW r.cs ys))) gx r.cs) := Lib.hid (by (repeat' (first | (with_reducible exact OwnI.madeAt _ _ _ (by first | omega | (simp; done) | (simp; omega) | (simp only [World.size_alloc, World.size_setCell, World.size_drew] at *; omega))) | (with_reducible refine OwnI.far ?_ (by first | omega | (simp; done) | (simp; omega) | (simp only [World.size_alloc, World.size_setCell, World.size_drew] at *; omega)) _) | (with_reducible refine OwnI.alloc ?_ _) | (with_reducible refine OwnI.drewN ?_ _) | (with_reducible refine OwnI.drew ?_) | (with_reducible assumption) | (refine Hid.out ?_; with_reducible assumption) | (apply OwnI.turn; (with_reducible assumption); exact (by first | omega | (simp; done) | (simp; omega) | (simp only [World.size_alloc, World.size_setCell, World.size_drew] at *; omega))) | (apply OwnI.only; (with_reducible assumption); exact (by first | omega | (simp; done) | (simp; omega) | (simp only [World.size_alloc, World.size_setCell, World.size_drew] at *; omega))) | (apply OwnI.belowD; (with_reducible assumption)))))
              have ZRc : Hid (Box (w7.setCell ⟨w5.heap.size, 2, none⟩ (.int .i64 (dotW r.cs ys))) w.heap.size #[.slice none 0 0, .slice none 0 0, .slice none 0 0]) := Lib.hid (by (repeat' (first | (with_reducible exact Box.new _ _ _ (by first | omega | (simp; done) | (simp; omega) | (simp only [World.size_alloc, World.size_setCell, World.size_drew] at *; omega))) | (with_reducible refine Box.far ?_ (by first | omega | (simp; done) | (simp; omega) | (simp only [World.size_alloc, World.size_setCell, World.size_drew] at *; omega)) _) | (apply Box.put3_0) | (apply Box.put3_1) | (apply Box.put3_2) | (apply Box.put2_0) | (apply Box.put2_1) | (with_reducible refine Box.alloc ?_ _) | (with_reducible refine Box.drewN ?_ _) | (with_reducible refine Box.drew ?_) | (with_reducible assumption) | (refine Hid.out ?_; with_reducible assumption) | (apply Box.only; (with_reducible assumption); exact (by first | omega | (simp; done) | (simp; omega) | (simp only [World.size_alloc, World.size_setCell, World.size_drew] at *; omega))) | (apply Box.belowD; (with_reducible assumption)))))
              have XRc : Hid (Box (w7.setCell ⟨w5.heap.size, 2, none⟩ (.int .i64 (dotW r.cs ys))) w2.heap.size #[.slice (some ⟨g0, 0, none⟩) cs.length d0, .slice (some ⟨g1, 0, none⟩) us.length d1, .slice none 0 0]) := Lib.hid (by (repeat' (first | (with_reducible exact Box.new _ _ _ (by first | omega | (simp; done) | (simp; omega) | (simp only [World.size_alloc, World.size_setCell, World.size_drew] at *; omega))) | (with_reducible refine Box.far ?_ (by first | omega | (simp; done) | (simp; omega) | (simp only [World.size_alloc, World.size_setCell, World.size_drew] at *; omega)) _) | (apply Box.put3_0) | (apply Box.put3_1) | (apply Box.put3_2) | (apply Box.put2_0) | (apply Box.put2_1) | (with_reducible refine Box.alloc ?_ _) | (with_reducible refine Box.drewN ?_ _) | (with_reducible refine Box.drew ?_) | (with_reducible assumption) | (refine Hid.out ?_; with_reducible assumption) | (apply Box.only; (with_reducible assumption); exact (by first | omega | (simp; done) | (simp; omega) | (simp only [World.size_alloc, World.size_setCell, World.size_drew] at *; omega))) | (apply Box.belowD; (with_reducible assumption)))))
              have hIb : I64 (dotW r.cs ys) := dotW_bd _ _
              have hrow := GRc.out.row
              have hxx : some gx ≠ v5.ownBlock := fun h => by have := hrw gx h.symm; omega
              go_wp2_with (
                at_builtin
                obtain ⟨cl, hcl, hown, hrv⟩ := (GRc.out.alloc (.cells #[.slice (some ⟨gx, 0, none⟩) r.cs.length cx, .int .i64 r.s, .int .i64 (dotW r.cs ys)] 35)).cells
                refine wpList_append_own_at _ rfl (.tmp 62) (.tmp 64) 24 rfl w3.heap.size 35 ir (.agg #[.slice none 0 0, .int .i64 0, .int .i64 0]) 3 40 Try.underlying24 hir hzr0 hzr1 hzr2 rfl (by decide) v5 rs.length cl rfl hown ⟨w7.heap.size, 0, none⟩ 1 1 [.slice (some ⟨gx, 0, none⟩) r.cs.length cx, .int .i64 r.s, .int .i64 (dotW r.cs ys)] rfl rfl ?c1 ?c2 ?c3 ?c4 ?c5 ?_
                case c1 => intro j u hj; (rcases j with _ | _ | _ | j <;> simp at hj) <;> subst hj <;> simp [go_sem, Addr.add]
                case c2 => intro u hu; simp at hu; (rcases hu with rfl | rfl | rfl) <;> rfl
                case c3 => unfold maxLen; omega
                case c4 => omega
                case c5 => simp; omega
                intro v' w9 hown' hgrow hnil hob)
              have hg3 : ∀ j, v5.ownBlock = some j → w3.heap.size ≤ j := fun j hj => (hrow j hj).1
              have G9 : Hid (GrowR w9 w3.heap.size w3.heap.size 35 v' (rs ++ [⟨r.cs, r.s, dotW r.cs ys⟩])) := Lib.hid (GrowR.snoc (Nat.le_refl _) hcl hrv hgrow hob (RowVx.of_own (r := ⟨r.cs, r.s, dotW r.cs ys⟩) (OXc.out.alloc _) (OwnI.rowV (r := ⟨r.cs, r.s, dotW r.cs ys⟩) (OXc.out.alloc _) (VX.out.bound hIb)) (by omega) hxx) hown')
              have R9 : Hid (Rd B w9 rb (P + 12 + 18 * (4 - (k + 1)) + cs.length + 6 + cs.length)) := Lib.hid (Rd.grown (by (repeat' (first | (with_reducible assumption) | (refine Hid.out ?_; with_reducible assumption) | (with_reducible refine Rd.set ?_ (by first | omega | (simp; done) | (simp; omega) | (simp only [World.size_alloc, World.size_setCell, World.size_drew] at *; omega)) (by first | omega | (simp; done) | (simp; omega) | (simp only [World.size_alloc, World.size_setCell, World.size_drew] at *; omega))) | (with_reducible refine Rd.alloc ?_ _) | (with_reducible refine Rd.drewN ?_ _) | (with_reducible refine Rd.drew ?_)))) hgrow (fun j hj => by have := hg3 j hj; omega))
              have O9 : Hid (Only rb w w9) := Lib.hid (Only.grown (by (repeat' (first | exact Only.refl _ _ | (with_reducible assumption) | (refine Hid.out ?_; with_reducible assumption) | (refine OnlyA.out ?_; refine Hid.out ?_; with_reducible assumption) | (with_reducible refine Only.setNew ?_ (by first | omega | (simp; done) | (simp; omega) | (simp only [World.size_alloc, World.size_setCell, World.size_drew] at *; omega))) | (with_reducible refine Only.alloc ?_ _) | (with_reducible refine Only.drewN ?_ _) | (with_reducible refine Only.drew ?_) | (apply Only.thenD; (with_reducible assumption)) | (apply Only.belowD; (with_reducible assumption))))) hgrow (fun j hj => by have := hg3 j hj; omega))
              have Z9 : Hid (Box w9 w.heap.size #[.slice none 0 0, .slice none 0 0, .slice none 0 0]) := Lib.hid ((ZRc.out.alloc _).grown hgrow (fun j hj => by have := hg3 j hj; omega))
              have X9 : Hid (Box w9 w2.heap.size #[.slice (some ⟨g0, 0, none⟩) cs.length d0, .slice (some ⟨g1, 0, none⟩) us.length d1, .slice none 0 0]) := Lib.hid ((XRc.out.alloc _).grown hgrow (fun j hj => by have := hg3 j hj; omega))
              have F09 : Hid (Grow w9 w1.heap.size 3 (.slice (some ⟨g0, 0, none⟩) cs.length d0) cs) := Lib.hid ((F0c.out.alloc _).kept hgrow (fun j hj e => by simp [Value.ownBlock] at hj; have := hg3 j e; omega))
              have F19 : Hid (Grow w9 (w2.heap.size + 1) 3 (.slice (some ⟨g1, 0, none⟩) us.length d1) us) := Lib.hid ((F1c.out.alloc _).kept hgrow (fun j hj e => by simp [Value.ownBlock] at hj; have := hg3 j e; omega))
              have z9 : w3.heap.size ≤ w9.heap.size := by have := hgrow.size; simp at this; omega
              clear hown' hgrow hnil hob hown hrv
              go_roundw
              case rel => exact ⟨k, _, rs ++ [⟨r.cs, r.s, dotW r.cs ys⟩], by omega, rfl, by go_num, by simp; omega, Lib.hid (fun x hx => by
                  rcases List.mem_append.1 hx with h | h
                  · exact hlr.out x h
                  · simp at h; subst h; show r.cs.length ≤ 4; omega), G9, Lib.hid (R9.out.mono (by omega)), O9, Z9, X9, F09, F19, z9⟩
              case measure => simp [intOf]
        · have htb : (t == 0) = false := by simp [ht]
          clear ht
          have GRc : Hid (GrowR w6 w3.heap.size w3.heap.size 35 v5 rs) := Lib.hid (GrowR.only (Lib.hid (Only.trans D5.out (by (repeat' (first | exact Only.refl _ _ | (with_reducible assumption) | (refine Hid.out ?_; with_reducible assumption) | (refine OnlyA.out ?_; refine Hid.out ?_; with_reducible assumption) | (with_reducible refine Only.setNew ?_ (by first | omega | (simp; done) | (simp; omega) | (simp only [World.size_alloc, World.size_setCell, World.size_drew] at *; omega))) | (with_reducible refine Only.alloc ?_ _) | (with_reducible refine Only.drewN ?_ _) | (with_reducible refine Only.drew ?_) | (apply Only.thenD; (with_reducible assumption)) | (apply Only.belowD; (with_reducible assumption))))))) (by omega) hGR.out)
          have F0c : Hid (Grow w6 w1.heap.size 3 (.slice (some ⟨g0, 0, none⟩) cs.length d0) cs) := Lib.hid (by (repeat' (first | (with_reducible assumption) | (refine Hid.out ?_; with_reducible assumption) | (with_reducible refine Grow.far ?_ (by first | omega | (simp; done) | (simp; omega) | (simp only [World.size_alloc, World.size_setCell, World.size_drew] at *; omega)) _) | (with_reducible refine Grow.farO ?_ (by first | omega | (simp; done) | (simp; omega) | (simp only [World.size_alloc, World.size_setCell, World.size_drew] at *; omega)) _) | (with_reducible refine Grow.alloc ?_ _) | (with_reducible refine Grow.drewN ?_ _) | (with_reducible refine Grow.drew ?_) | (apply Grow.only; (with_reducible assumption); exact (by first | omega | (simp; done) | (simp; omega) | (simp only [World.size_alloc, World.size_setCell, World.size_drew] at *; omega))) | (apply Grow.belowD; (with_reducible assumption)))))
          have F1c : Hid (Grow w6 (w2.heap.size + 1) 3 (.slice (some ⟨g1, 0, none⟩) us.length d1) us) := Lib.hid (by (repeat' (first | (with_reducible assumption) | (refine Hid.out ?_; with_reducible assumption) | (with_reducible refine Grow.far ?_ (by first | omega | (simp; done) | (simp; omega) | (simp only [World.size_alloc, World.size_setCell, World.size_drew] at *; omega)) _) | (with_reducible refine Grow.farO ?_ (by first | omega | (simp; done) | (simp; omega) | (simp only [World.size_alloc, World.size_setCell, World.size_drew] at *; omega)) _) | (with_reducible refine Grow.alloc ?_ _) | (with_reducible refine Grow.drewN ?_ _) | (with_reducible refine Grow.drew ?_) | (apply Grow.only; (with_reducible assumption); exact (by first | omega | (simp; done) | (simp; omega) | (simp only [World.size_alloc, World.size_setCell, World.size_drew] at *; omega))) | (apply Grow.belowD; (with_reducible assumption)))))
          have OXc : Hid (OwnI w6 gx r.cs) := Lib.hid (by (repeat' (first | (with_reducible exact OwnI.madeAt _ _ _ (by first | omega | (simp; done) | (simp; omega) | (simp only [World.size_alloc, World.size_setCell, World.size_drew] at *; omega))) | (with_reducible refine OwnI.far ?_ (by first | omega | (simp; done) | (simp; omega) | (simp only [World.size_alloc, World.size_setCell, World.size_drew] at *; omega)) _) | (with_reducible refine OwnI.alloc ?_ _) | (with_reducible refine OwnI.drewN ?_ _) | (with_reducible refine OwnI.drew ?_) | (with_reducible assumption) | (refine Hid.out ?_; with_reducible assumption) | (apply OwnI.turn; (with_reducible assumption); exact (by first | omega | (simp; done) | (simp; omega) | (simp only [World.size_alloc, World.size_setCell, World.size_drew] at *; omega))) | (apply OwnI.only; (with_reducible assumption); exact (by first | omega | (simp; done) | (simp; omega) | (simp only [World.size_alloc, World.size_setCell, World.size_drew] at *; omega))) | (apply OwnI.belowD; (with_reducible assumption)))))
          have ZRc : Hid (Box w6 w.heap.size #[.slice none 0 0, .slice none 0 0, .slice none 0 0]) := Lib.hid (by (repeat' (first | (with_reducible exact Box.new _ _ _ (by first | omega | (simp; done) | (simp; omega) | (simp only [World.size_alloc, World.size_setCell, World.size_drew] at *; omega))) | (with_reducible refine Box.far ?_ (by first | omega | (simp; done) | (simp; omega) | (simp only [World.size_alloc, World.size_setCell, World.size_drew] at *; omega)) _) | (apply Box.put3_0) | (apply Box.put3_1) | (apply Box.put3_2) | (apply Box.put2_0) | (apply Box.put2_1) | (with_reducible refine Box.alloc ?_ _) | (with_reducible refine Box.drewN ?_ _) | (with_reducible refine Box.drew ?_) | (with_reducible assumption) | (refine Hid.out ?_; with_reducible assumption) | (apply Box.only; (with_reducible assumption); exact (by first | omega | (simp; done) | (simp; omega) | (simp only [World.size_alloc, World.size_setCell, World.size_drew] at *; omega))) | (apply Box.belowD; (with_reducible assumption)))))
          have XRc : Hid (Box w6 w2.heap.size #[.slice (some ⟨g0, 0, none⟩) cs.length d0, .slice (some ⟨g1, 0, none⟩) us.length d1, .slice none 0 0]) := Lib.hid (by (repeat' (first | (with_reducible exact Box.new _ _ _ (by first | omega | (simp; done) | (simp; omega) | (simp only [World.size_alloc, World.size_setCell, World.size_drew] at *; omega))) | (with_reducible refine Box.far ?_ (by first | omega | (simp; done) | (simp; omega) | (simp only [World.size_alloc, World.size_setCell, World.size_drew] at *; omega)) _) | (apply Box.put3_0) | (apply Box.put3_1) | (apply Box.put3_2) | (apply Box.put2_0) | (apply Box.put2_1) | (with_reducible refine Box.alloc ?_ _) | (with_reducible refine Box.drewN ?_ _) | (with_reducible refine Box.drew ?_) | (with_reducible assumption) | (refine Hid.out ?_; with_reducible assumption) | (apply Box.only; (with_reducible assumption); exact (by first | omega | (simp; done) | (simp; omega) | (simp only [World.size_alloc, World.size_setCell, World.size_drew] at *; omega))) | (apply Box.belowD; (with_reducible assumption)))))
          have hIb : I64 (r.b) := VX.out.2.2.2.2
          have hrow := GRc.out.row
          have hxx : some gx ≠ v5.ownBlock := fun h => by have := hrw gx h.symm; omega
          go_wp2_with (
            at_builtin
            obtain ⟨cl, hcl, hown, hrv⟩ := (GRc.out.alloc (.cells #[.slice (some ⟨gx, 0, none⟩) r.cs.length cx, .int .i64 r.s, .int .i64 (r.b)] 35)).cells
            refine wpList_append_own_at _ rfl (.tmp 62) (.tmp 64) 24 rfl w3.heap.size 35 ir (.agg #[.slice none 0 0, .int .i64 0, .int .i64 0]) 3 40 Try.underlying24 hir hzr0 hzr1 hzr2 rfl (by decide) v5 rs.length cl rfl hown ⟨w6.heap.size, 0, none⟩ 1 1 [.slice (some ⟨gx, 0, none⟩) r.cs.length cx, .int .i64 r.s, .int .i64 (r.b)] rfl rfl ?c1 ?c2 ?c3 ?c4 ?c5 ?_
            case c1 => intro j u hj; (rcases j with _ | _ | _ | j <;> simp at hj) <;> subst hj <;> simp [go_sem, Addr.add]
            case c2 => intro u hu; simp at hu; (rcases hu with rfl | rfl | rfl) <;> rfl
            case c3 => unfold maxLen; omega
            case c4 => omega
            case c5 => simp; omega
            intro v' w9 hown' hgrow hnil hob)
          have hg3 : ∀ j, v5.ownBlock = some j → w3.heap.size ≤ j := fun j hj => (hrow j hj).1
          have G9 : Hid (GrowR w9 w3.heap.size w3.heap.size 35 v' (rs ++ [⟨r.cs, r.s, r.b⟩])) := Lib.hid (GrowR.snoc (Nat.le_refl _) hcl hrv hgrow hob (RowVx.of_own (r := ⟨r.cs, r.s, r.b⟩) (OXc.out.alloc _) (OwnI.rowV (r := ⟨r.cs, r.s, r.b⟩) (OXc.out.alloc _) (VX.out.bound hIb)) (by omega) hxx) hown')
          have R9 : Hid (Rd B w9 rb (P + 12 + 18 * (4 - (k + 1)) + cs.length + 5 + 1)) := Lib.hid (Rd.grown (by (repeat' (first | (with_reducible assumption) | (refine Hid.out ?_; with_reducible assumption) | (with_reducible refine Rd.set ?_ (by first | omega | (simp; done) | (simp; omega) | (simp only [World.size_alloc, World.size_setCell, World.size_drew] at *; omega)) (by first | omega | (simp; done) | (simp; omega) | (simp only [World.size_alloc, World.size_setCell, World.size_drew] at *; omega))) | (with_reducible refine Rd.alloc ?_ _) | (with_reducible refine Rd.drewN ?_ _) | (with_reducible refine Rd.drew ?_)))) hgrow (fun j hj => by have := hg3 j hj; omega))
          have O9 : Hid (Only rb w w9) := Lib.hid (Only.grown (by (repeat' (first | exact Only.refl _ _ | (with_reducible assumption) | (refine Hid.out ?_; with_reducible assumption) | (refine OnlyA.out ?_; refine Hid.out ?_; with_reducible assumption) | (with_reducible refine Only.setNew ?_ (by first | omega | (simp; done) | (simp; omega) | (simp only [World.size_alloc, World.size_setCell, World.size_drew] at *; omega))) | (with_reducible refine Only.alloc ?_ _) | (with_reducible refine Only.drewN ?_ _) | (with_reducible refine Only.drew ?_) | (apply Only.thenD; (with_reducible assumption)) | (apply Only.belowD; (with_reducible assumption))))) hgrow (fun j hj => by have := hg3 j hj; omega))
          have Z9 : Hid (Box w9 w.heap.size #[.slice none 0 0, .slice none 0 0, .slice none 0 0]) := Lib.hid ((ZRc.out.alloc _).grown hgrow (fun j hj => by have := hg3 j hj; omega))
          have X9 : Hid (Box w9 w2.heap.size #[.slice (some ⟨g0, 0, none⟩) cs.length d0, .slice (some ⟨g1, 0, none⟩) us.length d1, .slice none 0 0]) := Lib.hid ((XRc.out.alloc _).grown hgrow (fun j hj => by have := hg3 j hj; omega))
          have F09 : Hid (Grow w9 w1.heap.size 3 (.slice (some ⟨g0, 0, none⟩) cs.length d0) cs) := Lib.hid ((F0c.out.alloc _).kept hgrow (fun j hj e => by simp [Value.ownBlock] at hj; have := hg3 j e; omega))
          have F19 : Hid (Grow w9 (w2.heap.size + 1) 3 (.slice (some ⟨g1, 0, none⟩) us.length d1) us) := Lib.hid ((F1c.out.alloc _).kept hgrow (fun j hj e => by simp [Value.ownBlock] at hj; have := hg3 j e; omega))
          have z9 : w3.heap.size ≤ w9.heap.size := by have := hgrow.size; simp at this; omega
          clear hown' hgrow hnil hob hown hrv
          go_roundw
          case rel => exact ⟨k, _, rs ++ [⟨r.cs, r.s, r.b⟩], by omega, rfl, by go_num, by simp; omega, Lib.hid (fun x hx => by
              rcases List.mem_append.1 hx with h | h
              · exact hlr.out x h
              · simp at h; subst h; show r.cs.length ≤ 4; omega), G9, Lib.hid (R9.out.mono (by omega)), O9, Z9, X9, F09, F19, z9⟩
          case measure => simp [intOf]
  · have e3 : decide (1 + u < 3) = false := by have := HN.out; simp; omega
    go_wp2_with fail
    refine (some_at B rb (P + 1 + cs.length) cs.length _ 1 3 _ (by (repeat' (first | (with_reducible assumption) | (refine Hid.out ?_; with_reducible assumption) | (with_reducible refine Rd.set ?_ (by first | omega | (simp; done) | (simp; omega) | (simp only [World.size_alloc, World.size_setCell, World.size_drew] at *; omega)) (by first | omega | (simp; done) | (simp; omega) | (simp only [World.size_alloc, World.size_setCell, World.size_drew] at *; omega))) | (with_reducible refine Rd.alloc ?_ _) | (with_reducible refine Rd.drewN ?_ _) | (with_reducible refine Rd.drew ?_)))) (by omega) (by omega) (by omega) (by omega) (by omega) HN.out).mono ?_
    rintro e w3 ⟨v1, us, hl1, hb1, hn1, rfl, hgr1, hr, ho⟩
    have z3 := ho.size
    have R3 := Lib.hid hr; clear hr
    have D3 := Lib.hid ho; clear ho
    have O3 : Hid (OnlyA rb w w3) := Lib.hid (Only.trans (by (repeat' (first | exact Only.refl _ _ | (with_reducible assumption) | (refine Hid.out ?_; with_reducible assumption) | (refine OnlyA.out ?_; refine Hid.out ?_; with_reducible assumption) | (with_reducible refine Only.setNew ?_ (by first | omega | (simp; done) | (simp; omega) | (simp only [World.size_alloc, World.size_setCell, World.size_drew] at *; omega))) | (with_reducible refine Only.alloc ?_ _) | (with_reducible refine Only.drewN ?_ _) | (with_reducible refine Only.drew ?_) | (apply Only.thenD; (with_reducible assumption)) | (apply Only.belowD; (with_reducible assumption))))) D3.out)
    (try simp at z3)
    (try simp only [World.size_alloc, World.size_setCell, World.size_drew, World.heap_drewN] at hgr1)
    have G1 := Lib.hid hgr1; clear hgr1
    have N1 := Lib.hid hn1; clear hn1
    have B1 := Lib.hid hb1; clear hb1
    have R_3 : Hid (Box w3 (w.heap.size) #[.slice none 0 0, .slice none 0 0, .slice none 0 0]) := Lib.hid (Box.only D3 (by first | omega | (simp; done) | (simp; omega) | (simp only [World.size_alloc, World.size_setCell, World.size_drew] at *; omega)) (by (repeat' (first | (with_reducible exact Box.new _ _ _ (by first | omega | (simp; done) | (simp; omega) | (simp only [World.size_alloc, World.size_setCell, World.size_drew] at *; omega))) | (with_reducible refine Box.far ?_ (by first | omega | (simp; done) | (simp; omega) | (simp only [World.size_alloc, World.size_setCell, World.size_drew] at *; omega)) _) | (apply Box.put3_0) | (apply Box.put3_1) | (apply Box.put3_2) | (apply Box.put2_0) | (apply Box.put2_1) | (with_reducible refine Box.alloc ?_ _) | (with_reducible refine Box.drewN ?_ _) | (with_reducible refine Box.drew ?_) | (with_reducible assumption) | (refine Hid.out ?_; with_reducible assumption) | (apply Box.only; (with_reducible assumption); exact (by first | omega | (simp; done) | (simp; omega) | (simp only [World.size_alloc, World.size_setCell, World.size_drew] at *; omega))) | (apply Box.belowD; (with_reducible assumption))))))
    have yR_3 : w.heap.size < w3.heap.size := R_3.out.1
    obtain ⟨R_3c0, R_3c1, R_3c2⟩ := Box.facts3 R_3.out
    have R_3f0 := Box.frz R_3.out 0 (by first | decide | simp)
    have R_3f1 := Box.frz R_3.out 1 (by first | decide | simp)
    have R_3f2 := Box.frz R_3.out 2 (by first | decide | simp)
    have X_3 : Hid (Box w3 (w2.heap.size) #[.slice (some ⟨g0, 0, none⟩) cs.length d0, .slice none 0 0, .slice none 0 0]) := Lib.hid (Box.only D3 (by first | omega | (simp; done) | (simp; omega) | (simp only [World.size_alloc, World.size_setCell, World.size_drew] at *; omega)) (by (repeat' (first | (with_reducible exact Box.new _ _ _ (by first | omega | (simp; done) | (simp; omega) | (simp only [World.size_alloc, World.size_setCell, World.size_drew] at *; omega))) | (with_reducible refine Box.far ?_ (by first | omega | (simp; done) | (simp; omega) | (simp only [World.size_alloc, World.size_setCell, World.size_drew] at *; omega)) _) | (apply Box.put3_0) | (apply Box.put3_1) | (apply Box.put3_2) | (apply Box.put2_0) | (apply Box.put2_1) | (with_reducible refine Box.alloc ?_ _) | (with_reducible refine Box.drewN ?_ _) | (with_reducible refine Box.drew ?_) | (with_reducible assumption) | (refine Hid.out ?_; with_reducible assumption) | (apply Box.only; (with_reducible assumption); exact (by first | omega | (simp; done) | (simp; omega) | (simp only [World.size_alloc, World.size_setCell, World.size_drew] at *; omega))) | (apply Box.belowD; (with_reducible assumption))))))
    have yX_3 : w2.heap.size < w3.heap.size := X_3.out.1
    obtain ⟨X_3c0, X_3c1, X_3c2⟩ := Box.facts3 X_3.out
    have X_3f0 := Box.frz X_3.out 0 (by first | decide | simp)
    have X_3f1 := Box.frz X_3.out 1 (by first | decide | simp)
    have X_3f2 := Box.frz X_3.out 2 (by first | decide | simp)
    have HL1 := Lib.hid hl1; clear hl1
    obtain ⟨g1, d1, rfl, hg1, og1, lc1, mc1, ig1⟩ := Grow.block G1.out N1.out (fun x hx => by have := B1.out x hx; exact ⟨by omega, by omega⟩)
    clear og1 ig1
    have gl1 := (Grow.lt G1.out).2
    have E0 : Hid (Grow w3 w1.heap.size 3 (.slice (some ⟨g0, 0, none⟩) cs.length d0) cs) := Lib.hid (by (repeat' (first | (with_reducible assumption) | (refine Hid.out ?_; with_reducible assumption) | (with_reducible refine Grow.far ?_ (by first | omega | (simp; done) | (simp; omega) | (simp only [World.size_alloc, World.size_setCell, World.size_drew] at *; omega)) _) | (with_reducible refine Grow.farO ?_ (by first | omega | (simp; done) | (simp; omega) | (simp only [World.size_alloc, World.size_setCell, World.size_drew] at *; omega)) _) | (with_reducible refine Grow.alloc ?_ _) | (with_reducible refine Grow.drewN ?_ _) | (with_reducible refine Grow.drew ?_) | (apply Grow.only; (with_reducible assumption); exact (by first | omega | (simp; done) | (simp; omega) | (simp only [World.size_alloc, World.size_setCell, World.size_drew] at *; omega))) | (apply Grow.belowD; (with_reducible assumption)))))
    go_wp2_with fail
    refine (pick_any B rb (P + 1 + cs.length + cs.length) _ _ (by (repeat' (first | (with_reducible assumption) | (refine Hid.out ?_; with_reducible assumption) | (with_reducible refine Rd.set ?_ (by first | omega | (simp; done) | (simp; omega) | (simp only [World.size_alloc, World.size_setCell, World.size_drew] at *; omega)) (by first | omega | (simp; done) | (simp; omega) | (simp only [World.size_alloc, World.size_setCell, World.size_drew] at *; omega))) | (with_reducible refine Rd.alloc ?_ _) | (with_reducible refine Rd.drewN ?_ _) | (with_reducible refine Rd.drew ?_)))) (by omega) (by omega) (by omega)).mono ?_
    rintro e w4 ⟨k, k0, k1, rfl, hr, ho⟩
    have z4 := ho.size
    have R4 := Lib.hid hr; clear hr
    have D4 := Lib.hid ho; clear ho
    have O4 : Hid (OnlyA rb w w4) := Lib.hid (Only.trans (by (repeat' (first | exact Only.refl _ _ | (with_reducible assumption) | (refine Hid.out ?_; with_reducible assumption) | (refine OnlyA.out ?_; refine Hid.out ?_; with_reducible assumption) | (with_reducible refine Only.setNew ?_ (by first | omega | (simp; done) | (simp; omega) | (simp only [World.size_alloc, World.size_setCell, World.size_drew] at *; omega))) | (with_reducible refine Only.alloc ?_ _) | (with_reducible refine Only.drewN ?_ _) | (with_reducible refine Only.drew ?_) | (apply Only.thenD; (with_reducible assumption)) | (apply Only.belowD; (with_reducible assumption))))) D4.out)
    (try simp at z4)
    have R_4 : Hid (Box w4 (w.heap.size) #[.slice none 0 0, .slice none 0 0, .slice none 0 0]) := Lib.hid (Box.only D4 (by first | omega | (simp; done) | (simp; omega) | (simp only [World.size_alloc, World.size_setCell, World.size_drew] at *; omega)) (by (repeat' (first | (with_reducible exact Box.new _ _ _ (by first | omega | (simp; done) | (simp; omega) | (simp only [World.size_alloc, World.size_setCell, World.size_drew] at *; omega))) | (with_reducible refine Box.far ?_ (by first | omega | (simp; done) | (simp; omega) | (simp only [World.size_alloc, World.size_setCell, World.size_drew] at *; omega)) _) | (apply Box.put3_0) | (apply Box.put3_1) | (apply Box.put3_2) | (apply Box.put2_0) | (apply Box.put2_1) | (with_reducible refine Box.alloc ?_ _) | (with_reducible refine Box.drewN ?_ _) | (with_reducible refine Box.drew ?_) | (with_reducible assumption) | (refine Hid.out ?_; with_reducible assumption) | (apply Box.only; (with_reducible assumption); exact (by first | omega | (simp; done) | (simp; omega) | (simp only [World.size_alloc, World.size_setCell, World.size_drew] at *; omega))) | (apply Box.belowD; (with_reducible assumption))))))
    have yR_4 : w.heap.size < w4.heap.size := R_4.out.1
    obtain ⟨R_4c0, R_4c1, R_4c2⟩ := Box.facts3 R_4.out
    have R_4f0 := Box.frz R_4.out 0 (by first | decide | simp)
    have R_4f1 := Box.frz R_4.out 1 (by first | decide | simp)
    have R_4f2 := Box.frz R_4.out 2 (by first | decide | simp)
    have X_4 : Hid (Box w4 (w2.heap.size) #[.slice (some ⟨g0, 0, none⟩) cs.length d0, .slice (some ⟨g1, 0, none⟩) us.length d1, .slice none 0 0]) := Lib.hid (Box.only D4 (by first | omega | (simp; done) | (simp; omega) | (simp only [World.size_alloc, World.size_setCell, World.size_drew] at *; omega)) (by (repeat' (first | (with_reducible exact Box.new _ _ _ (by first | omega | (simp; done) | (simp; omega) | (simp only [World.size_alloc, World.size_setCell, World.size_drew] at *; omega))) | (with_reducible refine Box.far ?_ (by first | omega | (simp; done) | (simp; omega) | (simp only [World.size_alloc, World.size_setCell, World.size_drew] at *; omega)) _) | (apply Box.put3_0) | (apply Box.put3_1) | (apply Box.put3_2) | (apply Box.put2_0) | (apply Box.put2_1) | (with_reducible refine Box.alloc ?_ _) | (with_reducible refine Box.drewN ?_ _) | (with_reducible refine Box.drew ?_) | (with_reducible assumption) | (refine Hid.out ?_; with_reducible assumption) | (apply Box.only; (with_reducible assumption); exact (by first | omega | (simp; done) | (simp; omega) | (simp only [World.size_alloc, World.size_setCell, World.size_drew] at *; omega))) | (apply Box.belowD; (with_reducible assumption))))))
    have yX_4 : w2.heap.size < w4.heap.size := X_4.out.1
    obtain ⟨X_4c0, X_4c1, X_4c2⟩ := Box.facts3 X_4.out
    have X_4f0 := Box.frz X_4.out 0 (by first | decide | simp)
    have X_4f1 := Box.frz X_4.out 1 (by first | decide | simp)
    have X_4f2 := Box.frz X_4.out 2 (by first | decide | simp)
    obtain ⟨K, rfl⟩ := Int.eq_ofNat_of_zero_le k0
    have F04 : Hid (Grow w4 w1.heap.size 3 (.slice (some ⟨g0, 0, none⟩) cs.length d0) cs) := Lib.hid (Grow.only D4 (by omega) ((E0.out.farO (by show w2.heap.size ≠ g0; omega) _).alloc _))
    have F14 : Hid (Grow w4 (w2.heap.size + 1) 3 (.slice (some ⟨g1, 0, none⟩) us.length d1) us) := Lib.hid (Grow.only D4 (by omega) ((G1.out.farO (by show w2.heap.size ≠ g1; omega) _).alloc _))
    have GR4 : Hid (GrowR w4 w3.heap.size w3.heap.size 35 (.slice (some ⟨w3.heap.size, 0, none⟩) 0 0) []) := Lib.hid (GrowR.only D4 (by omega) (GrowR.lit0_at _ (by first | omega | (simp; done) | (simp; omega) | (simp only [World.size_alloc, World.size_setCell, World.size_drew] at *; omega)) (Nat.le_refl _) (by first | omega | (simp; done) | (simp; omega) | (simp only [World.size_alloc, World.size_setCell, World.size_drew] at *; omega)) _))
    go_wp2_with fail
    go_loopw [5, 6] (fun s5 s6 wr => ∃ (k : Nat) (v5 : Value) (rs : List PRow), k ≤ K ∧ v5 = s5 ∧ s6 = .int .i64 k ∧ rs.length ≤ 4 - k ∧ Hid (∀ r ∈ rs, r.cs.length ≤ 4) ∧ Hid (GrowR wr w3.heap.size w3.heap.size 35 v5 rs) ∧ Hid (Rd B wr rb (P + 12 + 18 * (4 - k))) ∧ Hid (Only rb w wr) ∧ Hid (Box wr w.heap.size #[.slice none 0 0, .slice none 0 0, .slice none 0 0]) ∧ Hid (Box wr w2.heap.size #[.slice (some ⟨g0, 0, none⟩) cs.length d0, .slice (some ⟨g1, 0, none⟩) us.length d1, .slice none 0 0]) ∧ Hid (Grow wr w1.heap.size 3 (.slice (some ⟨g0, 0, none⟩) cs.length d0) cs) ∧ Hid (Grow wr (w2.heap.size + 1) 3 (.slice (some ⟨g1, 0, none⟩) us.length d1) us) ∧ w3.heap.size ≤ wr.heap.size) (fun _ s6 _ => (intOf s6).toNat)
    case atStart => exact ⟨K, _, [], by omega, rfl, rfl, by simp, Lib.hid (by simp), GR4, Lib.hid (R4.out.mono (by omega)), Lib.hid O4.out.out, R_4, X_4, F04, F14, by omega⟩
    case round =>
      obtain ⟨k, v5, rs, hk, rfl, rfl, hrl, hlr, hGR, hrd, ho, hR, hX, h0, h1, zr⟩ := hrel
      have zo := ho.out.size
      have hrw : ∀ j, v5.ownBlock = some j → j < wr.heap.size := fun j hj => (hGR.out.row j hj).2
      have hR1 := hR.out.1
      have hX1 := hX.out.1
      rcases k with _ | k
      · obtain ⟨A5, c5, rfl, lc5, mc5⟩ := hGR.out.shape
        obtain ⟨r0, r1, r2⟩ := Box.facts3 hR.out
        obtain ⟨x0, x1, x2⟩ := Box.facts3 hX.out
        have f0 := hR.out.frz 0 (by decide)
        have f1 := hR.out.frz 1 (by decide)
        have f2 := hR.out.frz 2 (by decide)
        have e0 := hX.out.frz 0 (by simp)
        have e1 := hX.out.frz 1 (by simp)
        have e2 := hX.out.frz 2 (by simp)
        go_wp2_with fail
        refine bodyPost_ret (v := .agg #[.slice (some ⟨g0, 0, none⟩) cs.length d0, .slice (some ⟨g1, 0, none⟩) us.length d1, .slice A5 rs.length c5]) (by simp [results, Try.results51, go_sem, *]) rfl ⟨g0, d0, g1, d1, _, ⟨cs, us, rs⟩, w3.heap.size, rfl, ?_, ?_, ?_, ⟨by omega, by omega, by omega, by omega, by simp [World.setCell]; omega⟩, ⟨n1, n4, HL1.out, by (show rs.length ≤ 4); omega, B0.out, fun x hx => by have := B1.out x hx; omega, hlr.out⟩, Rd.mono (P := P + 12 + 18 * (4 - 0)) (by (repeat' (first | (with_reducible assumption) | (refine Hid.out ?_; with_reducible assumption) | (with_reducible refine Rd.set ?_ (by first | omega | (simp; done) | (simp; omega) | (simp only [World.size_alloc, World.size_setCell, World.size_drew] at *; omega)) (by first | omega | (simp; done) | (simp; omega) | (simp only [World.size_alloc, World.size_setCell, World.size_drew] at *; omega))) | (with_reducible refine Rd.alloc ?_ _) | (with_reducible refine Rd.drewN ?_ _) | (with_reducible refine Rd.drew ?_)))) (by omega), by (repeat' (first | exact Only.refl _ _ | (with_reducible assumption) | (refine Hid.out ?_; with_reducible assumption) | (refine OnlyA.out ?_; refine Hid.out ?_; with_reducible assumption) | (with_reducible refine Only.setNew ?_ (by first | omega | (simp; done) | (simp; omega) | (simp only [World.size_alloc, World.size_setCell, World.size_drew] at *; omega))) | (with_reducible refine Only.alloc ?_ _) | (with_reducible refine Only.drewN ?_ _) | (with_reducible refine Only.drew ?_) | (apply Only.thenD; (with_reducible assumption)) | (apply Only.belowD; (with_reducible assumption))))⟩
        · exact Grow.mono (B := w1.heap.size) (by (repeat' (first | (with_reducible exact Hid.out (by assumption)) | (with_reducible refine Grow.farO ?_ (by first | omega | (simp; done) | (simp; omega) | (simp only [World.size_alloc, World.size_setCell, World.size_drew] at *; omega)) _)))) (by omega)
        · exact Grow.mono (B := w2.heap.size + 1) (by (repeat' (first | (with_reducible exact Hid.out (by assumption)) | (with_reducible refine Grow.farO ?_ (by first | omega | (simp; done) | (simp; omega) | (simp only [World.size_alloc, World.size_setCell, World.size_drew] at *; omega)) _)))) (by omega)
        · (repeat' (first | (with_reducible assumption) | (refine Hid.out ?_; with_reducible assumption) | (with_reducible refine GrowR.far ?_ (by first | omega | (simp; done) | (simp; omega) | (simp only [World.size_alloc, World.size_setCell, World.size_drew] at *; omega)) _) |  (with_reducible refine GrowR.alloc ?_ _) | (with_reducible refine GrowR.drewN ?_ _) | (with_reducible refine GrowR.drew ?_) | (apply GrowR.only; (with_reducible assumption); exact (by first | omega | (simp; done) | (simp; omega) | (simp only [World.size_alloc, World.size_setCell, World.size_drew] at *; omega))) | (apply GrowR.belowD; (with_reducible assumption))))
      · go_wp2_with fail
        refine (randomRow_at B rb (P + 12 + 18 * (4 - (k + 1))) cs.length _ _ hrd.out (by omega) (by omega) HN.out).mono ?_
        rintro e w5 ⟨gx, cx, r, hgx, rfl, ogx, vrx, hmx, hr, ho⟩
        have z5 := ho.size
        have R5 := Lib.hid hr; clear hr
        have D5 := Lib.hid ho; clear ho
        have O5 : Hid (OnlyA rb w w5) := Lib.hid (Only.trans (by (repeat' (first | exact Only.refl _ _ | (with_reducible assumption) | (refine Hid.out ?_; with_reducible assumption) | (refine OnlyA.out ?_; refine Hid.out ?_; with_reducible assumption) | (with_reducible refine Only.setNew ?_ (by first | omega | (simp; done) | (simp; omega) | (simp only [World.size_alloc, World.size_setCell, World.size_drew] at *; omega))) | (with_reducible refine Only.alloc ?_ _) | (with_reducible refine Only.drewN ?_ _) | (with_reducible refine Only.drew ?_) | (apply Only.thenD; (with_reducible assumption)) | (apply Only.belowD; (with_reducible assumption))))) D5.out)
        (try simp at z5)
        have OX := Lib.hid ogx; clear ogx
        have VX := Lib.hid vrx; clear vrx
        have R_5 : Hid (Box w5 (w.heap.size) #[.slice none 0 0, .slice none 0 0, .slice none 0 0]) := Lib.hid (Box.only D5 (by first | omega | (simp; done) | (simp; omega) | (simp only [World.size_alloc, World.size_setCell, World.size_drew] at *; omega)) (by (repeat' (first | (with_reducible exact Box.new _ _ _ (by first | omega | (simp; done) | (simp; omega) | (simp only [World.size_alloc, World.size_setCell, World.size_drew] at *; omega))) | (with_reducible refine Box.far ?_ (by first | omega | (simp; done) | (simp; omega) | (simp only [World.size_alloc, World.size_setCell, World.size_drew] at *; omega)) _) | (apply Box.put3_0) | (apply Box.put3_1) | (apply Box.put3_2) | (apply Box.put2_0) | (apply Box.put2_1) | (with_reducible refine Box.alloc ?_ _) | (with_reducible refine Box.drewN ?_ _) | (with_reducible refine Box.drew ?_) | (with_reducible assumption) | (refine Hid.out ?_; with_reducible assumption) | (apply Box.only; (with_reducible assumption); exact (by first | omega | (simp; done) | (simp; omega) | (simp only [World.size_alloc, World.size_setCell, World.size_drew] at *; omega))) | (apply Box.belowD; (with_reducible assumption))))))
        have yR_5 : w.heap.size < w5.heap.size := R_5.out.1
        obtain ⟨R_5c0, R_5c1, R_5c2⟩ := Box.facts3 R_5.out
        have R_5f0 := Box.frz R_5.out 0 (by first | decide | simp)
        have R_5f1 := Box.frz R_5.out 1 (by first | decide | simp)
        have R_5f2 := Box.frz R_5.out 2 (by first | decide | simp)
        have X_5 : Hid (Box w5 (w2.heap.size) #[.slice (some ⟨g0, 0, none⟩) cs.length d0, .slice (some ⟨g1, 0, none⟩) us.length d1, .slice none 0 0]) := Lib.hid (Box.only D5 (by first | omega | (simp; done) | (simp; omega) | (simp only [World.size_alloc, World.size_setCell, World.size_drew] at *; omega)) (by (repeat' (first | (with_reducible exact Box.new _ _ _ (by first | omega | (simp; done) | (simp; omega) | (simp only [World.size_alloc, World.size_setCell, World.size_drew] at *; omega))) | (with_reducible refine Box.far ?_ (by first | omega | (simp; done) | (simp; omega) | (simp only [World.size_alloc, World.size_setCell, World.size_drew] at *; omega)) _) | (apply Box.put3_0) | (apply Box.put3_1) | (apply Box.put3_2) | (apply Box.put2_0) | (apply Box.put2_1) | (with_reducible refine Box.alloc ?_ _) | (with_reducible refine Box.drewN ?_ _) | (with_reducible refine Box.drew ?_) | (with_reducible assumption) | (refine Hid.out ?_; with_reducible assumption) | (apply Box.only; (with_reducible assumption); exact (by first | omega | (simp; done) | (simp; omega) | (simp only [World.size_alloc, World.size_setCell, World.size_drew] at *; omega))) | (apply Box.belowD; (with_reducible assumption))))))
        have yX_5 : w2.heap.size < w5.heap.size := X_5.out.1
        obtain ⟨X_5c0, X_5c1, X_5c2⟩ := Box.facts3 X_5.out
        have X_5f0 := Box.frz X_5.out 0 (by first | decide | simp)
        have X_5f1 := Box.frz X_5.out 1 (by first | decide | simp)
        have X_5f2 := Box.frz X_5.out 2 (by first | decide | simp)
        have lgx := OX.out.1
        go_wp2_with fail
        refine (pick_any B rb (P + 12 + 18 * (4 - (k + 1)) + cs.length + 5) _ _ (by (repeat' (first | (with_reducible assumption) | (refine Hid.out ?_; with_reducible assumption) | (with_reducible refine Rd.set ?_ (by first | omega | (simp; done) | (simp; omega) | (simp only [World.size_alloc, World.size_setCell, World.size_drew] at *; omega)) (by first | omega | (simp; done) | (simp; omega) | (simp only [World.size_alloc, World.size_setCell, World.size_drew] at *; omega))) | (with_reducible refine Rd.alloc ?_ _) | (with_reducible refine Rd.drewN ?_ _) | (with_reducible refine Rd.drew ?_)))) (by omega) (by omega) (by omega)).mono ?_
        rintro e w6 ⟨t, t0, t1, rfl, hr, ho⟩
        have z6 := ho.size
        have R6 := Lib.hid hr; clear hr
        have D6 := Lib.hid ho; clear ho
        have O6 : Hid (OnlyA rb w w6) := Lib.hid (Only.trans (by (repeat' (first | exact Only.refl _ _ | (with_reducible assumption) | (refine Hid.out ?_; with_reducible assumption) | (refine OnlyA.out ?_; refine Hid.out ?_; with_reducible assumption) | (with_reducible refine Only.setNew ?_ (by first | omega | (simp; done) | (simp; omega) | (simp only [World.size_alloc, World.size_setCell, World.size_drew] at *; omega))) | (with_reducible refine Only.alloc ?_ _) | (with_reducible refine Only.drewN ?_ _) | (with_reducible refine Only.drew ?_) | (apply Only.thenD; (with_reducible assumption)) | (apply Only.belowD; (with_reducible assumption))))) D6.out)
        (try simp at z6)
        have R_6 : Hid (Box w6 (w.heap.size) #[.slice none 0 0, .slice none 0 0, .slice none 0 0]) := Lib.hid (Box.only D6 (by first | omega | (simp; done) | (simp; omega) | (simp only [World.size_alloc, World.size_setCell, World.size_drew] at *; omega)) (by (repeat' (first | (with_reducible exact Box.new _ _ _ (by first | omega | (simp; done) | (simp; omega) | (simp only [World.size_alloc, World.size_setCell, World.size_drew] at *; omega))) | (with_reducible refine Box.far ?_ (by first | omega | (simp; done) | (simp; omega) | (simp only [World.size_alloc, World.size_setCell, World.size_drew] at *; omega)) _) | (apply Box.put3_0) | (apply Box.put3_1) | (apply Box.put3_2) | (apply Box.put2_0) | (apply Box.put2_1) | (with_reducible refine Box.alloc ?_ _) | (with_reducible refine Box.drewN ?_ _) | (with_reducible refine Box.drew ?_) | (with_reducible assumption) | (refine Hid.out ?_; with_reducible assumption) | (apply Box.only; (with_reducible assumption); exact (by first | omega | (simp; done) | (simp; omega) | (simp only [World.size_alloc, World.size_setCell, World.size_drew] at *; omega))) | (apply Box.belowD; (with_reducible assumption))))))
        have yR_6 : w.heap.size < w6.heap.size := R_6.out.1
        obtain ⟨R_6c0, R_6c1, R_6c2⟩ := Box.facts3 R_6.out
        have R_6f0 := Box.frz R_6.out 0 (by first | decide | simp)
        have R_6f1 := Box.frz R_6.out 1 (by first | decide | simp)
        have R_6f2 := Box.frz R_6.out 2 (by first | decide | simp)
        have X_6 : Hid (Box w6 (w2.heap.size) #[.slice (some ⟨g0, 0, none⟩) cs.length d0, .slice (some ⟨g1, 0, none⟩) us.length d1, .slice none 0 0]) := Lib.hid (Box.only D6 (by first | omega | (simp; done) | (simp; omega) | (simp only [World.size_alloc, World.size_setCell, World.size_drew] at *; omega)) (by (repeat' (first | (with_reducible exact Box.new _ _ _ (by first | omega | (simp; done) | (simp; omega) | (simp only [World.size_alloc, World.size_setCell, World.size_drew] at *; omega))) | (with_reducible refine Box.far ?_ (by first | omega | (simp; done) | (simp; omega) | (simp only [World.size_alloc, World.size_setCell, World.size_drew] at *; omega)) _) | (apply Box.put3_0) | (apply Box.put3_1) | (apply Box.put3_2) | (apply Box.put2_0) | (apply Box.put2_1) | (with_reducible refine Box.alloc ?_ _) | (with_reducible refine Box.drewN ?_ _) | (with_reducible refine Box.drew ?_) | (with_reducible assumption) | (refine Hid.out ?_; with_reducible assumption) | (apply Box.only; (with_reducible assumption); exact (by first | omega | (simp; done) | (simp; omega) | (simp only [World.size_alloc, World.size_setCell, World.size_drew] at *; omega))) | (apply Box.belowD; (with_reducible assumption))))))
        have yX_6 : w2.heap.size < w6.heap.size := X_6.out.1
        obtain ⟨X_6c0, X_6c1, X_6c2⟩ := Box.facts3 X_6.out
        have X_6f0 := Box.frz X_6.out 0 (by first | decide | simp)
        have X_6f1 := Box.frz X_6.out 1 (by first | decide | simp)
        have X_6f2 := Box.frz X_6.out 2 (by first | decide | simp)
        have Y_6 : Hid (Box w6 (w5.heap.size) #[.slice (some ⟨gx, 0, none⟩) r.cs.length cx, .int .i64 r.s, .int .i64 r.b]) := Lib.hid (Box.only D6 (by first | omega | (simp; done) | (simp; omega) | (simp only [World.size_alloc, World.size_setCell, World.size_drew] at *; omega)) (by (repeat' (first | (with_reducible exact Box.new _ _ _ (by first | omega | (simp; done) | (simp; omega) | (simp only [World.size_alloc, World.size_setCell, World.size_drew] at *; omega))) | (with_reducible refine Box.far ?_ (by first | omega | (simp; done) | (simp; omega) | (simp only [World.size_alloc, World.size_setCell, World.size_drew] at *; omega)) _) | (apply Box.put3_0) | (apply Box.put3_1) | (apply Box.put3_2) | (apply Box.put2_0) | (apply Box.put2_1) | (with_reducible refine Box.alloc ?_ _) | (with_reducible refine Box.drewN ?_ _) | (with_reducible refine Box.drew ?_) | (with_reducible assumption) | (refine Hid.out ?_; with_reducible assumption) | (apply Box.only; (with_reducible assumption); exact (by first | omega | (simp; done) | (simp; omega) | (simp only [World.size_alloc, World.size_setCell, World.size_drew] at *; omega))) | (apply Box.belowD; (with_reducible assumption))))))
        have yY_6 : w5.heap.size < w6.heap.size := Y_6.out.1
        obtain ⟨Y_6c0, Y_6c1, Y_6c2⟩ := Box.facts3 Y_6.out
        have Y_6f0 := Box.frz Y_6.out 0 (by first | decide | simp)
        have Y_6f1 := Box.frz Y_6.out 1 (by first | decide | simp)
        have Y_6f2 := Box.frz Y_6.out 2 (by first | decide | simp)
        by_cases ht : t = 0
        · subst ht
          have F16 : Hid (Grow w6 (w2.heap.size + 1) 3 (.slice (some ⟨g1, 0, none⟩) us.length d1) us) := Lib.hid (by (repeat' (first | (with_reducible assumption) | (refine Hid.out ?_; with_reducible assumption) | (with_reducible refine Grow.far ?_ (by first | omega | (simp; done) | (simp; omega) | (simp only [World.size_alloc, World.size_setCell, World.size_drew] at *; omega)) _) | (with_reducible refine Grow.farO ?_ (by first | omega | (simp; done) | (simp; omega) | (simp only [World.size_alloc, World.size_setCell, World.size_drew] at *; omega)) _) | (with_reducible refine Grow.alloc ?_ _) | (with_reducible refine Grow.drewN ?_ _) | (with_reducible refine Grow.drew ?_) | (apply Grow.only; (with_reducible assumption); exact (by first | omega | (simp; done) | (simp; omega) | (simp only [World.size_alloc, World.size_setCell, World.size_drew] at *; omega))) | (apply Grow.belowD; (with_reducible assumption)))))
          go_wp2_with fail
          go_loopw [8, 9] (fun s8 s9 wr => ∃ (i : Nat) (v8 : Value) (ys : List Int), i ≤ cs.length ∧ v8 = s8 ∧ s9 = .int .i64 i ∧ Hid (ys.length = i ∧ ∀ x ∈ ys, 0 ≤ x ∧ x ≤ 1000) ∧ Hid (v8 ≠ .slice none 0 0) ∧ Hid (Grow wr w6.heap.size 3 v8 ys) ∧ Hid (Rd B wr rb (P + 12 + 18 * (4 - (k + 1)) + cs.length + 6 + i)) ∧ Hid (Only rb w6 wr)) (fun _ s9 _ => cs.length - (intOf s9).toNat)
          case atStart => exact ⟨0, _, [], by omega, rfl, rfl, Lib.hid ⟨rfl, by simp⟩, Lib.hid (by simp), Lib.hid (Grow.lit0_at w6 rfl (Nat.le_refl _) _), Lib.hid (by (repeat' (first | (with_reducible assumption) | (refine Hid.out ?_; with_reducible assumption) | (with_reducible refine Rd.set ?_ (by first | omega | (simp; done) | (simp; omega) | (simp only [World.size_alloc, World.size_setCell, World.size_drew] at *; omega)) (by first | omega | (simp; done) | (simp; omega) | (simp only [World.size_alloc, World.size_setCell, World.size_drew] at *; omega))) | (with_reducible refine Rd.alloc ?_ _) | (with_reducible refine Rd.drewN ?_ _) | (with_reducible refine Rd.drew ?_)))), Lib.hid ((Only.refl _ _).alloc _)⟩
          case round =>
            obtain ⟨i, v8, ys, hi, rfl, rfl, hys, hne8, hg8, hr8, ho8⟩ := hrel
            have zy := ho8.out.size
            have RY : Hid (Box wr w.heap.size #[.slice none 0 0, .slice none 0 0, .slice none 0 0]) := Lib.hid (Box.only ho8 (by omega) R_6.out)
            have XY : Hid (Box wr w2.heap.size #[.slice (some ⟨g0, 0, none⟩) cs.length d0, .slice (some ⟨g1, 0, none⟩) us.length d1, .slice none 0 0]) := Lib.hid (Box.only ho8 (by omega) X_6.out)
            have YY : Hid (Box wr w5.heap.size #[.slice (some ⟨gx, 0, none⟩) r.cs.length cx, .int .i64 r.s, .int .i64 r.b]) := Lib.hid (Box.only ho8 (by omega) Y_6.out)
            have F1y : Hid (Grow wr (w2.heap.size + 1) 3 (.slice (some ⟨g1, 0, none⟩) us.length d1) us) := Lib.hid (Grow.only ho8 (by omega) F16.out)
            have row8 := hg8.out.row
            obtain ⟨xx0, xx1, xx2⟩ := Box.facts3 XY.out
            have y2 := XY.out.1
            by_cases hlt : i < cs.length
            · have hlu : (i : Int) < 1 + u := by rw [HN.out]; omega
              have hlt' : i < us.length := by rw [HL1.out]; exact hlt
              have hux : us[i]? = some us[i] := List.getElem?_eq_getElem hlt'
              have hub := B1.out us[i] (List.getElem_mem hlt')
              obtain ⟨ub0, ub1⟩ := hub
              have hcell := Grow.cell F1y.out hux
              have hw1 : wrap64 (us[i] + 1) = us[i] + 1 := IntWalk.wrap64_in _ ⟨by omega, by omega⟩
              clear hux
              go_wp2_with fail
              refine (pick_any B rb (P + 12 + 18 * (4 - (k + 1)) + cs.length + 6 + i) _ _ hr8.out (by omega) (by omega) (by omega)).mono ?_
              rintro e w7 ⟨q, q0, q1, rfl, hr7, ho7⟩
              have z7 := ho7.size
              have R7 := Lib.hid hr7; clear hr7
              have D7 := Lib.hid ho7; clear ho7
              have O7 : Hid (Only rb w6 w7) := Lib.hid (ho8.out.trans D7.out)
              have G7 : Hid (Grow w7 w6.heap.size 3 v8 ys) := Lib.hid (Grow.only D7 (by omega) hg8.out)
              have hyl := hys.out.1
              go_wp2_with (
                at_builtin
                refine wpList_append_own _ rfl (.tmp 46) (.tmp 55) 23 rfl w6.heap.size 3 i0 (.int .i64 0) 1 8 Try.underlying23 hi0 hz0 hz1 hz2 rfl (by decide) v8 _ _ rfl (G7.out.alloc _).own ⟨w7.heap.size, 0, none⟩ 1 1 [.int .i64 q] rfl rfl ?c1 ?c2 ?c3 ?c4 ?c5 ?_
                case c1 => intro j u hj; (rcases j with _ | j <;> simp at hj); subst hj; simp [go_sem]
                case c2 => intro u hu; simp at hu; subst hu; rfl
                case c3 => unfold maxLen; omega
                case c4 => omega
                case c5 => simp; omega
                intro v' w8 hown' hgrow hnil
                have G8 : Hid (Grow w8 w6.heap.size 3 v' (ys ++ [q])) := Lib.hid (Grow.snoc hown')
                have N8 : Hid (v' ≠ .slice none 0 0) := Lib.hid (fun h => by have := hnil.1 h; omega)
                have R8 : Hid (Rd B w8 rb (P + 12 + 18 * (4 - (k + 1)) + cs.length + 6 + i + 1)) := Lib.hid ((R7.out.alloc _).grown hgrow (fun j hj => by have := row8 j hj; omega))
                have O8 : Hid (Only rb w6 w8) := Lib.hid ((O7.out.alloc _).grown hgrow row8)
                clear hown' hgrow hnil)
              go_roundw
              case rel => exact ⟨i + 1, _, _, by omega, rfl, by go_num, Lib.hid ⟨by simp [hyl], fun x hx => by
                  rcases List.mem_append.1 hx with h | h
                  · exact hys.out.2 x h
                  · simp at h; subst h; omega⟩, N8, G8, R8, O8⟩
              case measure => simp [intOf]; omega
            · have hlu : ¬ (i : Int) < 1 + u := by rw [HN.out]; omega
              have hie : i = cs.length := by omega
              subst hie
              obtain ⟨g8, d8, rfl, hg8b, og8, lc8, mc8, ig8⟩ := Grow.block hg8.out hne8.out (fun x hx => by have := hys.out.2 x hx; exact ⟨by omega, by omega⟩)
              have I8 := Lib.hid ig8; clear ig8 og8
              have HYL := Lib.hid hys.out.1
              obtain ⟨yy0, yy1, yy2⟩ := Box.facts3 YY.out
              have y5 := YY.out.1
              have OXy : Hid (OwnI wr gx r.cs) := Lib.hid (OwnI.only ho8 (by omega) (by (repeat' (first | (with_reducible exact OwnI.madeAt _ _ _ (by first | omega | (simp; done) | (simp; omega) | (simp only [World.size_alloc, World.size_setCell, World.size_drew] at *; omega))) | (with_reducible refine OwnI.far ?_ (by first | omega | (simp; done) | (simp; omega) | (simp only [World.size_alloc, World.size_setCell, World.size_drew] at *; omega)) _) | (with_reducible refine OwnI.alloc ?_ _) | (with_reducible refine OwnI.drewN ?_ _) | (with_reducible refine OwnI.drew ?_) | (with_reducible assumption) | (refine Hid.out ?_; with_reducible assumption) | (apply OwnI.turn; (with_reducible assumption); exact (by first | omega | (simp; done) | (simp; omega) | (simp only [World.size_alloc, World.size_setCell, World.size_drew] at *; omega))) | (apply OwnI.only; (with_reducible assumption); exact (by first | omega | (simp; done) | (simp; omega) | (simp only [World.size_alloc, World.size_setCell, World.size_drew] at *; omega))) | (apply OwnI.belowD; (with_reducible assumption))))))
              have hsm := Nat.le_trans VX.out.2.1 VX.out.2.2.1
              go_wp2_with fail
              refine (spec_dotB _ _ _ _ _ _ r.cs ys _ (OXy.out.ints_of VX.out.1) I8.out hsm (by have := HYL.out; omega) (Nat.le_trans lc8 mc8)).mono ?_
              rintro e w7 ⟨rfl, hb⟩
              have z7 := hb.size
              have R7 := Lib.hid (Rd.below (by (repeat' (first | (with_reducible assumption) | (refine Hid.out ?_; with_reducible assumption) | (with_reducible refine Rd.set ?_ (by first | omega | (simp; done) | (simp; omega) | (simp only [World.size_alloc, World.size_setCell, World.size_drew] at *; omega)) (by first | omega | (simp; done) | (simp; omega) | (simp only [World.size_alloc, World.size_setCell, World.size_drew] at *; omega))) | (with_reducible refine Rd.alloc ?_ _) | (with_reducible refine Rd.drewN ?_ _) | (with_reducible refine Rd.drew ?_)))) hb)
              have D7 := Lib.hid hb; clear hb
              have O7 : Hid (OnlyA rb w w7) := Lib.hid (Only.trans (by (repeat' (first | exact Only.refl _ _ | (with_reducible assumption) | (refine Hid.out ?_; with_reducible assumption) | (refine OnlyA.out ?_; refine Hid.out ?_; with_reducible assumption) | (with_reducible refine Only.setNew ?_ (by first | omega | (simp; done) | (simp; omega) | (simp only [World.size_alloc, World.size_setCell, World.size_drew] at *; omega))) | (with_reducible refine Only.alloc ?_ _) | (with_reducible refine Only.drewN ?_ _) | (with_reducible refine Only.drew ?_) | (apply Only.thenD; (with_reducible assumption)) | (apply Only.belowD; (with_reducible assumption))))) (Only.of_below D7.out))
              (try simp at z7)
              have R_7 : Hid (Box w7 (w.heap.size) #[.slice none 0 0, .slice none 0 0, .slice none 0 0]) := Lib.hid (Box.below (by (repeat' (first | (with_reducible exact Box.new _ _ _ (by first | omega | (simp; done) | (simp; omega) | (simp only [World.size_alloc, World.size_setCell, World.size_drew] at *; omega))) | (with_reducible refine Box.far ?_ (by first | omega | (simp; done) | (simp; omega) | (simp only [World.size_alloc, World.size_setCell, World.size_drew] at *; omega)) _) | (apply Box.put3_0) | (apply Box.put3_1) | (apply Box.put3_2) | (apply Box.put2_0) | (apply Box.put2_1) | (with_reducible refine Box.alloc ?_ _) | (with_reducible refine Box.drewN ?_ _) | (with_reducible refine Box.drew ?_) | (with_reducible assumption) | (refine Hid.out ?_; with_reducible assumption) | (apply Box.only; (with_reducible assumption); exact (by first | omega | (simp; done) | (simp; omega) | (simp only [World.size_alloc, World.size_setCell, World.size_drew] at *; omega))) | (apply Box.belowD; (with_reducible assumption))))) D7.out)
              have yR_7 : w.heap.size < w7.heap.size := R_7.out.1
              obtain ⟨R_7c0, R_7c1, R_7c2⟩ := Box.facts3 R_7.out
              have R_7f0 := Box.frz R_7.out 0 (by first | decide | simp)
              have R_7f1 := Box.frz R_7.out 1 (by first | decide | simp)
              have R_7f2 := Box.frz R_7.out 2 (by first | decide | simp)
              have X_7 : Hid (Box w7 (w2.heap.size) #[.slice (some ⟨g0, 0, none⟩) cs.length d0, .slice (some ⟨g1, 0, none⟩) us.length d1, .slice none 0 0]) := Lib.hid (Box.below (by (repeat' (first | (with_reducible exact Box.new _ _ _ (by first | omega | (simp; done) | (simp; omega) | (simp only [World.size_alloc, World.size_setCell, World.size_drew] at *; omega))) | (with_reducible refine Box.far ?_ (by first | omega | (simp; done) | (simp; omega) | (simp only [World.size_alloc, World.size_setCell, World.size_drew] at *; omega)) _) | (apply Box.put3_0) | (apply Box.put3_1) | (apply Box.put3_2) | (apply Box.put2_0) | (apply Box.put2_1) | (with_reducible refine Box.alloc ?_ _) | (with_reducible refine Box.drewN ?_ _) | (with_reducible refine Box.drew ?_) | (with_reducible assumption) | (refine Hid.out ?_; with_reducible assumption) | (apply Box.only; (with_reducible assumption); exact (by first | omega | (simp; done) | (simp; omega) | (simp only [World.size_alloc, World.size_setCell, World.size_drew] at *; omega))) | (apply Box.belowD; (with_reducible assumption))))) D7.out)
              have yX_7 : w2.heap.size < w7.heap.size := X_7.out.1
              obtain ⟨X_7c0, X_7c1, X_7c2⟩ := Box.facts3 X_7.out
              have X_7f0 := Box.frz X_7.out 0 (by first | decide | simp)
              have X_7f1 := Box.frz X_7.out 1 (by first | decide | simp)
              have X_7f2 := Box.frz X_7.out 2 (by first | decide | simp)
              have Y_7 : Hid (Box w7 (w5.heap.size) #[.slice (some ⟨gx, 0, none⟩) r.cs.length cx, .int .i64 r.s, .int .i64 r.b]) := Lib.hid (Box.below (by (repeat' (first | (with_reducible exact Box.new _ _ _ (by first | omega | (simp; done) | (simp; omega) | (simp only [World.size_alloc, World.size_setCell, World.size_drew] at *; omega))) | (with_reducible refine Box.far ?_ (by first | omega | (simp; done) | (simp; omega) | (simp only [World.size_alloc, World.size_setCell, World.size_drew] at *; omega)) _) | (apply Box.put3_0) | (apply Box.put3_1) | (apply Box.put3_2) | (apply Box.put2_0) | (apply Box.put2_1) | (with_reducible refine Box.alloc ?_ _) | (with_reducible refine Box.drewN ?_ _) | (with_reducible refine Box.drew ?_) | (with_reducible assumption) | (refine Hid.out ?_; with_reducible assumption) | (apply Box.only; (with_reducible assumption); exact (by first | omega | (simp; done) | (simp; omega) | (simp only [World.size_alloc, World.size_setCell, World.size_drew] at *; omega))) | (apply Box.belowD; (with_reducible assumption))))) D7.out)
              have yY_7 : w5.heap.size < w7.heap.size := Y_7.out.1
              obtain ⟨Y_7c0, Y_7c1, Y_7c2⟩ := Box.facts3 Y_7.out
              have Y_7f0 := Box.frz Y_7.out 0 (by first | decide | simp)
              have Y_7f1 := Box.frz Y_7.out 1 (by first | decide | simp)
              have Y_7f2 := Box.frz Y_7.out 2 (by first | decide | simp)
              have GRc : Hid (GrowR (w7.setCell ⟨w5.heap.size, 2, none⟩ (.int .i64 (dotW r.cs ys))) w3.heap.size w3.heap.size 35 v5 rs) := Lib.hid (GrowR.only (Lib.hid (Only.trans D5.out (by (repeat' (first | exact Only.refl _ _ | (with_reducible assumption) | (refine Hid.out ?_; with_reducible assumption) | (refine OnlyA.out ?_; refine Hid.out ?_; with_reducible assumption) | (with_reducible refine Only.setNew ?_ (by first | omega | (simp; done) | (simp; omega) | (simp only [World.size_alloc, World.size_setCell, World.size_drew] at *; omega))) | (with_reducible refine Only.alloc ?_ _) | (with_reducible refine Only.drewN ?_ _) | (with_reducible refine Only.drew ?_) | (apply Only.thenD; (with_reducible assumption)) | (apply Only.belowD; (with_reducible assumption))))))) (by omega) hGR.out)
              have F0c : Hid (Grow (w7.setCell ⟨w5.heap.size, 2, none⟩ (.int .i64 (dotW r.cs ys))) w1.heap.size 3 (.slice (some ⟨g0, 0, none⟩) cs.length d0) cs) := Lib.hid (by (repeat' (first | (with_reducible assumption) | (refine Hid.out ?_; with_reducible assumption) | (with_reducible refine Grow.far ?_ (by first | omega | (simp; done) | (simp; omega) | (simp only [World.size_alloc, World.size_setCell, World.size_drew] at *; omega)) _) | (with_reducible refine Grow.farO ?_ (by first | omega | (simp; done) | (simp; omega) | (simp only [World.size_alloc, World.size_setCell, World.size_drew] at *; omega)) _) | (with_reducible refine Grow.alloc ?_ _) | (with_reducible refine Grow.drewN ?_ _) | (with_reducible refine Grow.drew ?_) | (apply Grow.only; (with_reducible assumption); exact (by first | omega | (simp; done) | (simp; omega) | (simp only [World.size_alloc, World.size_setCell, World.size_drew] at *; omega))) | (apply Grow.belowD; (with_reducible assumption)))))
              have F1c : Hid (Grow (w7.setCell ⟨w5.heap.size, 2, none⟩ (.int .i64 (dotW r.cs ys))) (w2.heap.size + 1) 3 (.slice (some ⟨g1, 0, none⟩) us.length d1) us) := Lib.hid (by (repeat' (first | (with_reducible assumption) | (refine Hid.out ?_; with_reducible assumption) | (with_reducible refine Grow.far ?_ (by first | omega | (simp; done) | (simp; omega) | (simp only [World.size_alloc, World.size_setCell, World.size_drew] at *; omega)) _) | (with_reducible refine Grow.farO ?_ (by first | omega | (simp; done) | (simp; omega) | (simp only [World.size_alloc, World.size_setCell, World.size_drew] at *; omega)) _) | (with_reducible refine Grow.alloc ?_ _) | (with_reducible refine Grow.drewN ?_ _) | (with_reducible refine Grow.drew ?_) | (apply Grow.only; (with_reducible assumption); exact (by first | omega | (simp; done) | (simp; omega) | (simp only [World.size_alloc, World.size_setCell, World.size_drew] at *; omega))) | (apply Grow.belowD; (with_reducible assumption)))))
              have OXc : Hid (OwnI (w7.setCell ⟨w5.heap.size, 2, none⟩ (.int .i64 (dotW r.cs ys))) gx r.cs) := Lib.hid (by (repeat' (first | (with_reducible exact OwnI.madeAt _ _ _ (by first | omega | (simp; done) | (simp; omega) | (simp only [World.size_alloc, World.size_setCell, World.size_drew] at *; omega))) | (with_reducible refine OwnI.far ?_ (by first | omega | (simp; done) | (simp; omega) | (simp only [World.size_alloc, World.size_setCell, World.size_drew] at *; omega)) _) | (with_reducible refine OwnI.alloc ?_ _) | (with_reducible refine OwnI.drewN ?_ _) | (with_reducible refine OwnI.drew ?_) | (with_reducible assumption) | (refine Hid.out ?_; with_reducible assumption) | (apply OwnI.turn; (with_reducible assumption); exact (by first | omega | (simp; done) | (simp; omega) | (simp only [World.size_alloc, World.size_setCell, World.size_drew] at *; omega))) | (apply OwnI.only; (with_reducible assumption); exact (by first | omega | (simp; done) | (simp; omega) | (simp only [World.size_alloc, World.size_setCell, World.size_drew] at *; omega))) | (apply OwnI.belowD; (with_reducible assumption)))))
              have ZRc : Hid (Box (w7.setCell ⟨w5.heap.size, 2, none⟩ (.int .i64 (dotW r.cs ys))) w.heap.size #[.slice none 0 0, .slice none 0 0, .slice none 0 0]) := Lib.hid (by (repeat' (first | (with_reducible exact Box.new _ _ _ (by first | omega | (simp; done) | (simp; omega) | (simp only [World.size_alloc, World.size_setCell, World.size_drew] at *; omega))) | (with_reducible refine Box.far ?_ (by first | omega | (simp; done) | (simp; omega) | (simp only [World.size_alloc, World.size_setCell, World.size_drew] at *; omega)) _) | (apply Box.put3_0) | (apply Box.put3_1) | (apply Box.put3_2) | (apply Box.put2_0) | (apply Box.put2_1) | (with_reducible refine Box.alloc ?_ _) | (with_reducible refine Box.drewN ?_ _) | (with_reducible refine Box.drew ?_) | (with_reducible assumption) | (refine Hid.out ?_; with_reducible assumption) | (apply Box.only; (with_reducible assumption); exact (by first | omega | (simp; done) | (simp; omega) | (simp only [World.size_alloc, World.size_setCell, World.size_drew] at *; omega))) | (apply Box.belowD; (with_reducible assumption)))))
              have XRc : Hid (Box (w7.setCell ⟨w5.heap.size, 2, none⟩ (.int .i64 (dotW r.cs ys))) w2.heap.size #[.slice (some ⟨g0, 0, none⟩) cs.length d0, .slice (some ⟨g1, 0, none⟩) us.length d1, .slice none 0 0]) := Lib.hid (by (repeat' (first | (with_reducible exact Box.new _ _ _ (by first | omega | (simp; done) | (simp; omega) | (simp only [World.size_alloc, World.size_setCell, World.size_drew] at *; omega))) | (with_reducible refine Box.far ?_ (by first | omega | (simp; done) | (simp; omega) | (simp only [World.size_alloc, World.size_setCell, World.size_drew] at *; omega)) _) | (apply Box.put3_0) | (apply Box.put3_1) | (apply Box.put3_2) | (apply Box.put2_0) | (apply Box.put2_1) | (with_reducible refine Box.alloc ?_ _) | (with_reducible refine Box.drewN ?_ _) | (with_reducible refine Box.drew ?_) | (with_reducible assumption) | (refine Hid.out ?_; with_reducible assumption) | (apply Box.only; (with_reducible assumption); exact (by first | omega | (simp; done) | (simp; omega) | (simp only [World.size_alloc, World.size_setCell, World.size_drew] at *; omega))) | (apply Box.belowD; (with_reducible assumption)))))
              have hIb : I64 (dotW r.cs ys) := dotW_bd _ _
              have hrow := GRc.out.row
              have hxx : some gx ≠ v5.ownBlock := fun h => by have := hrw gx h.symm; omega
              go_wp2_with (
                at_builtin
                obtain ⟨cl, hcl, hown, hrv⟩ := (GRc.out.alloc (.cells #[.slice (some ⟨gx, 0, none⟩) r.cs.length cx, .int .i64 r.s, .int .i64 (dotW r.cs ys)] 35)).cells
                refine wpList_append_own_at _ rfl (.tmp 62) (.tmp 64) 24 rfl w3.heap.size 35 ir (.agg #[.slice none 0 0, .int .i64 0, .int .i64 0]) 3 40 Try.underlying24 hir hzr0 hzr1 hzr2 rfl (by decide) v5 rs.length cl rfl hown ⟨w7.heap.size, 0, none⟩ 1 1 [.slice (some ⟨gx, 0, none⟩) r.cs.length cx, .int .i64 r.s, .int .i64 (dotW r.cs ys)] rfl rfl ?c1 ?c2 ?c3 ?c4 ?c5 ?_
                case c1 => intro j u hj; (rcases j with _ | _ | _ | j <;> simp at hj) <;> subst hj <;> simp [go_sem, Addr.add]
                case c2 => intro u hu; simp at hu; (rcases hu with rfl | rfl | rfl) <;> rfl
                case c3 => unfold maxLen; omega
                case c4 => omega
                case c5 => simp; omega
                intro v' w9 hown' hgrow hnil hob)
              have hg3 : ∀ j, v5.ownBlock = some j → w3.heap.size ≤ j := fun j hj => (hrow j hj).1
              have G9 : Hid (GrowR w9 w3.heap.size w3.heap.size 35 v' (rs ++ [⟨r.cs, r.s, dotW r.cs ys⟩])) := Lib.hid (GrowR.snoc (Nat.le_refl _) hcl hrv hgrow hob (RowVx.of_own (r := ⟨r.cs, r.s, dotW r.cs ys⟩) (OXc.out.alloc _) (OwnI.rowV (r := ⟨r.cs, r.s, dotW r.cs ys⟩) (OXc.out.alloc _) (VX.out.bound hIb)) (by omega) hxx) hown')
              have R9 : Hid (Rd B w9 rb (P + 12 + 18 * (4 - (k + 1)) + cs.length + 6 + cs.length)) := Lib.hid (Rd.grown (by (repeat' (first | (with_reducible assumption) | (refine Hid.out ?_; with_reducible assumption) | (with_reducible refine Rd.set ?_ (by first | omega | (simp; done) | (simp; omega) | (simp only [World.size_alloc, World.size_setCell, World.size_drew] at *; omega)) (by first | omega | (simp; done) | (simp; omega) | (simp only [World.size_alloc, World.size_setCell, World.size_drew] at *; omega))) | (with_reducible refine Rd.alloc ?_ _) | (with_reducible refine Rd.drewN ?_ _) | (with_reducible refine Rd.drew ?_)))) hgrow (fun j hj => by have := hg3 j hj; omega))
              have O9 : Hid (Only rb w w9) := Lib.hid (Only.grown (by (repeat' (first | exact Only.refl _ _ | (with_reducible assumption) | (refine Hid.out ?_; with_reducible assumption) | (refine OnlyA.out ?_; refine Hid.out ?_; with_reducible assumption) | (with_reducible refine Only.setNew ?_ (by first | omega | (simp; done) | (simp; omega) | (simp only [World.size_alloc, World.size_setCell, World.size_drew] at *; omega))) | (with_reducible refine Only.alloc ?_ _) | (with_reducible refine Only.drewN ?_ _) | (with_reducible refine Only.drew ?_) | (apply Only.thenD; (with_reducible assumption)) | (apply Only.belowD; (with_reducible assumption))))) hgrow (fun j hj => by have := hg3 j hj; omega))
              have Z9 : Hid (Box w9 w.heap.size #[.slice none 0 0, .slice none 0 0, .slice none 0 0]) := Lib.hid ((ZRc.out.alloc _).grown hgrow (fun j hj => by have := hg3 j hj; omega))
              have X9 : Hid (Box w9 w2.heap.size #[.slice (some ⟨g0, 0, none⟩) cs.length d0, .slice (some ⟨g1, 0, none⟩) us.length d1, .slice none 0 0]) := Lib.hid ((XRc.out.alloc _).grown hgrow (fun j hj => by have := hg3 j hj; omega))
              have F09 : Hid (Grow w9 w1.heap.size 3 (.slice (some ⟨g0, 0, none⟩) cs.length d0) cs) := Lib.hid ((F0c.out.alloc _).kept hgrow (fun j hj e => by simp [Value.ownBlock] at hj; have := hg3 j e; omega))
              have F19 : Hid (Grow w9 (w2.heap.size + 1) 3 (.slice (some ⟨g1, 0, none⟩) us.length d1) us) := Lib.hid ((F1c.out.alloc _).kept hgrow (fun j hj e => by simp [Value.ownBlock] at hj; have := hg3 j e; omega))
              have z9 : w3.heap.size ≤ w9.heap.size := by have := hgrow.size; simp at this; omega
              clear hown' hgrow hnil hob hown hrv
              go_roundw
              case rel => exact ⟨k, _, rs ++ [⟨r.cs, r.s, dotW r.cs ys⟩], by omega, rfl, by go_num, by simp; omega, Lib.hid (fun x hx => by
                  rcases List.mem_append.1 hx with h | h
                  · exact hlr.out x h
                  · simp at h; subst h; show r.cs.length ≤ 4; omega), G9, Lib.hid (R9.out.mono (by omega)), O9, Z9, X9, F09, F19, z9⟩
              case measure => simp [intOf]
        · have htb : (t == 0) = false := by simp [ht]
          clear ht
          have GRc : Hid (GrowR w6 w3.heap.size w3.heap.size 35 v5 rs) := Lib.hid (GrowR.only (Lib.hid (Only.trans D5.out (by (repeat' (first | exact Only.refl _ _ | (with_reducible assumption) | (refine Hid.out ?_; with_reducible assumption) | (refine OnlyA.out ?_; refine Hid.out ?_; with_reducible assumption) | (with_reducible refine Only.setNew ?_ (by first | omega | (simp; done) | (simp; omega) | (simp only [World.size_alloc, World.size_setCell, World.size_drew] at *; omega))) | (with_reducible refine Only.alloc ?_ _) | (with_reducible refine Only.drewN ?_ _) | (with_reducible refine Only.drew ?_) | (apply Only.thenD; (with_reducible assumption)) | (apply Only.belowD; (with_reducible assumption))))))) (by omega) hGR.out)
          have F0c : Hid (Grow w6 w1.heap.size 3 (.slice (some ⟨g0, 0, none⟩) cs.length d0) cs) := Lib.hid (by (repeat' (first | (with_reducible assumption) | (refine Hid.out ?_; with_reducible assumption) | (with_reducible refine Grow.far ?_ (by first | omega | (simp; done) | (simp; omega) | (simp only [World.size_alloc, World.size_setCell, World.size_drew] at *; omega)) _) | (with_reducible refine Grow.farO ?_ (by first | omega | (simp; done) | (simp; omega) | (simp only [World.size_alloc, World.size_setCell, World.size_drew] at *; omega)) _) | (with_reducible refine Grow.alloc ?_ _) | (with_reducible refine Grow.drewN ?_ _) | (with_reducible refine Grow.drew ?_) | (apply Grow.only; (with_reducible assumption); exact (by first | omega | (simp; done) | (simp; omega) | (simp only [World.size_alloc, World.size_setCell, World.size_drew] at *; omega))) | (apply Grow.belowD; (with_reducible assumption)))))
          have F1c : Hid (Grow w6 (w2.heap.size + 1) 3 (.slice (some ⟨g1, 0, none⟩) us.length d1) us) := Lib.hid (by (repeat' (first | (with_reducible assumption) | (refine Hid.out ?_; with_reducible assumption) | (with_reducible refine Grow.far ?_ (by first | omega | (simp; done) | (simp; omega) | (simp only [World.size_alloc, World.size_setCell, World.size_drew] at *; omega)) _) | (with_reducible refine Grow.farO ?_ (by first | omega | (simp; done) | (simp; omega) | (simp only [World.size_alloc, World.size_setCell, World.size_drew] at *; omega)) _) | (with_reducible refine Grow.alloc ?_ _) | (with_reducible refine Grow.drewN ?_ _) | (with_reducible refine Grow.drew ?_) | (apply Grow.only; (with_reducible assumption); exact (by first | omega | (simp; done) | (simp; omega) | (simp only [World.size_alloc, World.size_setCell, World.size_drew] at *; omega))) | (apply Grow.belowD; (with_reducible assumption)))))
          have OXc : Hid (OwnI w6 gx r.cs) := Lib.hid (by (repeat' (first | (with_reducible exact OwnI.madeAt _ _ _ (by first | omega | (simp; done) | (simp; omega) | (simp only [World.size_alloc, World.size_setCell, World.size_drew] at *; omega))) | (with_reducible refine OwnI.far ?_ (by first | omega | (simp; done) | (simp; omega) | (simp only [World.size_alloc, World.size_setCell, World.size_drew] at *; omega)) _) | (with_reducible refine OwnI.alloc ?_ _) | (with_reducible refine OwnI.drewN ?_ _) | (with_reducible refine OwnI.drew ?_) | (with_reducible assumption) | (refine Hid.out ?_; with_reducible assumption) | (apply OwnI.turn; (with_reducible assumption); exact (by first | omega | (simp; done) | (simp; omega) | (simp only [World.size_alloc, World.size_setCell, World.size_drew] at *; omega))) | (apply OwnI.only; (with_reducible assumption); exact (by first | omega | (simp; done) | (simp; omega) | (simp only [World.size_alloc, World.size_setCell, World.size_drew] at *; omega))) | (apply OwnI.belowD; (with_reducible assumption)))))
          have ZRc : Hid (Box w6 w.heap.size #[.slice none 0 0, .slice none 0 0, .slice none 0 0]) := Lib.hid (by (repeat' (first | (with_reducible exact Box.new _ _ _ (by first | omega | (simp; done) | (simp; omega) | (simp only [World.size_alloc, World.size_setCell, World.size_drew] at *; omega))) | (with_reducible refine Box.far ?_ (by first | omega | (simp; done) | (simp; omega) | (simp only [World.size_alloc, World.size_setCell, World.size_drew] at *; omega)) _) | (apply Box.put3_0) | (apply Box.put3_1) | (apply Box.put3_2) | (apply Box.put2_0) | (apply Box.put2_1) | (with_reducible refine Box.alloc ?_ _) | (with_reducible refine Box.drewN ?_ _) | (with_reducible refine Box.drew ?_) | (with_reducible assumption) | (refine Hid.out ?_; with_reducible assumption) | (apply Box.only; (with_reducible assumption); exact (by first | omega | (simp; done) | (simp; omega) | (simp only [World.size_alloc, World.size_setCell, World.size_drew] at *; omega))) | (apply Box.belowD; (with_reducible assumption)))))
          have XRc : Hid (Box w6 w2.heap.size #[.slice (some ⟨g0, 0, none⟩) cs.length d0, .slice (some ⟨g1, 0, none⟩) us.length d1, .slice none 0 0]) := Lib.hid (by (repeat' (first | (with_reducible exact Box.new _ _ _ (by first | omega | (simp; done) | (simp; omega) | (simp only [World.size_alloc, World.size_setCell, World.size_drew] at *; omega))) | (with_reducible refine Box.far ?_ (by first | omega | (simp; done) | (simp; omega) | (simp only [World.size_alloc, World.size_setCell, World.size_drew] at *; omega)) _) | (apply Box.put3_0) | (apply Box.put3_1) | (apply Box.put3_2) | (apply Box.put2_0) | (apply Box.put2_1) | (with_reducible refine Box.alloc ?_ _) | (with_reducible refine Box.drewN ?_ _) | (with_reducible refine Box.drew ?_) | (with_reducible assumption) | (refine Hid.out ?_; with_reducible assumption) | (apply Box.only; (with_reducible assumption); exact (by first | omega | (simp; done) | (simp; omega) | (simp only [World.size_alloc, World.size_setCell, World.size_drew] at *; omega))) | (apply Box.belowD; (with_reducible assumption)))))
          have hIb : I64 (r.b) := VX.out.2.2.2.2
          have hrow := GRc.out.row
          have hxx : some gx ≠ v5.ownBlock := fun h => by have := hrw gx h.symm; omega
          go_wp2_with (
            at_builtin
            obtain ⟨cl, hcl, hown, hrv⟩ := (GRc.out.alloc (.cells #[.slice (some ⟨gx, 0, none⟩) r.cs.length cx, .int .i64 r.s, .int .i64 (r.b)] 35)).cells
            refine wpList_append_own_at _ rfl (.tmp 62) (.tmp 64) 24 rfl w3.heap.size 35 ir (.agg #[.slice none 0 0, .int .i64 0, .int .i64 0]) 3 40 Try.underlying24 hir hzr0 hzr1 hzr2 rfl (by decide) v5 rs.length cl rfl hown ⟨w6.heap.size, 0, none⟩ 1 1 [.slice (some ⟨gx, 0, none⟩) r.cs.length cx, .int .i64 r.s, .int .i64 (r.b)] rfl rfl ?c1 ?c2 ?c3 ?c4 ?c5 ?_
            case c1 => intro j u hj; (rcases j with _ | _ | _ | j <;> simp at hj) <;> subst hj <;> simp [go_sem, Addr.add]
            case c2 => intro u hu; simp at hu; (rcases hu with rfl | rfl | rfl) <;> rfl
            case c3 => unfold maxLen; omega
            case c4 => omega
            case c5 => simp; omega
            intro v' w9 hown' hgrow hnil hob)
          have hg3 : ∀ j, v5.ownBlock = some j → w3.heap.size ≤ j := fun j hj => (hrow j hj).1
          have G9 : Hid (GrowR w9 w3.heap.size w3.heap.size 35 v' (rs ++ [⟨r.cs, r.s, r.b⟩])) := Lib.hid (GrowR.snoc (Nat.le_refl _) hcl hrv hgrow hob (RowVx.of_own (r := ⟨r.cs, r.s, r.b⟩) (OXc.out.alloc _) (OwnI.rowV (r := ⟨r.cs, r.s, r.b⟩) (OXc.out.alloc _) (VX.out.bound hIb)) (by omega) hxx) hown')
          have R9 : Hid (Rd B w9 rb (P + 12 + 18 * (4 - (k + 1)) + cs.length + 5 + 1)) := Lib.hid (Rd.grown (by (repeat' (first | (with_reducible assumption) | (refine Hid.out ?_; with_reducible assumption) | (with_reducible refine Rd.set ?_ (by first | omega | (simp; done) | (simp; omega) | (simp only [World.size_alloc, World.size_setCell, World.size_drew] at *; omega)) (by first | omega | (simp; done) | (simp; omega) | (simp only [World.size_alloc, World.size_setCell, World.size_drew] at *; omega))) | (with_reducible refine Rd.alloc ?_ _) | (with_reducible refine Rd.drewN ?_ _) | (with_reducible refine Rd.drew ?_)))) hgrow (fun j hj => by have := hg3 j hj; omega))
          have O9 : Hid (Only rb w w9) := Lib.hid (Only.grown (by (repeat' (first | exact Only.refl _ _ | (with_reducible assumption) | (refine Hid.out ?_; with_reducible assumption) | (refine OnlyA.out ?_; refine Hid.out ?_; with_reducible assumption) | (with_reducible refine Only.setNew ?_ (by first | omega | (simp; done) | (simp; omega) | (simp only [World.size_alloc, World.size_setCell, World.size_drew] at *; omega))) | (with_reducible refine Only.alloc ?_ _) | (with_reducible refine Only.drewN ?_ _) | (with_reducible refine Only.drew ?_) | (apply Only.thenD; (with_reducible assumption)) | (apply Only.belowD; (with_reducible assumption))))) hgrow (fun j hj => by have := hg3 j hj; omega))
          have Z9 : Hid (Box w9 w.heap.size #[.slice none 0 0, .slice none 0 0, .slice none 0 0]) := Lib.hid ((ZRc.out.alloc _).grown hgrow (fun j hj => by have := hg3 j hj; omega))
          have X9 : Hid (Box w9 w2.heap.size #[.slice (some ⟨g0, 0, none⟩) cs.length d0, .slice (some ⟨g1, 0, none⟩) us.length d1, .slice none 0 0]) := Lib.hid ((XRc.out.alloc _).grown hgrow (fun j hj => by have := hg3 j hj; omega))
          have F09 : Hid (Grow w9 w1.heap.size 3 (.slice (some ⟨g0, 0, none⟩) cs.length d0) cs) := Lib.hid ((F0c.out.alloc _).kept hgrow (fun j hj e => by simp [Value.ownBlock] at hj; have := hg3 j e; omega))
          have F19 : Hid (Grow w9 (w2.heap.size + 1) 3 (.slice (some ⟨g1, 0, none⟩) us.length d1) us) := Lib.hid ((F1c.out.alloc _).kept hgrow (fun j hj e => by simp [Value.ownBlock] at hj; have := hg3 j e; omega))
          have z9 : w3.heap.size ≤ w9.heap.size := by have := hgrow.size; simp at this; omega
          clear hown' hgrow hnil hob hown hrv
          go_roundw
          case rel => exact ⟨k, _, rs ++ [⟨r.cs, r.s, r.b⟩], by omega, rfl, by go_num, by simp; omega, Lib.hid (fun x hx => by
              rcases List.mem_append.1 hx with h | h
              · exact hlr.out x h
              · simp at h; subst h; show r.cs.length ≤ 4; omega), G9, Lib.hid (R9.out.mono (by omega)), O9, Z9, X9, F09, F19, z9⟩
          case measure => simp [intOf]
end Go.Proofs.Ytangfmmjpomlgaa
