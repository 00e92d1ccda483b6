
/-
  The draw of the arguments of the law on lines of duties.
-/
import Derived.Test.YtjbgjljcgdligabJx
import Derived.Test.YtjbgjljcgdligabJb
import Derived.Test.YtjbgjljcgdligabDk
set_option linter.unusedSimpArgs false
set_option linter.unusedVariables false
namespace Go.Proofs.Ytjbgjljcgdligab
open Go.RowKit

theorem subset_of (B rb P n : Nat) (k : Int) (w : World) (hr : Rd B w rb P) (hP : P + n ≤ 900000) (hn : n ≤ 1000) (hk : k = (n : Int)) :
    Calls Try.prog 65 #[.pointer (some ⟨rb, 0, none⟩), .int .i64 k] w (DrewSet B rb (P + n) n w) := by subst hk; exact subset_any B rb P n w hr hP hn
theorem two_intsG (w : World) (e : TypeId) (g : Nat) (x y : Int) (hg : g = w.heap.size) (hx : I64 x) (hy : I64 y) : Ints (w.alloc (.cells #[.int .i64 x, .int .i64 y] e)) (some ⟨g, 0, none⟩) 2 [x, y] := by
  subst hg
  refine ⟨rfl, fun z hz => ?_, fun _ => ⟨_, _, rfl, fun i z hz => ?_⟩⟩
  · simp at hz
    rcases hz with rfl | rfl
    · exact hx
    · exact hy
  · rw [World.cell?_alloc_new]
    rcases i with _ | _ | i <;> simp at hz <;> subst hz <;> simp
/-- The arguments of LineOk were drawn. -/
def LineDrawn (w : World) (e : Ending) (w' : World) : Prop :=
  ∃ (A A' : Option Addr) (n n' c c' : Nat) (rest most : Int) (ds : List (Int × Int)) (line : List Int), e = .returned (.tuple #[.slice A n c, .int .i64 rest, .int .i64 most, .slice A' n' c']) ∧ DutS w' A n ds ∧ Ints w' A' n' line ∧ n ≤ c ∧ c ≤ maxLen ∧ n' ≤ c' ∧ c' ≤ maxLen ∧ n ≤ 7 ∧ n' ≤ 20 ∧
    (-1 ≤ rest ∧ rest ≤ 10000) ∧ (-1 ≤ most ∧ most ≤ 10000) ∧ Below w.heap.size w w'
set_option maxHeartbeats 8000000 in
set_option maxRecDepth 100000 in
theorem DrawLineOk_any (len cap : Nat) (a : Option Addr) (w : World) (h : By w.heap.size w a len cap) : Calls Try.prog 23 #[.slice a len cap] w (LineDrawn w) := by
  have H := Lib.hid h; clear h
  go_enter Try.func23, Try.ntmps23
  go_wp2_with fail
  refine (newReader_any w.heap.size _ _ _ _ (H.out.below (by (repeat' (first | (with_reducible exact Below.refl _ _) | (with_reducible refine belS ?_ (by first | omega | (simp; done) | (simp; omega) | (simp only [World.size_alloc, World.size_setCell, World.size_drew] at *; omega))) | (with_reducible refine belA ?_ (by first | omega | (simp; done) | (simp; omega) | (simp only [World.size_alloc, World.size_setCell, World.size_drew] at *; omega))) | (with_reducible refine bel_drewN ?_ _) | (with_reducible refine Below.drew ?_) | (with_reducible assumption) | (refine Hid.out ?_; with_reducible assumption) | (apply belV; (with_reducible assumption); exact (by first | omega | (simp; done) | (simp; omega) | (simp only [World.size_alloc, World.size_setCell, World.size_drew] at *; omega))))))) (by first | omega | (simp; done) | (simp; omega) | (simp only [World.size_alloc, World.size_setCell, World.size_drew] at *; omega))).mono ?_
  rintro e w1 ⟨rfl, hr, hb⟩
  have G1 : Hid (Below w.heap.size w w1) := belU hb (by (repeat' (first | (with_reducible exact Below.refl _ _) | (with_reducible refine belS ?_ (by first | omega | (simp; done) | (simp; omega) | (simp only [World.size_alloc, World.size_setCell, World.size_drew] at *; omega))) | (with_reducible refine belA ?_ (by first | omega | (simp; done) | (simp; omega) | (simp only [World.size_alloc, World.size_setCell, World.size_drew] at *; omega))) | (with_reducible refine bel_drewN ?_ _) | (with_reducible refine Below.drew ?_) | (with_reducible assumption) | (refine Hid.out ?_; with_reducible assumption) | (apply belV; (with_reducible assumption); exact (by first | omega | (simp; done) | (simp; omega) | (simp only [World.size_alloc, World.size_setCell, World.size_drew] at *; omega)))))) (by first | omega | (simp; done) | (simp; omega) | (simp only [World.size_alloc, World.size_setCell, World.size_drew] at *; omega))
  (try simp only [World.size_alloc, World.size_setCell, World.size_drew, World.heap_drewN] at hr)
  have R1 := Lib.hid hr; clear hr
  have z1 := hb.size
  (try simp at z1)
  have D1 := Lib.hid hb; clear hb
  have s1 := R1.out.2.1
  go_wp2_with fail
  refine (anyDuties_any w.heap.size _ 0 _ R1.out (by omega)).mono ?_
  rintro e w2 ⟨A, n, c, ds, rest, most, rfl, hI, hl, lc, cm, h7, br, bm, hr, ho⟩
  have z2 := ho.size
  have R2 := Lib.hid hr; clear hr
  have D2 := Lib.hid ho; clear ho
  have G2 : Hid (Below w.heap.size w w2) := Lib.hid (Below.trans (by (repeat' (first | (with_reducible exact Below.refl _ _) | (with_reducible refine belS ?_ (by first | omega | (simp; done) | (simp; omega) | (simp only [World.size_alloc, World.size_setCell, World.size_drew] at *; omega))) | (with_reducible refine belA ?_ (by first | omega | (simp; done) | (simp; omega) | (simp only [World.size_alloc, World.size_setCell, World.size_drew] at *; omega))) | (with_reducible refine bel_drewN ?_ _) | (with_reducible refine Below.drew ?_) | (with_reducible assumption) | (refine Hid.out ?_; with_reducible assumption) | (apply belV; (with_reducible assumption); exact (by first | omega | (simp; done) | (simp; omega) | (simp only [World.size_alloc, World.size_setCell, World.size_drew] at *; omega)))))) (Only.below D2.out (by first | omega | (simp; done) | (simp; omega) | (simp only [World.size_alloc, World.size_setCell, World.size_drew] at *; omega)) (by first | omega | (simp; done) | (simp; omega) | (simp only [World.size_alloc, World.size_setCell, World.size_drew] at *; omega))))
  (try simp at z2)
  (try simp only [World.size_alloc, World.size_setCell, World.size_drew, World.heap_drewN] at hI)
  have I := Lib.hid hI; clear hI
  have I2 : Hid (IntsF w2 w1.heap.size A (n * 2) (fl ds)) := I
  clear I
  go_wp2_with fail
  refine (subset_of w.heap.size _ 21 n _ _ R2.out (by omega) (by omega) rfl).mono ?_
  rintro e w3 ⟨v3, xs, hl3, hb3, hn3, rfl, hgr, hr, ho⟩
  have z3 := ho.size
  have R3 := Lib.hid hr; clear hr
  have D3 := Lib.hid ho; clear ho
  have G3 : Hid (Below w.heap.size w w3) := Lib.hid (Below.trans (by (repeat' (first | (with_reducible exact Below.refl _ _) | (with_reducible refine belS ?_ (by first | omega | (simp; done) | (simp; omega) | (simp only [World.size_alloc, World.size_setCell, World.size_drew] at *; omega))) | (with_reducible refine belA ?_ (by first | omega | (simp; done) | (simp; omega) | (simp only [World.size_alloc, World.size_setCell, World.size_drew] at *; omega))) | (with_reducible refine bel_drewN ?_ _) | (with_reducible refine Below.drew ?_) | (with_reducible assumption) | (refine Hid.out ?_; with_reducible assumption) | (apply belV; (with_reducible assumption); exact (by first | omega | (simp; done) | (simp; omega) | (simp only [World.size_alloc, World.size_setCell, World.size_drew] at *; omega)))))) (Only.below D3.out (by first | omega | (simp; done) | (simp; omega) | (simp only [World.size_alloc, World.size_setCell, World.size_drew] at *; omega)) (by first | omega | (simp; done) | (simp; omega) | (simp only [World.size_alloc, World.size_setCell, World.size_drew] at *; omega))))
  (try simp at z3)
  (try simp only [World.size_alloc, World.size_setCell, World.size_drew, World.heap_drewN] at hgr)
  have GR3 := Lib.hid hgr; clear hgr
  have NE3 := Lib.hid hn3; clear hn3
  have XB3 := Lib.hid hb3; clear hb3
  obtain ⟨g3, c3, rfl, hg3, og3, lc3, mc3, ig3⟩ := Grow.block GR3.out NE3.out (fun x hx => by have := XB3.out x hx; exact ⟨by omega, by omega⟩)
  clear ig3
  have OG3 := Lib.hid og3; clear og3
  have I3 : Hid (IntsF w3 w1.heap.size A (n * 2) (fl ds)) := Lib.hid (IntsF.only D3 (by omega) I2.out)
  have OT3 : Hid (Ints w3 (some ⟨g3, 0, none⟩) xs.length xs) := Lib.hid (OG3.out.ints (fun x hx => by have := XB3.out x hx; exact ⟨by omega, by omega⟩))
  by_cases h2 : 2 < xs.length
  rotate_left
  · go_wp2_with fail
    refine (spoil_any w.heap.size _ (21 + n) _ _ _ _ xs 7 _ (by (repeat' (first | (with_reducible assumption) | (refine Hid.out ?_; with_reducible assumption) | (with_reducible refine Rd.set ?_ (by first | omega | (simp; done) | (simp; omega) | (simp only [World.size_alloc, World.size_setCell, World.size_drew] at *; omega)) (by first | omega | (simp; done) | (simp; omega) | (simp only [World.size_alloc, World.size_setCell, World.size_drew] at *; omega))) | (with_reducible refine Rd.alloc ?_ _) | (with_reducible refine Rd.drewN ?_ _) | (with_reducible refine Rd.drew ?_)))) OT3.out (by omega) (by omega) (by omega)).mono ?_
    rintro e w5 ⟨A5, n5, c5, ps, rfl, hi5, lc5, mc5, hm5, hr, ho⟩
    have z5 := ho.size
    have R5 := Lib.hid hr; clear hr
    have D5 := Lib.hid ho; clear ho
    have G5 : Hid (Below w.heap.size w w5) := Lib.hid (Below.trans (by (repeat' (first | (with_reducible exact Below.refl _ _) | (with_reducible refine belS ?_ (by first | omega | (simp; done) | (simp; omega) | (simp only [World.size_alloc, World.size_setCell, World.size_drew] at *; omega))) | (with_reducible refine belA ?_ (by first | omega | (simp; done) | (simp; omega) | (simp only [World.size_alloc, World.size_setCell, World.size_drew] at *; omega))) | (with_reducible refine bel_drewN ?_ _) | (with_reducible refine Below.drew ?_) | (with_reducible assumption) | (refine Hid.out ?_; with_reducible assumption) | (apply belV; (with_reducible assumption); exact (by first | omega | (simp; done) | (simp; omega) | (simp only [World.size_alloc, World.size_setCell, World.size_drew] at *; omega)))))) (Only.below D5.out (by first | omega | (simp; done) | (simp; omega) | (simp only [World.size_alloc, World.size_setCell, World.size_drew] at *; omega)) (by first | omega | (simp; done) | (simp; omega) | (simp only [World.size_alloc, World.size_setCell, World.size_drew] at *; omega))))
    (try simp at z5)
    (try simp only [World.size_alloc, World.size_setCell, World.size_drew, World.heap_drewN] at hi5)
    have I5 := Lib.hid hi5; clear hi5
    have I6 : Hid (IntsF w5 w1.heap.size A (n * 2) (fl ds)) := Lib.hid (IntsF.only D5 (by omega) I3.out)
    go_wp2_with fail
    refine bodyPost_ret (v := .tuple #[.slice A n c, .int .i64 rest, .int .i64 most, .slice A5 n5 c5]) (by simp [results, Try.results23, go_sem, *]) rfl ⟨A, A5, n, n5, c, c5, rest, most, ds, ps, rfl, ⟨hl, I6.out.out⟩, I5.out.out, lc, cm, lc5, mc5, h7, by omega, br, bm, by (repeat' (first | (with_reducible exact Below.refl _ _) | (with_reducible refine belS ?_ (by first | omega | (simp; done) | (simp; omega) | (simp only [World.size_alloc, World.size_setCell, World.size_drew] at *; omega))) | (with_reducible refine belA ?_ (by first | omega | (simp; done) | (simp; omega) | (simp only [World.size_alloc, World.size_setCell, World.size_drew] at *; omega))) | (with_reducible refine bel_drewN ?_ _) | (with_reducible refine Below.drew ?_) | (with_reducible assumption) | (refine Hid.out ?_; with_reducible assumption) | (apply belV; (with_reducible assumption); exact (by first | omega | (simp; done) | (simp; omega) | (simp only [World.size_alloc, World.size_setCell, World.size_drew] at *; omega)))))⟩
  go_wp2_with fail
  refine (pick_any w.heap.size _ (21 + n) _ _ R3.out (by omega) (by omega) (by omega)).mono ?_
  rintro e w4 ⟨t, t0, t1, rfl, hr, ho⟩
  have z4 := ho.size
  have R4 := Lib.hid hr; clear hr
  have D4 := Lib.hid ho; clear ho
  have G4 : Hid (Below w.heap.size w w4) := Lib.hid (Below.trans (by (repeat' (first | (with_reducible exact Below.refl _ _) | (with_reducible refine belS ?_ (by first | omega | (simp; done) | (simp; omega) | (simp only [World.size_alloc, World.size_setCell, World.size_drew] at *; omega))) | (with_reducible refine belA ?_ (by first | omega | (simp; done) | (simp; omega) | (simp only [World.size_alloc, World.size_setCell, World.size_drew] at *; omega))) | (with_reducible refine bel_drewN ?_ _) | (with_reducible refine Below.drew ?_) | (with_reducible assumption) | (refine Hid.out ?_; with_reducible assumption) | (apply belV; (with_reducible assumption); exact (by first | omega | (simp; done) | (simp; omega) | (simp only [World.size_alloc, World.size_setCell, World.size_drew] at *; omega)))))) (Only.below D4.out (by first | omega | (simp; done) | (simp; omega) | (simp only [World.size_alloc, World.size_setCell, World.size_drew] at *; omega)) (by first | omega | (simp; done) | (simp; omega) | (simp only [World.size_alloc, World.size_setCell, World.size_drew] at *; omega))))
  (try simp at z4)
  have O4 : Hid (OwnI w4 g3 xs) := Lib.hid (OwnI.only D4 (by omega) OG3.out)
  have I4 : Hid (IntsF w4 w1.heap.size A (n * 2) (fl ds)) := Lib.hid (IntsF.only D4 (by omega) I3.out)
  by_cases ht : t = 0
  rotate_left
  · have hd : (t == 0) = false := by simp [ht]
    have OT4 : Hid (Ints w4 (some ⟨g3, 0, none⟩) xs.length xs) := Lib.hid (O4.out.ints (fun x hx => by have := XB3.out x hx; exact ⟨by omega, by omega⟩))
    go_wp2_with fail
    refine (spoil_any w.heap.size _ (21 + n + 1) _ _ _ _ xs 7 _ (by (repeat' (first | (with_reducible assumption) | (refine Hid.out ?_; with_reducible assumption) | (with_reducible refine Rd.set ?_ (by first | omega | (simp; done) | (simp; omega) | (simp only [World.size_alloc, World.size_setCell, World.size_drew] at *; omega)) (by first | omega | (simp; done) | (simp; omega) | (simp only [World.size_alloc, World.size_setCell, World.size_drew] at *; omega))) | (with_reducible refine Rd.alloc ?_ _) | (with_reducible refine Rd.drewN ?_ _) | (with_reducible refine Rd.drew ?_)))) OT4.out (by omega) (by omega) (by omega)).mono ?_
    rintro e w5 ⟨A5, n5, c5, ps, rfl, hi5, lc5, mc5, hm5, hr, ho⟩
    have z5 := ho.size
    have R5 := Lib.hid hr; clear hr
    have D5 := Lib.hid ho; clear ho
    have G5 : Hid (Below w.heap.size w w5) := Lib.hid (Below.trans (by (repeat' (first | (with_reducible exact Below.refl _ _) | (with_reducible refine belS ?_ (by first | omega | (simp; done) | (simp; omega) | (simp only [World.size_alloc, World.size_setCell, World.size_drew] at *; omega))) | (with_reducible refine belA ?_ (by first | omega | (simp; done) | (simp; omega) | (simp only [World.size_alloc, World.size_setCell, World.size_drew] at *; omega))) | (with_reducible refine bel_drewN ?_ _) | (with_reducible refine Below.drew ?_) | (with_reducible assumption) | (refine Hid.out ?_; with_reducible assumption) | (apply belV; (with_reducible assumption); exact (by first | omega | (simp; done) | (simp; omega) | (simp only [World.size_alloc, World.size_setCell, World.size_drew] at *; omega)))))) (Only.below D5.out (by first | omega | (simp; done) | (simp; omega) | (simp only [World.size_alloc, World.size_setCell, World.size_drew] at *; omega)) (by first | omega | (simp; done) | (simp; omega) | (simp only [World.size_alloc, World.size_setCell, World.size_drew] at *; omega))))
    (try simp at z5)
    (try simp only [World.size_alloc, World.size_setCell, World.size_drew, World.heap_drewN] at hi5)
    have I5 := Lib.hid hi5; clear hi5
    have I6 : Hid (IntsF w5 w1.heap.size A (n * 2) (fl ds)) := Lib.hid (IntsF.only D5 (by omega) I4.out)
    go_wp2_with fail
    refine bodyPost_ret (v := .tuple #[.slice A n c, .int .i64 rest, .int .i64 most, .slice A5 n5 c5]) (by simp [results, Try.results23, go_sem, *]) rfl ⟨A, A5, n, n5, c, c5, rest, most, ds, ps, rfl, ⟨hl, I6.out.out⟩, I5.out.out, lc, cm, lc5, mc5, h7, by omega, br, bm, by (repeat' (first | (with_reducible exact Below.refl _ _) | (with_reducible refine belS ?_ (by first | omega | (simp; done) | (simp; omega) | (simp only [World.size_alloc, World.size_setCell, World.size_drew] at *; omega))) | (with_reducible refine belA ?_ (by first | omega | (simp; done) | (simp; omega) | (simp only [World.size_alloc, World.size_setCell, World.size_drew] at *; omega))) | (with_reducible refine bel_drewN ?_ _) | (with_reducible refine Below.drew ?_) | (with_reducible assumption) | (refine Hid.out ?_; with_reducible assumption) | (apply belV; (with_reducible assumption); exact (by first | omega | (simp; done) | (simp; omega) | (simp only [World.size_alloc, World.size_setCell, World.size_drew] at *; omega)))))⟩
  · subst ht
    have z4 := O4.out.1
    obtain ⟨p0, hp0⟩ : ∃ p, p = xs.getD 0 0 := ⟨_, rfl⟩
    obtain ⟨p1, hp1⟩ : ∃ p, p = xs.getD (xs.length - 1) 0 := ⟨_, rfl⟩
    have c0 := (O4.out.at_ (k := 0) (by omega)).1
    have c1 := (O4.out.at_ (k := xs.length - 1) (by omega)).1
    rw [← hp0] at c0
    rw [← hp1] at c1
    have b0 : 0 ≤ p0 ∧ p0 ≤ 1000 := by rw [hp0]; exact XB3.out _ (List.mem_of_getElem? (getD_mem (by omega)))
    have b1 : 0 ≤ p1 ∧ p1 ≤ 1000 := by rw [hp1]; exact XB3.out _ (List.mem_of_getElem? (getD_mem (by omega)))
    clear hp0 hp1
    have mc3' := mc3
    unfold maxLen at mc3'
    have wk : IntKind.i64.wrap ((xs.length : Int) - 1) = ((xs.length - 1 : Nat) : Int) := by rw [IntWalk.i64_in _ ⟨by omega, by omega⟩]; omega
    have kn : xs.length - 1 < xs.length := by omega
    have k0 : 0 < xs.length := by omega
    go_wp2_with fail
    refine wp_region_held_drew (S := fun w' => w'.cell? ⟨g3, 0, none⟩ = some (.int .i64 p0) ∧ w'.cell? ⟨g3, xs.length - 1, none⟩ = some (.int .i64 p1)) (by kernel_rfl) ?_ (fun hHeld => ?_)
    · exact ⟨cell_by (W := w4) (by (repeat' (first | (with_reducible exact Below.refl _ _) | (with_reducible refine belA ?_ (by first | omega | (simp; done) | (simp; omega))) | (with_reducible refine bel_drewN ?_ _) | (with_reducible refine Below.drew ?_)))) z4 c0, cell_by (W := w4) (by (repeat' (first | (with_reducible exact Below.refl _ _) | (with_reducible refine belA ?_ (by first | omega | (simp; done) | (simp; omega))) | (with_reducible refine bel_drewN ?_ _) | (with_reducible refine Below.drew ?_)))) z4 c1⟩
    refine takeH (i := 0) (d := 31) (v := ?_) (by kernel_rfl) (by kernel_rfl) (by kernel_rfl) (fun _ _ _ h => h) (by assumption) ⟨?_, ?_, ?_, ?_, ?_⟩ ?_
    rotate_left
    rotate_left
    · (try simp only [List.getElem?_toArray, List.getElem?_cons_succ, List.getElem?_cons_zero]); exact rfl
    · rfl
    · rfl
    · intro w' hSw; (try dsimp only at hSw); go_simp; (try with_reducible rfl)
    (try simp only [Act.put, List.setIfInBounds_toArray, List.set_cons_zero, List.set_cons_succ])
    refine takeH (i := 1) (d := 32) (v := ?_) (by kernel_rfl) (by kernel_rfl) (by kernel_rfl) (fun _ _ _ h => h) (by assumption) ⟨?_, ?_, ?_, ?_, ?_⟩ ?_
    rotate_left
    rotate_left
    · (try simp only [List.getElem?_toArray, List.getElem?_cons_succ, List.getElem?_cons_zero]); exact rfl
    · rfl
    · rfl
    · intro w' hSw; (try dsimp only at hSw); go_simp; (try with_reducible rfl)
    (try simp only [Act.put, List.setIfInBounds_toArray, List.set_cons_zero, List.set_cons_succ])
    refine takeH (i := 2) (d := 33) (v := ?_) (by kernel_rfl) (by kernel_rfl) (by kernel_rfl) (fun _ _ _ h => h) (by assumption) ⟨?_, ?_, ?_, ?_, ?_⟩ ?_
    rotate_left
    rotate_left
    · (try simp only [List.getElem?_toArray, List.getElem?_cons_succ, List.getElem?_cons_zero]); exact rfl
    · rfl
    · rfl
    · intro w' hSw; (try dsimp only at hSw); go_simp; (try with_reducible rfl)
    (try simp only [Act.put, List.setIfInBounds_toArray, List.set_cons_zero, List.set_cons_succ])
    refine takeH (i := 3) (d := 34) (v := ?_) (by kernel_rfl) (by kernel_rfl) (by kernel_rfl) (fun _ _ _ h => h) (by assumption) ⟨?_, ?_, ?_, ?_, ?_⟩ ?_
    rotate_left
    rotate_left
    · (try simp only [List.getElem?_toArray, List.getElem?_cons_succ, List.getElem?_cons_zero]); exact rfl
    · rfl
    · rfl
    · intro w' hSw; (try dsimp only at hSw); go_simp; (try with_reducible rfl)
    (try simp only [Act.put, List.setIfInBounds_toArray, List.set_cons_zero, List.set_cons_succ])
    refine takeH (i := 4) (d := 35) (v := ?_) (by kernel_rfl) (by kernel_rfl) (by kernel_rfl) (fun _ _ _ h => h) (by assumption) ⟨?_, ?_, ?_, ?_, ?_⟩ ?_
    rotate_left
    rotate_left
    · (try simp only [List.getElem?_toArray, List.getElem?_cons_succ, List.getElem?_cons_zero]); exact rfl
    · rfl
    · rfl
    · intro w' hSw; (try dsimp only at hSw); go_simp; (try with_reducible rfl)
    (try simp only [Act.put, List.setIfInBounds_toArray, List.set_cons_zero, List.set_cons_succ])
    refine takeH (i := 5) (d := 36) (v := ?_) (by kernel_rfl) (by kernel_rfl) (by kernel_rfl) (fun _ _ _ h => h) (by assumption) ⟨?_, ?_, ?_, ?_, ?_⟩ ?_
    rotate_left
    rotate_left
    · (try simp only [List.getElem?_toArray, List.getElem?_cons_succ, List.getElem?_cons_zero]); exact rfl
    · rfl
    · rfl
    · intro w' hSw; (try dsimp only at hSw); go_simp; (try with_reducible rfl)
    (try simp only [Act.put, List.setIfInBounds_toArray, List.set_cons_zero, List.set_cons_succ])
    refine takeH (i := 6) (d := 37) (v := ?_) (by kernel_rfl) (by kernel_rfl) (by kernel_rfl) (fun _ _ _ h => h) (by assumption) ⟨?_, ?_, ?_, ?_, ?_⟩ ?_
    rotate_left
    rotate_left
    · (try simp only [List.getElem?_toArray, List.getElem?_cons_succ, List.getElem?_cons_zero]); exact rfl
    · rfl
    · rfl
    · intro w' hSw; (try dsimp only at hSw); go_simp; (try with_reducible rfl)
    (try simp only [Act.put, List.setIfInBounds_toArray, List.set_cons_zero, List.set_cons_succ])
    refine takeH (i := 7) (d := 38) (v := ?_) (by kernel_rfl) (by kernel_rfl) (by kernel_rfl) (fun _ _ _ h => h) (by assumption) ⟨?_, ?_, ?_, ?_, ?_⟩ ?_
    rotate_left
    rotate_left
    · (try simp only [List.getElem?_toArray, List.getElem?_cons_succ, List.getElem?_cons_zero]); exact rfl
    · rfl
    · rfl
    · intro w' hSw; (try dsimp only at hSw); go_simp; (try with_reducible rfl)
    (try simp only [Act.put, List.setIfInBounds_toArray, List.set_cons_zero, List.set_cons_succ])
    refine takeH (i := 8) (d := 39) (v := ?_) (by kernel_rfl) (by kernel_rfl) (by kernel_rfl) (fun _ _ _ h => h) (by assumption) ⟨?_, ?_, ?_, ?_, ?_⟩ ?_
    rotate_left
    rotate_left
    · (try simp only [List.getElem?_toArray, List.getElem?_cons_succ, List.getElem?_cons_zero]); exact rfl
    · rfl
    · rfl
    · intro w' hSw; (try dsimp only at hSw); go_simp; (try with_reducible rfl)
    (try simp only [Act.put, List.setIfInBounds_toArray, List.set_cons_zero, List.set_cons_succ])
    refine wpAnyH_ready (rs := [9]) (by kernel_rfl) (by simp) ?_
    refine AllReadyH.cons (o := ?_) ?_ (fun K hK => ?_) AllReadyH.nil
    rotate_left
    · (try simp only [List.getElem?_toArray, List.getElem?_cons_succ, List.getElem?_cons_zero]); exact rfl
    go_simp
    go_wp2_with fail
    refine hK.out _ _ ?_ (fun hHeld => ?_)
    · exact ⟨cell_by (W := w4) (by (repeat' (first | (with_reducible exact Below.refl _ _) | (with_reducible refine belA ?_ (by first | omega | (simp; done) | (simp; omega))) | (with_reducible refine bel_drewN ?_ _) | (with_reducible refine Below.drew ?_)))) z4 c0, cell_by (W := w4) (by (repeat' (first | (with_reducible exact Below.refl _ _) | (with_reducible refine belA ?_ (by first | omega | (simp; done) | (simp; omega))) | (with_reducible refine bel_drewN ?_ _) | (with_reducible refine Below.drew ?_)))) z4 c1⟩
    clear hK K
    (try simp only [Act.put, List.setIfInBounds_toArray, List.set_cons_zero, List.set_cons_succ])
    refine takeH (i := 10) (d := 10) (v := ?_) (by kernel_rfl) (by kernel_rfl) (by kernel_rfl) (fun _ _ _ h => h) (by assumption) ⟨?_, ?_, ?_, ?_, ?_⟩ ?_
    rotate_left
    rotate_left
    · (try simp only [List.getElem?_toArray, List.getElem?_cons_succ, List.getElem?_cons_zero]); exact rfl
    · rfl
    · rfl
    · intro w' hSw; (try dsimp only at hSw); go_simp; (try with_reducible rfl)
    (try simp only [Act.put, List.setIfInBounds_toArray, List.set_cons_zero, List.set_cons_succ])
    refine wpAnyH_done (by kernel_rfl) ?_ _
    go_wp2_with fail
    refine (spoil_any w.heap.size _ (21 + n + 1) _ _ _ _ [p0, p1] 7 _ (by (repeat' (first | (with_reducible assumption) | (refine Hid.out ?_; with_reducible assumption) | (with_reducible refine Rd.set ?_ (by first | omega | (simp; done) | (simp; omega) | (simp only [World.size_alloc, World.size_setCell, World.size_drew] at *; omega)) (by first | omega | (simp; done) | (simp; omega) | (simp only [World.size_alloc, World.size_setCell, World.size_drew] at *; omega))) | (with_reducible refine Rd.alloc ?_ _) | (with_reducible refine Rd.drewN ?_ _) | (with_reducible refine Rd.drew ?_)))) (by exact two_intsG _ _ _ _ _ (by first | omega | (simp; done) | (simp; omega) | (simp only [World.size_alloc, World.size_setCell, World.size_drew] at *; omega)) ⟨by omega, by omega⟩ ⟨by omega, by omega⟩) (by omega) (by omega) (by omega)).mono ?_
    rintro e w5 ⟨A5, n5, c5, ps, rfl, hi5, lc5, mc5, hm5, hr, ho⟩
    have z5 := ho.size
    have R5 := Lib.hid hr; clear hr
    have D5 := Lib.hid ho; clear ho
    have G5 : Hid (Below w.heap.size w w5) := Lib.hid (Below.trans (by (repeat' (first | (with_reducible exact Below.refl _ _) | (with_reducible refine belS ?_ (by first | omega | (simp; done) | (simp; omega) | (simp only [World.size_alloc, World.size_setCell, World.size_drew] at *; omega))) | (with_reducible refine belA ?_ (by first | omega | (simp; done) | (simp; omega) | (simp only [World.size_alloc, World.size_setCell, World.size_drew] at *; omega))) | (with_reducible refine bel_drewN ?_ _) | (with_reducible refine Below.drew ?_) | (with_reducible assumption) | (refine Hid.out ?_; with_reducible assumption) | (apply belV; (with_reducible assumption); exact (by first | omega | (simp; done) | (simp; omega) | (simp only [World.size_alloc, World.size_setCell, World.size_drew] at *; omega)))))) (Only.below D5.out (by first | omega | (simp; done) | (simp; omega) | (simp only [World.size_alloc, World.size_setCell, World.size_drew] at *; omega)) (by first | omega | (simp; done) | (simp; omega) | (simp only [World.size_alloc, World.size_setCell, World.size_drew] at *; omega))))
    (try simp at z5)
    (try simp only [World.size_alloc, World.size_setCell, World.size_drew, World.heap_drewN] at hi5)
    have I5 := Lib.hid hi5; clear hi5
    have I6 : Hid (IntsF w5 w1.heap.size A (n * 2) (fl ds)) := Lib.hid (IntsF.only D5 (by omega) (by (repeat' (first | (with_reducible assumption) | (refine Hid.out ?_; with_reducible assumption) | (with_reducible refine IntsF.far ?_ (by first | omega | (simp; done) | (simp; omega) | (simp only [World.size_alloc, World.size_setCell, World.size_drew] at *; omega)) _) | (with_reducible refine IntsF.alloc ?_ _) | (with_reducible refine IntsF.drewN ?_ _) | (with_reducible refine IntsF.drew ?_) | (apply IntsF.only; (with_reducible assumption); exact (by first | omega | (simp; done) | (simp; omega) | (simp only [World.size_alloc, World.size_setCell, World.size_drew] at *; omega))) | (apply IntsF.belowD; (with_reducible assumption))))))
    go_wp2_with fail
    refine bodyPost_ret (v := .tuple #[.slice A n c, .int .i64 rest, .int .i64 most, .slice A5 n5 c5]) (by simp [results, Try.results23, go_sem, *]) rfl ⟨A, A5, n, n5, c, c5, rest, most, ds, ps, rfl, ⟨hl, I6.out.out⟩, I5.out.out, lc, cm, lc5, mc5, h7, by omega, br, bm, by (repeat' (first | (with_reducible exact Below.refl _ _) | (with_reducible refine belS ?_ (by first | omega | (simp; done) | (simp; omega) | (simp only [World.size_alloc, World.size_setCell, World.size_drew] at *; omega))) | (with_reducible refine belA ?_ (by first | omega | (simp; done) | (simp; omega) | (simp only [World.size_alloc, World.size_setCell, World.size_drew] at *; omega))) | (with_reducible refine bel_drewN ?_ _) | (with_reducible refine Below.drew ?_) | (with_reducible assumption) | (refine Hid.out ?_; with_reducible assumption) | (apply belV; (with_reducible assumption); exact (by first | omega | (simp; done) | (simp; omega) | (simp only [World.size_alloc, World.size_setCell, World.size_drew] at *; omega)))))⟩
end Go.Proofs.Ytjbgjljcgdligab
