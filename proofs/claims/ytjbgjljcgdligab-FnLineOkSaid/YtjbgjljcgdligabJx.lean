
/-
  The draws of duties and of the arguments of the laws on bounds of crews.
-/
import Derived.Test.YtjbgjljcgdligabJa
import Derived.Test.YtjbgjljcgdligabDk
import Derived.Test.YtjbgjljcgdligabDq
set_option linter.unusedSimpArgs false
set_option linter.unusedVariables false
namespace Go.Proofs.Ytjbgjljcgdligab
open Go.RowKit

theorem GrowE.only {rb B : Nat} {w w' : World} {e : TypeId} {v : Value} {es : List (Int × Int)} (k : Hid (Only rb w w')) (hn : rb < B) (h : GrowE w B e v es) : GrowE w' B e v es := h.keep k.out.size fun j h1 h2 => k.out.block j h2 (by omega)
theorem GrowE.shape {w : World} {B : Nat} {e : TypeId} {v : Value} {es : List (Int × Int)} (h : GrowE w B e v es) : ∃ (A : Option Addr) (c : Nat), v = .slice A es.length c ∧ es.length ≤ c ∧ c ≤ maxLen := by
  rcases h.2 with ⟨rfl, h0⟩ | ⟨g, cap, cur, rfl, _, _, hn, hm, _⟩
  · exact ⟨none, 0, by rw [h0], by omega, Nat.zero_le _⟩
  · exact ⟨_, _, rfl, hn, hm⟩
theorem GrowE.lit_atE {g B : Nat} (w : World) (hg : g = w.heap.size) (hB : B ≤ w.heap.size) (e : TypeId) : GrowE (w.alloc (.cells #[] e)) B e (.slice (some ⟨g, 0, none⟩) 0 0) [] := by subst hg; exact GrowE.lit0 w hB e
theorem GrowE.intsF {w : World} {B : Nat} {e : TypeId} {v : Value} {es : List (Int × Int)} (h : GrowE w B e v es) (hr : ∀ x ∈ fl es, I64 x) : ∃ (A : Option Addr) (c : Nat), v = .slice A es.length c ∧ es.length ≤ c ∧ c ≤ maxLen ∧ IntsF w B A (es.length * 2) (fl es) ∧ (0 < es.length → ∃ g, A = some ⟨g, 0, none⟩ ∧ B ≤ g ∧ OwnI w g (fl es)) := by
  obtain ⟨A, c, e1, lc, cm⟩ := h.shape
  obtain ⟨A', c', e2, h5⟩ := h.ints
  have e3 := e1.symm.trans e2
  injection e3 with e3 e4 e5
  subst e3
  refine ⟨A, c, e1, lc, cm, ⟨⟨fl_len es, hr, fun hn => ?_⟩, fun hn => ?_⟩, fun hn => ?_⟩
  · rcases h5 with h5 | ⟨g, rfl, hb, ho⟩
    · have := fl_len es; rw [h5] at this; simp at this; omega
    · exact ⟨g, 0, rfl, fun i x hx => by rw [Nat.zero_add]; exact (ho.2 i x hx).1⟩
  · rcases h5 with h5 | ⟨g, rfl, hb, ho⟩
    · have := fl_len es; rw [h5] at this; simp at this; omega
    · exact ⟨g, 0, rfl, hb⟩
  · rcases h5 with h5 | ⟨g, rfl, hb, ho⟩
    · have := fl_len es; rw [h5] at this; simp at this; omega
    · exact ⟨g, rfl, hb, ho⟩
theorem lit_cellsG {w : World} {g : Nat} {l : List Int} {t : TypeId} (hg : g = w.heap.size) : ∀ i, i < l.length → (w.alloc (.cells (l.map (Value.int .i64)).toArray t)).cell? ⟨g, i, none⟩ = some (.int .i64 (l.getD i 0)) := by subst hg; exact lit_cells
theorem fl_set (x y : Int) : ∀ (es : List (Int × Int)) (k : Nat), fl (es.set k (x, y)) = ((fl es).set (k * 2) x).set (k * 2 + 1) y
  | [], k => by simp [fl]
  | p :: t, 0 => by simp [fl]
  | p :: t, k + 1 => by
    rw [show (k + 1) * 2 = (k * 2 + 1) + 1 by omega, show (k * 2 + 1) + 1 + 1 = (k * 2 + 1 + 1) + 1 by omega]
    simp only [List.set_cons_succ, fl, fl_set x y t k]
theorem info_dutyX : (Try.prog.info? 41).map (fun i => (i.zero, i.size, i.bytes)) = some (some (.agg #[.int .i64 0, .int .i64 0]), 2, 16) := by kernel_rfl
def nearD (es : List (Int × Int)) : Prop := ∀ p ∈ es, (-1000 ≤ p.1 ∧ p.1 ≤ 1000) ∧ -1000 ≤ p.2 ∧ p.2 ≤ 1000
theorem nearD.i64 {es : List (Int × Int)} (h : nearD es) : ∀ x ∈ fl es, I64 x := fl_mem fun p hp => by
  obtain ⟨⟨a, b⟩, c, d⟩ := h p hp
  exact ⟨⟨by omega, by omega⟩, ⟨by omega, by omega⟩⟩
/-- Duties and rules were drawn. -/
def DrewDuties (B rb P : Nat) (w : World) (e : Ending) (w' : World) : Prop :=
  ∃ (A : Option Addr) (n c : Nat) (ds : List (Int × Int)) (rest most : Int), e = .returned (.tuple #[.slice A n c, .int .i64 rest, .int .i64 most]) ∧ IntsF w' w.heap.size A (n * 2) (fl ds) ∧ ds.length = n ∧ n ≤ c ∧ c ≤ maxLen ∧ n ≤ 7 ∧
    (-1 ≤ rest ∧ rest ≤ 10000) ∧ (-1 ≤ most ∧ most ≤ 10000) ∧ Rd B w' rb P ∧ Only rb w w'

set_option maxHeartbeats 8000000 in
set_option maxRecDepth 100000 in
theorem anyDuties_any (B rb P : Nat) (w : World) (hr : Rd B w rb P) (hP : P ≤ 600000) :
    Calls Try.prog 81 #[.pointer (some ⟨rb, 0, none⟩)] w (DrewDuties B rb (P + 21) w) := by
  obtain ⟨i0, hi0, hz0, hz1, hz2⟩ := info_parts info_dutyX
  have hrb := hr.2.1
  have hB := hr.1
  have HR := Lib.hid hr; clear hr
  go_enter Try.func81, Try.ntmps81
  go_wp2_with fail
  refine (one_any B rb P _ _ [3, 4, 5, 2, 6, 1, 0, 7] _ (by (repeat' (first | (with_reducible assumption) | (refine Hid.out ?_; with_reducible assumption) | (with_reducible refine Rd.set ?_ (by first | omega | (simp; done) | (simp; omega) | (simp only [World.size_alloc, World.size_setCell, World.size_drew] at *; omega)) (by first | omega | (simp; done) | (simp; omega) | (simp only [World.size_alloc, World.size_setCell, World.size_drew] at *; omega))) | (with_reducible refine Rd.alloc ?_ _) | (with_reducible refine Rd.drewN ?_ _) | (with_reducible refine Rd.drew ?_)))) (by omega) (by decide) (by decide) (by first | omega | (simp; done) | (simp; omega) | (simp only [World.size_alloc, World.size_setCell, World.size_drew] at *; omega)) (by simp) (lit_cells (l := [3, 4, 5, 2, 6, 1, 0, 7]))).mono ?_
  rintro e w1 ⟨v, hv, rfl, hr, ho⟩
  have z1 := ho.size
  have R1 := Lib.hid hr; clear hr
  have D1 := Lib.hid ho; clear ho
  have O1 : Hid (OnlyA rb w w1) := Lib.hid (Only.trans (by (repeat' (first | exact Only.refl _ _ | (with_reducible assumption) | (refine Hid.out ?_; with_reducible assumption) | (refine OnlyA.out ?_; refine Hid.out ?_; with_reducible assumption) | (with_reducible refine Only.setNew ?_ (by first | omega | (simp; done) | (simp; omega) | (simp only [World.size_alloc, World.size_setCell, World.size_drew] at *; omega))) | (with_reducible refine Only.alloc ?_ _) | (with_reducible refine Only.drewN ?_ _) | (with_reducible refine Only.drew ?_) | (apply Only.thenD; (with_reducible assumption)) | (apply Only.belowD; (with_reducible assumption))))) D1.out)
  (try simp at z1)
  obtain ⟨n, rfl, hm⟩ : ∃ m : Nat, v = (m : Int) ∧ m ≤ 7 := by simp at hv; exact ⟨v.toNat, by omega, by omega⟩
  clear hv
  go_wp2_with fail
  go_loopw [6, 7, 8] (fun s6 s7 s8 wr => ∃ (k : Nat) (v : Value) (a : Int) (es : List (Int × Int)), k ≤ n ∧ v = s6 ∧ s7 = .int .i64 a ∧ s8 = .int .i64 k ∧ (0 ≤ a ∧ a ≤ 5 * k) ∧ Hid (es.length = k ∧ nearD es) ∧ Hid (GrowE wr w.heap.size 41 v es) ∧ Hid (Rd B wr rb (P + 1 + 2 * k)) ∧ Hid (Only rb w wr)) (fun _ _ s8 _ => n - (intOf s8).toNat)
  case atStart => exact ⟨0, _, 0, [], by omega, rfl, rfl, rfl, ⟨by omega, by omega⟩, Lib.hid ⟨rfl, by simp [nearD]⟩, Lib.hid (GrowE.lit_atE _ rfl (by omega) _), Lib.hid (by (repeat' (first | (with_reducible assumption) | (refine Hid.out ?_; with_reducible assumption) | (with_reducible refine Rd.set ?_ (by first | omega | (simp; done) | (simp; omega) | (simp only [World.size_alloc, World.size_setCell, World.size_drew] at *; omega)) (by first | omega | (simp; done) | (simp; omega) | (simp only [World.size_alloc, World.size_setCell, World.size_drew] at *; omega))) | (with_reducible refine Rd.alloc ?_ _) | (with_reducible refine Rd.drewN ?_ _) | (with_reducible refine Rd.drew ?_)))), Lib.hid (by (repeat' (first | exact Only.refl _ _ | (with_reducible assumption) | (refine Hid.out ?_; with_reducible assumption) | (refine OnlyA.out ?_; refine Hid.out ?_; with_reducible assumption) | (with_reducible refine Only.setNew ?_ (by first | omega | (simp; done) | (simp; omega) | (simp only [World.size_alloc, World.size_setCell, World.size_drew] at *; omega))) | (with_reducible refine Only.alloc ?_ _) | (with_reducible refine Only.drewN ?_ _) | (with_reducible refine Only.drew ?_) | (apply Only.thenD; (with_reducible assumption)) | (apply Only.belowD; (with_reducible assumption)))))⟩
  case round =>
    obtain ⟨k, v, a, es, hk, rfl, rfl, rfl, ⟨a0, a1⟩, hes, hgr, hrd, ho⟩ := hrel
    have zr := ho.out.size
    have zrb := hrd.out.2.1
    by_cases hlt : k < n
    · go_wp2_with fail
      refine (pick_any B rb (P + 1 + 2 * k) _ _ hrd.out (by omega) (by omega) (by omega)).mono ?_
      rintro e w2 ⟨u, u0, u1, rfl, hr2, ho2⟩
      have R2 := Lib.hid hr2
      have D2 := Lib.hid ho2
      have O2 := Lib.hid (ho.out.trans ho2)
      have zz2 := ho2.size
      have G2 : Hid (GrowE w2 w.heap.size 41 v es) := Lib.hid (GrowE.only D2 hrb hgr.out)
      clear hr2 ho2
      go_wp2_with fail
      refine (pick_any B rb (P + 1 + 2 * k + 1) _ _ R2.out (by omega) (by omega) (by omega)).mono ?_
      rintro e w3 ⟨q, q0, q1, rfl, hr3, ho3⟩
      have R3 := Lib.hid hr3
      have D3 := Lib.hid ho3
      have O3 := Lib.hid (O2.out.trans ho3)
      have zz3 := ho3.size
      have G3 : Hid (GrowE w3 w.heap.size 41 v es) := Lib.hid (GrowE.only D3 hrb G2.out)
      clear hr3 ho3
      have EL : Hid (es.length ≤ 7) := Lib.hid (by have := hes.out.1; omega)
      go_wp2_with (
        at_builtin
        refine wpList_append_own _ rfl (.tmp 22) (.tmp 30) 32 rfl w.heap.size 41 i0 (.agg #[.int .i64 0, .int .i64 0]) 2 16 Try.underlying32 hi0 hz0 hz1 hz2 rfl (by decide) v _ _ rfl (G3.out.alloc _).own ⟨w3.heap.size, 0, none⟩ 1 1 [.int .i64 (a + u), .int .i64 (a + u + 1 + q)] rfl rfl ?c1 ?c2 ?c3 ?c4 ?c5 ?_
        case c1 => intro j u hj; (rcases j with _ | _ | j <;> simp at hj) <;> subst hj <;> simp [go_sem]
        case c2 => intro u hu; simp at hu; rcases hu with rfl | rfl <;> rfl
        case c3 => have := EL.out; unfold maxLen; omega
        case c4 => have := EL.out; omega
        case c5 => simp; omega
        intro v' w4 hown' hgrow _
        have hrow := hgr.out.row
        have G4 : Hid (GrowE w4 w.heap.size 41 v' (es ++ [(a + u, a + u + 1 + q)])) := Lib.hid (GrowE.snoc hown')
        have R4 : Hid (Rd B w4 rb (P + 1 + 2 * k + 1 + 1)) := Lib.hid ((R3.out.alloc _).grown hgrow (fun j hj => by have := hrow j hj; omega))
        have O4 : Hid (Only rb w w4) := Lib.hid ((O3.out.alloc _).grown hgrow (fun j hj => hrow j hj))
        clear hown' hgrow hrow)
      go_roundw
      case rel => exact ⟨k + 1, _, a + u, _, by omega, rfl, rfl, by go_num, ⟨by omega, by omega⟩, Lib.hid ⟨by rw [List.length_append, hes.out.1]; rfl, fun p hp => by
          rcases List.mem_append.1 hp with h | h
          · exact hes.out.2 p h
          · simp at h; subst h; exact ⟨⟨by simp only; omega, by simp only; omega⟩, by simp only; omega, by simp only; omega⟩⟩, G4, Lib.hid (Rd.mono R4.out (by omega)), O4⟩
      case measure => simp [intOf]; omega
    · have hkn : k = n := by omega
      subst hkn
      obtain ⟨A, c, rfl, lc, cm, hI, hO⟩ := hgr.out.intsF hes.out.2.i64
      have HEL := Lib.hid hes.out.1
      rw [HEL.out] at lc hI hO
      have IF := Lib.hid hI; clear hI
      have HOW := Lib.hid hO; clear hO
      have ELR : Hid (es.length = k ∧ es.length ≤ 7) := Lib.hid ⟨HEL.out, by have := HEL.out; omega⟩
      generalize hnn : es.length = m at *
      obtain rfl : m = k := HEL.out
      have HNN := Lib.hid hnn; clear hnn HEL
      by_cases hk0 : 0 < m
      rotate_left
      · have hm0 : m = 0 := by omega
        subst hm0
        go_wp2_with fail
        refine (one_any B rb (P + 1 + 2 * 0) _ _ [0, 1, 2, 4, 0, 3, -1, 200, 201] _ (by (repeat' (first | (with_reducible assumption) | (refine Hid.out ?_; with_reducible assumption) | (with_reducible refine Rd.set ?_ (by first | omega | (simp; done) | (simp; omega) | (simp only [World.size_alloc, World.size_setCell, World.size_drew] at *; omega)) (by first | omega | (simp; done) | (simp; omega) | (simp only [World.size_alloc, World.size_setCell, World.size_drew] at *; omega))) | (with_reducible refine Rd.alloc ?_ _) | (with_reducible refine Rd.drewN ?_ _) | (with_reducible refine Rd.drew ?_)))) (by omega) (by decide) (by decide) (by first | omega | (simp; done) | (simp; omega) | (simp only [World.size_alloc, World.size_setCell, World.size_drew] at *; omega)) (by simp) (lit_cellsG (l := [0, 1, 2, 4, 0, 3, -1, 200, 201]) (by simp))).mono ?_
        rintro e w3 ⟨rest, hrest, rfl, hr, ho⟩
        have z3 := ho.size
        have R3 := Lib.hid hr; clear hr
        have D3 := Lib.hid ho; clear ho
        have O3 : Hid (OnlyA rb w w3) := Lib.hid (Only.trans (by (repeat' (first | exact Only.refl _ _ | (with_reducible assumption) | (refine Hid.out ?_; with_reducible assumption) | (refine OnlyA.out ?_; refine Hid.out ?_; with_reducible assumption) | (with_reducible refine Only.setNew ?_ (by first | omega | (simp; done) | (simp; omega) | (simp only [World.size_alloc, World.size_setCell, World.size_drew] at *; omega))) | (with_reducible refine Only.alloc ?_ _) | (with_reducible refine Only.drewN ?_ _) | (with_reducible refine Only.drew ?_) | (apply Only.thenD; (with_reducible assumption)) | (apply Only.belowD; (with_reducible assumption))))) D3.out)
        (try simp at z3)
        have br : -1 ≤ rest ∧ rest ≤ 10000 := by simp at hrest; omega
        clear hrest
        go_wp2_with fail
        refine (one_any B rb (P + 1 + 2 * 0 + 1) _ _ [10, 15, 20, 30, 9999, 10000, 8, 0, -1] _ (by (repeat' (first | (with_reducible assumption) | (refine Hid.out ?_; with_reducible assumption) | (with_reducible refine Rd.set ?_ (by first | omega | (simp; done) | (simp; omega) | (simp only [World.size_alloc, World.size_setCell, World.size_drew] at *; omega)) (by first | omega | (simp; done) | (simp; omega) | (simp only [World.size_alloc, World.size_setCell, World.size_drew] at *; omega))) | (with_reducible refine Rd.alloc ?_ _) | (with_reducible refine Rd.drewN ?_ _) | (with_reducible refine Rd.drew ?_)))) (by omega) (by decide) (by decide) (by first | omega | (simp; done) | (simp; omega) | (simp only [World.size_alloc, World.size_setCell, World.size_drew] at *; omega)) (by simp) (lit_cellsG (l := [10, 15, 20, 30, 9999, 10000, 8, 0, -1]) (by simp))).mono ?_
        rintro e w4 ⟨most, hmost, rfl, hr, ho⟩
        have z4 := ho.size
        have R4 := Lib.hid hr; clear hr
        have D4 := Lib.hid ho; clear ho
        have O4 : Hid (OnlyA rb w w4) := Lib.hid (Only.trans (by (repeat' (first | exact Only.refl _ _ | (with_reducible assumption) | (refine Hid.out ?_; with_reducible assumption) | (refine OnlyA.out ?_; refine Hid.out ?_; with_reducible assumption) | (with_reducible refine Only.setNew ?_ (by first | omega | (simp; done) | (simp; omega) | (simp only [World.size_alloc, World.size_setCell, World.size_drew] at *; omega))) | (with_reducible refine Only.alloc ?_ _) | (with_reducible refine Only.drewN ?_ _) | (with_reducible refine Only.drew ?_) | (apply Only.thenD; (with_reducible assumption)) | (apply Only.belowD; (with_reducible assumption))))) D4.out)
        (try simp at z4)
        have bm : -1 ≤ most ∧ most ≤ 10000 := by simp at hmost; omega
        clear hmost
        go_wp2_with fail
        refine bodyPost_ret (v := .tuple #[.slice A 0 c, .int .i64 rest, .int .i64 most]) (by simp [results, Try.results81, go_sem, *]) rfl ⟨_, _, _, es, rest, most, rfl, ?_, HNN.out, lc, cm, by omega, br, bm, Rd.mono (P := P + 1 + 2 * 0 + 1 + 1) (by (repeat' (first | (with_reducible assumption) | (refine Hid.out ?_; with_reducible assumption) | (with_reducible refine Rd.set ?_ (by first | omega | (simp; done) | (simp; omega) | (simp only [World.size_alloc, World.size_setCell, World.size_drew] at *; omega)) (by first | omega | (simp; done) | (simp; omega) | (simp only [World.size_alloc, World.size_setCell, World.size_drew] at *; omega))) | (with_reducible refine Rd.alloc ?_ _) | (with_reducible refine Rd.drewN ?_ _) | (with_reducible refine Rd.drew ?_)))) (by omega), by (repeat' (first | exact Only.refl _ _ | (with_reducible assumption) | (refine Hid.out ?_; with_reducible assumption) | (refine OnlyA.out ?_; refine Hid.out ?_; with_reducible assumption) | (with_reducible refine Only.setNew ?_ (by first | omega | (simp; done) | (simp; omega) | (simp only [World.size_alloc, World.size_setCell, World.size_drew] at *; omega))) | (with_reducible refine Only.alloc ?_ _) | (with_reducible refine Only.drewN ?_ _) | (with_reducible refine Only.drew ?_) | (apply Only.thenD; (with_reducible assumption)) | (apply Only.belowD; (with_reducible assumption))))⟩
        (repeat' (first | (with_reducible assumption) | (refine Hid.out ?_; with_reducible assumption) | (with_reducible refine IntsF.far ?_ (by first | omega | (simp; done) | (simp; omega) | (simp only [World.size_alloc, World.size_setCell, World.size_drew] at *; omega)) _) | (with_reducible refine IntsF.alloc ?_ _) | (with_reducible refine IntsF.drewN ?_ _) | (with_reducible refine IntsF.drew ?_) | (apply IntsF.only; (with_reducible assumption); exact (by first | omega | (simp; done) | (simp; omega) | (simp only [World.size_alloc, World.size_setCell, World.size_drew] at *; omega))) | (apply IntsF.belowD; (with_reducible assumption))))
      · obtain ⟨g, rfl, hg1, og⟩ := HOW.out hk0
        have OG := Lib.hid og; clear og
        go_wp2_with fail
        refine (pick_any B rb (P + 1 + 2 * m) _ _ (by (repeat' (first | (with_reducible assumption) | (refine Hid.out ?_; with_reducible assumption) | (with_reducible refine Rd.set ?_ (by first | omega | (simp; done) | (simp; omega) | (simp only [World.size_alloc, World.size_setCell, World.size_drew] at *; omega)) (by first | omega | (simp; done) | (simp; omega) | (simp only [World.size_alloc, World.size_setCell, World.size_drew] at *; omega))) | (with_reducible refine Rd.alloc ?_ _) | (with_reducible refine Rd.drewN ?_ _) | (with_reducible refine Rd.drew ?_)))) (by omega) (by omega) (by omega)).mono ?_
        rintro e w5 ⟨u, u0, u1, rfl, hr, ho⟩
        have z5 := ho.size
        have R5 := Lib.hid hr; clear hr
        have D5 := Lib.hid ho; clear ho
        have O5 : Hid (OnlyA rb w w5) := Lib.hid (Only.trans (by (repeat' (first | exact Only.refl _ _ | (with_reducible assumption) | (refine Hid.out ?_; with_reducible assumption) | (refine OnlyA.out ?_; refine Hid.out ?_; with_reducible assumption) | (with_reducible refine Only.setNew ?_ (by first | omega | (simp; done) | (simp; omega) | (simp only [World.size_alloc, World.size_setCell, World.size_drew] at *; omega))) | (with_reducible refine Only.alloc ?_ _) | (with_reducible refine Only.drewN ?_ _) | (with_reducible refine Only.drew ?_) | (apply Only.thenD; (with_reducible assumption)) | (apply Only.belowD; (with_reducible assumption))))) D5.out)
        (try simp at z5)
        have OG5 : Hid (OwnI w5 g (fl es)) := Lib.hid (OwnI.only D5 (by omega) OG.out)
        have IF5 : Hid (IntsF w5 w.heap.size (some ⟨g, 0, none⟩) (m * 2) (fl es)) := Lib.hid (IntsF.only D5 (by omega) IF.out)
        by_cases hu : u = 0
        rotate_left
        · have hd : (u == 0) = false := by simp [hu]
          go_wp2_with fail
          refine (one_any B rb (P + 1 + 2 * m + 1) _ _ [0, 1, 2, 4, 0, 3, -1, 200, 201] _ (by (repeat' (first | (with_reducible assumption) | (refine Hid.out ?_; with_reducible assumption) | (with_reducible refine Rd.set ?_ (by first | omega | (simp; done) | (simp; omega) | (simp only [World.size_alloc, World.size_setCell, World.size_drew] at *; omega)) (by first | omega | (simp; done) | (simp; omega) | (simp only [World.size_alloc, World.size_setCell, World.size_drew] at *; omega))) | (with_reducible refine Rd.alloc ?_ _) | (with_reducible refine Rd.drewN ?_ _) | (with_reducible refine Rd.drew ?_)))) (by omega) (by decide) (by decide) (by first | omega | (simp; done) | (simp; omega) | (simp only [World.size_alloc, World.size_setCell, World.size_drew] at *; omega)) (by simp) (lit_cellsG (l := [0, 1, 2, 4, 0, 3, -1, 200, 201]) (by simp))).mono ?_
          rintro e w6 ⟨rest, hrest, rfl, hr, ho⟩
          have z6 := ho.size
          have R6 := Lib.hid hr; clear hr
          have D6 := Lib.hid ho; clear ho
          have O6 : Hid (OnlyA rb w w6) := Lib.hid (Only.trans (by (repeat' (first | exact Only.refl _ _ | (with_reducible assumption) | (refine Hid.out ?_; with_reducible assumption) | (refine OnlyA.out ?_; refine Hid.out ?_; with_reducible assumption) | (with_reducible refine Only.setNew ?_ (by first | omega | (simp; done) | (simp; omega) | (simp only [World.size_alloc, World.size_setCell, World.size_drew] at *; omega))) | (with_reducible refine Only.alloc ?_ _) | (with_reducible refine Only.drewN ?_ _) | (with_reducible refine Only.drew ?_) | (apply Only.thenD; (with_reducible assumption)) | (apply Only.belowD; (with_reducible assumption))))) D6.out)
          (try simp at z6)
          have br : -1 ≤ rest ∧ rest ≤ 10000 := by simp at hrest; omega
          clear hrest
          go_wp2_with fail
          refine (one_any B rb (P + 1 + 2 * m + 1 + 1) _ _ [10, 15, 20, 30, 9999, 10000, 8, 0, -1] _ (by (repeat' (first | (with_reducible assumption) | (refine Hid.out ?_; with_reducible assumption) | (with_reducible refine Rd.set ?_ (by first | omega | (simp; done) | (simp; omega) | (simp only [World.size_alloc, World.size_setCell, World.size_drew] at *; omega)) (by first | omega | (simp; done) | (simp; omega) | (simp only [World.size_alloc, World.size_setCell, World.size_drew] at *; omega))) | (with_reducible refine Rd.alloc ?_ _) | (with_reducible refine Rd.drewN ?_ _) | (with_reducible refine Rd.drew ?_)))) (by omega) (by decide) (by decide) (by first | omega | (simp; done) | (simp; omega) | (simp only [World.size_alloc, World.size_setCell, World.size_drew] at *; omega)) (by simp) (lit_cellsG (l := [10, 15, 20, 30, 9999, 10000, 8, 0, -1]) (by simp))).mono ?_
          rintro e w7 ⟨most, hmost, rfl, hr, ho⟩
          have z7 := ho.size
          have R7 := Lib.hid hr; clear hr
          have D7 := Lib.hid ho; clear ho
          have O7 : Hid (OnlyA rb w w7) := Lib.hid (Only.trans (by (repeat' (first | exact Only.refl _ _ | (with_reducible assumption) | (refine Hid.out ?_; with_reducible assumption) | (refine OnlyA.out ?_; refine Hid.out ?_; with_reducible assumption) | (with_reducible refine Only.setNew ?_ (by first | omega | (simp; done) | (simp; omega) | (simp only [World.size_alloc, World.size_setCell, World.size_drew] at *; omega))) | (with_reducible refine Only.alloc ?_ _) | (with_reducible refine Only.drewN ?_ _) | (with_reducible refine Only.drew ?_) | (apply Only.thenD; (with_reducible assumption)) | (apply Only.belowD; (with_reducible assumption))))) D7.out)
          (try simp at z7)
          have bm : -1 ≤ most ∧ most ≤ 10000 := by simp at hmost; omega
          clear hmost
          go_wp2_with fail
          refine bodyPost_ret (v := .tuple #[.slice (some ⟨g, 0, none⟩) m c, .int .i64 rest, .int .i64 most]) (by simp [results, Try.results81, go_sem, *]) rfl ⟨_, _, _, es, rest, most, rfl, ?_, HNN.out, lc, cm, by omega, br, bm, Rd.mono (P := P + 1 + 2 * m + 1 + 1 + 1) (by (repeat' (first | (with_reducible assumption) | (refine Hid.out ?_; with_reducible assumption) | (with_reducible refine Rd.set ?_ (by first | omega | (simp; done) | (simp; omega) | (simp only [World.size_alloc, World.size_setCell, World.size_drew] at *; omega)) (by first | omega | (simp; done) | (simp; omega) | (simp only [World.size_alloc, World.size_setCell, World.size_drew] at *; omega))) | (with_reducible refine Rd.alloc ?_ _) | (with_reducible refine Rd.drewN ?_ _) | (with_reducible refine Rd.drew ?_)))) (by omega), by (repeat' (first | exact Only.refl _ _ | (with_reducible assumption) | (refine Hid.out ?_; with_reducible assumption) | (refine OnlyA.out ?_; refine Hid.out ?_; with_reducible assumption) | (with_reducible refine Only.setNew ?_ (by first | omega | (simp; done) | (simp; omega) | (simp only [World.size_alloc, World.size_setCell, World.size_drew] at *; omega))) | (with_reducible refine Only.alloc ?_ _) | (with_reducible refine Only.drewN ?_ _) | (with_reducible refine Only.drew ?_) | (apply Only.thenD; (with_reducible assumption)) | (apply Only.belowD; (with_reducible assumption))))⟩
          (repeat' (first | (with_reducible assumption) | (refine Hid.out ?_; with_reducible assumption) | (with_reducible refine IntsF.far ?_ (by first | omega | (simp; done) | (simp; omega) | (simp only [World.size_alloc, World.size_setCell, World.size_drew] at *; omega)) _) | (with_reducible refine IntsF.alloc ?_ _) | (with_reducible refine IntsF.drewN ?_ _) | (with_reducible refine IntsF.drew ?_) | (apply IntsF.only; (with_reducible assumption); exact (by first | omega | (simp; done) | (simp; omega) | (simp only [World.size_alloc, World.size_setCell, World.size_drew] at *; omega))) | (apply IntsF.belowD; (with_reducible assumption))))
        · subst hu
          go_wp2_with fail
          refine (pick_any B rb (P + 1 + 2 * m + 1) _ _ (by (repeat' (first | (with_reducible assumption) | (refine Hid.out ?_; with_reducible assumption) | (with_reducible refine Rd.set ?_ (by first | omega | (simp; done) | (simp; omega) | (simp only [World.size_alloc, World.size_setCell, World.size_drew] at *; omega)) (by first | omega | (simp; done) | (simp; omega) | (simp only [World.size_alloc, World.size_setCell, World.size_drew] at *; omega))) | (with_reducible refine Rd.alloc ?_ _) | (with_reducible refine Rd.drewN ?_ _) | (with_reducible refine Rd.drew ?_)))) (by omega) (by omega) (by omega)).mono ?_
          rintro e w6 ⟨t, t0, t1, rfl, hr, ho⟩
          have z6 := ho.size
          have R6 := Lib.hid hr; clear hr
          have D6 := Lib.hid ho; clear ho
          have O6 : Hid (OnlyA rb w w6) := Lib.hid (Only.trans (by (repeat' (first | exact Only.refl _ _ | (with_reducible assumption) | (refine Hid.out ?_; with_reducible assumption) | (refine OnlyA.out ?_; refine Hid.out ?_; with_reducible assumption) | (with_reducible refine Only.setNew ?_ (by first | omega | (simp; done) | (simp; omega) | (simp only [World.size_alloc, World.size_setCell, World.size_drew] at *; omega))) | (with_reducible refine Only.alloc ?_ _) | (with_reducible refine Only.drewN ?_ _) | (with_reducible refine Only.drew ?_) | (apply Only.thenD; (with_reducible assumption)) | (apply Only.belowD; (with_reducible assumption))))) D6.out)
          (try simp at z6)
          obtain ⟨i, rfl⟩ := Int.eq_ofNat_of_zero_le t0
          have hi : i < m := by omega
          have OG6 : Hid (OwnI w6 g (fl es)) := Lib.hid (OwnI.only D6 (by omega) OG5.out)
          go_wp2_with fail
          refine (one_any B rb (P + 1 + 2 * m + 1 + 1) _ _ [-1, 0, 5, 199] _ (by (repeat' (first | (with_reducible assumption) | (refine Hid.out ?_; with_reducible assumption) | (with_reducible refine Rd.set ?_ (by first | omega | (simp; done) | (simp; omega) | (simp only [World.size_alloc, World.size_setCell, World.size_drew] at *; omega)) (by first | omega | (simp; done) | (simp; omega) | (simp only [World.size_alloc, World.size_setCell, World.size_drew] at *; omega))) | (with_reducible refine Rd.alloc ?_ _) | (with_reducible refine Rd.drewN ?_ _) | (with_reducible refine Rd.drew ?_)))) (by omega) (by decide) (by decide) (by first | omega | (simp; done) | (simp; omega) | (simp only [World.size_alloc, World.size_setCell, World.size_drew] at *; omega)) (by simp) (lit_cellsG (l := [-1, 0, 5, 199]) (by simp))).mono ?_
          rintro e w7 ⟨x, hx, rfl, hr, ho⟩
          have z7 := ho.size
          have R7 := Lib.hid hr; clear hr
          have D7 := Lib.hid ho; clear ho
          have O7 : Hid (OnlyA rb w w7) := Lib.hid (Only.trans (by (repeat' (first | exact Only.refl _ _ | (with_reducible assumption) | (refine Hid.out ?_; with_reducible assumption) | (refine OnlyA.out ?_; refine Hid.out ?_; with_reducible assumption) | (with_reducible refine Only.setNew ?_ (by first | omega | (simp; done) | (simp; omega) | (simp only [World.size_alloc, World.size_setCell, World.size_drew] at *; omega))) | (with_reducible refine Only.alloc ?_ _) | (with_reducible refine Only.drewN ?_ _) | (with_reducible refine Only.drew ?_) | (apply Only.thenD; (with_reducible assumption)) | (apply Only.belowD; (with_reducible assumption))))) D7.out)
          (try simp at z7)
          have bx : -1 ≤ x ∧ x ≤ 199 := by simp at hx; omega
          clear hx
          have OG7 : Hid (OwnI w7 g (fl es)) := Lib.hid (OwnI.only D7 (by omega) (OG6.out.alloc _))
          go_wp2_with fail
          refine (one_any B rb (P + 1 + 2 * m + 1 + 1 + 1) _ _ [0, 5, 200, 201] _ (by (repeat' (first | (with_reducible assumption) | (refine Hid.out ?_; with_reducible assumption) | (with_reducible refine Rd.set ?_ (by first | omega | (simp; done) | (simp; omega) | (simp only [World.size_alloc, World.size_setCell, World.size_drew] at *; omega)) (by first | omega | (simp; done) | (simp; omega) | (simp only [World.size_alloc, World.size_setCell, World.size_drew] at *; omega))) | (with_reducible refine Rd.alloc ?_ _) | (with_reducible refine Rd.drewN ?_ _) | (with_reducible refine Rd.drew ?_)))) (by omega) (by decide) (by decide) (by first | omega | (simp; done) | (simp; omega) | (simp only [World.size_alloc, World.size_setCell, World.size_drew] at *; omega)) (by simp) (lit_cellsG (l := [0, 5, 200, 201]) (by simp))).mono ?_
          rintro e w8 ⟨y, hy, rfl, hr, ho⟩
          have z8 := ho.size
          have R8 := Lib.hid hr; clear hr
          have D8 := Lib.hid ho; clear ho
          have O8 : Hid (OnlyA rb w w8) := Lib.hid (Only.trans (by (repeat' (first | exact Only.refl _ _ | (with_reducible assumption) | (refine Hid.out ?_; with_reducible assumption) | (refine OnlyA.out ?_; refine Hid.out ?_; with_reducible assumption) | (with_reducible refine Only.setNew ?_ (by first | omega | (simp; done) | (simp; omega) | (simp only [World.size_alloc, World.size_setCell, World.size_drew] at *; omega))) | (with_reducible refine Only.alloc ?_ _) | (with_reducible refine Only.drewN ?_ _) | (with_reducible refine Only.drew ?_) | (apply Only.thenD; (with_reducible assumption)) | (apply Only.belowD; (with_reducible assumption))))) D8.out)
          (try simp at z8)
          have b_y : -1 ≤ y ∧ y ≤ 201 := by simp at hy; omega
          clear hy
          have OG8 : Hid (OwnI w8 g (fl es)) := Lib.hid (OwnI.only D8 (by omega) (OG7.out.alloc _))
          have z8 := OG8.out.1
          obtain ⟨s0, f0⟩ := OG8.out.at_ (k := i * 2) (by rw [fl_len, HNN.out]; omega)
          obtain ⟨s1, f1⟩ := OG8.out.at_ (k := i * 2 + 1) (by rw [fl_len, HNN.out]; omega)
          have q0 : (fl es)[i * 2]? = some ((fl es).getD (i * 2) 0) := getD_mem (by rw [fl_len, HNN.out]; omega)
          have q1 : ((fl es).set (i * 2) x)[i * 2 + 1]? = some (((fl es).set (i * 2) x).getD (i * 2 + 1) 0) := getD_mem (by rw [List.length_set, fl_len, HNN.out]; omega)
          have Q0 := Lib.hid q0; clear q0
          have Q1 := Lib.hid q1; clear q1
          have SN : Hid (nearD (es.set i (x, y))) := Lib.hid (fun p hp => by
            rcases List.mem_or_eq_of_mem_set hp with h | h
            · exact hes.out.2 p h
            · subst h; exact ⟨⟨by simp only; omega, by simp only; omega⟩, by simp only; omega, by simp only; omega⟩)
          go_wp2_with fail
          refine (one_any B rb (P + 1 + 2 * m + 1 + 1 + 1 + 1) _ _ [0, 1, 2, 4, 0, 3, -1, 200, 201] _ (by (repeat' (first | (with_reducible assumption) | (refine Hid.out ?_; with_reducible assumption) | (with_reducible refine Rd.set ?_ (by first | omega | (simp; done) | (simp; omega) | (simp only [World.size_alloc, World.size_setCell, World.size_drew] at *; omega)) (by first | omega | (simp; done) | (simp; omega) | (simp only [World.size_alloc, World.size_setCell, World.size_drew] at *; omega))) | (with_reducible refine Rd.alloc ?_ _) | (with_reducible refine Rd.drewN ?_ _) | (with_reducible refine Rd.drew ?_)))) (by omega) (by decide) (by decide) (by first | omega | (simp; done) | (simp; omega) | (simp only [World.size_alloc, World.size_setCell, World.size_drew] at *; omega)) (by simp) (lit_cellsG (l := [0, 1, 2, 4, 0, 3, -1, 200, 201]) (by simp))).mono ?_
          rintro e w9 ⟨rest, hrest, rfl, hr, ho⟩
          have z9 := ho.size
          have R9 := Lib.hid hr; clear hr
          have D9 := Lib.hid ho; clear ho
          have O9 : Hid (OnlyA rb w w9) := Lib.hid (Only.trans (by (repeat' (first | exact Only.refl _ _ | (with_reducible assumption) | (refine Hid.out ?_; with_reducible assumption) | (refine OnlyA.out ?_; refine Hid.out ?_; with_reducible assumption) | (with_reducible refine Only.setNew ?_ (by first | omega | (simp; done) | (simp; omega) | (simp only [World.size_alloc, World.size_setCell, World.size_drew] at *; omega))) | (with_reducible refine Only.alloc ?_ _) | (with_reducible refine Only.drewN ?_ _) | (with_reducible refine Only.drew ?_) | (apply Only.thenD; (with_reducible assumption)) | (apply Only.belowD; (with_reducible assumption))))) D9.out)
          (try simp at z9)
          have br : -1 ≤ rest ∧ rest ≤ 10000 := by simp at hrest; omega
          clear hrest
          have OG9 : Hid (OwnI w9 g (fl (es.set i (x, y)))) := Lib.hid (by rw [fl_set]; exact OwnI.only D9 (by omega) (((OG8.out.set_ Q0.out x).set_ Q1.out y).alloc _))
          have IF9 : Hid (IntsF w9 w.heap.size (some ⟨g, 0, none⟩) (m * 2) (fl (es.set i (x, y)))) := Lib.hid (IntsF.at_ (by have := OG9.out.ints SN.out.i64; rwa [fl_len, List.length_set, HNN.out] at this) hg1)
          go_wp2_with fail
          refine (one_any B rb (P + 1 + 2 * m + 1 + 1 + 1 + 1 + 1) _ _ [10, 15, 20, 30, 9999, 10000, 8, 0, -1] _ (by (repeat' (first | (with_reducible assumption) | (refine Hid.out ?_; with_reducible assumption) | (with_reducible refine Rd.set ?_ (by first | omega | (simp; done) | (simp; omega) | (simp only [World.size_alloc, World.size_setCell, World.size_drew] at *; omega)) (by first | omega | (simp; done) | (simp; omega) | (simp only [World.size_alloc, World.size_setCell, World.size_drew] at *; omega))) | (with_reducible refine Rd.alloc ?_ _) | (with_reducible refine Rd.drewN ?_ _) | (with_reducible refine Rd.drew ?_)))) (by omega) (by decide) (by decide) (by first | omega | (simp; done) | (simp; omega) | (simp only [World.size_alloc, World.size_setCell, World.size_drew] at *; omega)) (by simp) (lit_cellsG (l := [10, 15, 20, 30, 9999, 10000, 8, 0, -1]) (by simp))).mono ?_
          rintro e w0 ⟨most, hmost, rfl, hr, ho⟩
          have z0 := ho.size
          have R0 := Lib.hid hr; clear hr
          have D0 := Lib.hid ho; clear ho
          have O0 : Hid (OnlyA rb w w0) := Lib.hid (Only.trans (by (repeat' (first | exact Only.refl _ _ | (with_reducible assumption) | (refine Hid.out ?_; with_reducible assumption) | (refine OnlyA.out ?_; refine Hid.out ?_; with_reducible assumption) | (with_reducible refine Only.setNew ?_ (by first | omega | (simp; done) | (simp; omega) | (simp only [World.size_alloc, World.size_setCell, World.size_drew] at *; omega))) | (with_reducible refine Only.alloc ?_ _) | (with_reducible refine Only.drewN ?_ _) | (with_reducible refine Only.drew ?_) | (apply Only.thenD; (with_reducible assumption)) | (apply Only.belowD; (with_reducible assumption))))) D0.out)
          (try simp at z0)
          have bm : -1 ≤ most ∧ most ≤ 10000 := by simp at hmost; omega
          clear hmost
          go_wp2_with fail
          refine bodyPost_ret (v := .tuple #[.slice (some ⟨g, 0, none⟩) m c, .int .i64 rest, .int .i64 most]) (by simp [results, Try.results81, go_sem, *]) rfl ⟨_, _, _, (es.set i (x, y)), rest, most, rfl, ?_, (by rw [List.length_set]; exact HNN.out), lc, cm, by omega, br, bm, Rd.mono (P := P + 1 + 2 * m + 1 + 1 + 1 + 1 + 1 + 1) (by (repeat' (first | (with_reducible assumption) | (refine Hid.out ?_; with_reducible assumption) | (with_reducible refine Rd.set ?_ (by first | omega | (simp; done) | (simp; omega) | (simp only [World.size_alloc, World.size_setCell, World.size_drew] at *; omega)) (by first | omega | (simp; done) | (simp; omega) | (simp only [World.size_alloc, World.size_setCell, World.size_drew] at *; omega))) | (with_reducible refine Rd.alloc ?_ _) | (with_reducible refine Rd.drewN ?_ _) | (with_reducible refine Rd.drew ?_)))) (by omega), by (repeat' (first | exact Only.refl _ _ | (with_reducible assumption) | (refine Hid.out ?_; with_reducible assumption) | (refine OnlyA.out ?_; refine Hid.out ?_; with_reducible assumption) | (with_reducible refine Only.setNew ?_ (by first | omega | (simp; done) | (simp; omega) | (simp only [World.size_alloc, World.size_setCell, World.size_drew] at *; omega))) | (with_reducible refine Only.alloc ?_ _) | (with_reducible refine Only.drewN ?_ _) | (with_reducible refine Only.drew ?_) | (apply Only.thenD; (with_reducible assumption)) | (apply Only.belowD; (with_reducible assumption))))⟩
          (repeat' (first | (with_reducible assumption) | (refine Hid.out ?_; with_reducible assumption) | (with_reducible refine IntsF.far ?_ (by first | omega | (simp; done) | (simp; omega) | (simp only [World.size_alloc, World.size_setCell, World.size_drew] at *; omega)) _) | (with_reducible refine IntsF.alloc ?_ _) | (with_reducible refine IntsF.drewN ?_ _) | (with_reducible refine IntsF.drew ?_) | (apply IntsF.only; (with_reducible assumption); exact (by first | omega | (simp; done) | (simp; omega) | (simp only [World.size_alloc, World.size_setCell, World.size_drew] at *; omega))) | (apply IntsF.belowD; (with_reducible assumption))))
/-- The arguments of CrewBound were drawn. -/
def CrewDrawn (w : World) (e : Ending) (w' : World) : Prop :=
  ∃ (A : Option Addr) (n c : Nat) (ds : List (Int × Int)) (rest : Int), e = .returned (.tuple #[.slice A n c, .int .i64 rest]) ∧ DutS w' A n ds ∧ n ≤ c ∧ c ≤ maxLen ∧ n ≤ 7 ∧ (-1 ≤ rest ∧ rest ≤ 10000) ∧ Below w.heap.size w w'
set_option maxHeartbeats 2000000 in
theorem DrawCrewBound_any (len cap : Nat) (a : Option Addr) (w : World) (h : By w.heap.size w a len cap) : Calls Try.prog 33 #[.slice a len cap] w (CrewDrawn w) := by
  have H := Lib.hid h; clear h
  go_enter Try.func33, Try.ntmps33
  go_wp2_with fail
  refine (newReader_any w.heap.size _ _ _ _ (H.out.below (by (repeat' (first | (with_reducible exact Below.refl _ _) | (with_reducible refine belS ?_ (by first | omega | (simp; done) | (simp; omega) | (simp only [World.size_alloc, World.size_setCell, World.size_drew] at *; omega))) | (with_reducible refine belA ?_ (by first | omega | (simp; done) | (simp; omega) | (simp only [World.size_alloc, World.size_setCell, World.size_drew] at *; omega))) | (with_reducible refine bel_drewN ?_ _) | (with_reducible refine Below.drew ?_) | (with_reducible assumption) | (refine Hid.out ?_; with_reducible assumption) | (apply belV; (with_reducible assumption); exact (by first | omega | (simp; done) | (simp; omega) | (simp only [World.size_alloc, World.size_setCell, World.size_drew] at *; omega))))))) (by first | omega | (simp; done) | (simp; omega) | (simp only [World.size_alloc, World.size_setCell, World.size_drew] at *; omega))).mono ?_
  rintro e w1 ⟨rfl, hr, hb⟩
  have G1 : Hid (Below w.heap.size w w1) := belU hb (by (repeat' (first | (with_reducible exact Below.refl _ _) | (with_reducible refine belS ?_ (by first | omega | (simp; done) | (simp; omega) | (simp only [World.size_alloc, World.size_setCell, World.size_drew] at *; omega))) | (with_reducible refine belA ?_ (by first | omega | (simp; done) | (simp; omega) | (simp only [World.size_alloc, World.size_setCell, World.size_drew] at *; omega))) | (with_reducible refine bel_drewN ?_ _) | (with_reducible refine Below.drew ?_) | (with_reducible assumption) | (refine Hid.out ?_; with_reducible assumption) | (apply belV; (with_reducible assumption); exact (by first | omega | (simp; done) | (simp; omega) | (simp only [World.size_alloc, World.size_setCell, World.size_drew] at *; omega)))))) (by first | omega | (simp; done) | (simp; omega) | (simp only [World.size_alloc, World.size_setCell, World.size_drew] at *; omega))
  (try simp only [World.size_alloc, World.size_setCell, World.size_drew, World.heap_drewN] at hr)
  have R1 := Lib.hid hr; clear hr
  have z1 := hb.size
  (try simp at z1)
  have D1 := Lib.hid hb; clear hb
  have s1 := R1.out.2.1
  go_wp2_with fail
  refine (anyDuties_any w.heap.size _ 0 _ R1.out (by omega)).mono ?_
  rintro e w2 ⟨A, n, c, ds, rest, most, rfl, hI, hl, lc, cm, h7, br, bm, hr, ho⟩
  have z2 := ho.size
  have R2 := Lib.hid hr; clear hr
  have D2 := Lib.hid ho; clear ho
  have G2 : Hid (Below w.heap.size w w2) := Lib.hid (Below.trans (by (repeat' (first | (with_reducible exact Below.refl _ _) | (with_reducible refine belS ?_ (by first | omega | (simp; done) | (simp; omega) | (simp only [World.size_alloc, World.size_setCell, World.size_drew] at *; omega))) | (with_reducible refine belA ?_ (by first | omega | (simp; done) | (simp; omega) | (simp only [World.size_alloc, World.size_setCell, World.size_drew] at *; omega))) | (with_reducible refine bel_drewN ?_ _) | (with_reducible refine Below.drew ?_) | (with_reducible assumption) | (refine Hid.out ?_; with_reducible assumption) | (apply belV; (with_reducible assumption); exact (by first | omega | (simp; done) | (simp; omega) | (simp only [World.size_alloc, World.size_setCell, World.size_drew] at *; omega)))))) (Only.below D2.out (by first | omega | (simp; done) | (simp; omega) | (simp only [World.size_alloc, World.size_setCell, World.size_drew] at *; omega)) (by first | omega | (simp; done) | (simp; omega) | (simp only [World.size_alloc, World.size_setCell, World.size_drew] at *; omega))))
  (try simp at z2)
  (try simp only [World.size_alloc, World.size_setCell, World.size_drew, World.heap_drewN] at hI)
  have I := Lib.hid hI; clear hI
  go_wp2_with fail
  refine bodyPost_ret (v := .tuple #[.slice A n c, .int .i64 rest]) (by simp [results, Try.results33, go_sem, *]) rfl ⟨A, n, c, ds, rest, rfl, ⟨hl, I.out.out⟩, lc, cm, h7, br, by (repeat' (first | (with_reducible exact Below.refl _ _) | (with_reducible refine belS ?_ (by first | omega | (simp; done) | (simp; omega) | (simp only [World.size_alloc, World.size_setCell, World.size_drew] at *; omega))) | (with_reducible refine belA ?_ (by first | omega | (simp; done) | (simp; omega) | (simp only [World.size_alloc, World.size_setCell, World.size_drew] at *; omega))) | (with_reducible refine bel_drewN ?_ _) | (with_reducible refine Below.drew ?_) | (with_reducible assumption) | (refine Hid.out ?_; with_reducible assumption) | (apply belV; (with_reducible assumption); exact (by first | omega | (simp; done) | (simp; omega) | (simp only [World.size_alloc, World.size_setCell, World.size_drew] at *; omega)))))⟩
end Go.Proofs.Ytjbgjljcgdligab
