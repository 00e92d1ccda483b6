
/-
  The draw of a list of labels, and the comparison of two lists of labels.
-/
import Derived.Test.YtjbgjljcgdligabYc
import Derived.Test.YtjbgjljcgdligabLd
set_option linter.unusedSimpArgs false
set_option linter.unusedVariables false
namespace Go.Proofs.Ytjbgjljcgdligab
open Go.RowKit

theorem GrowL.only {rb B : Nat} {w w' : World} {e : TypeId} {v : Value} {es : List PLab} (k : Hid (Only rb w w')) (hn : rb < B) (h : GrowL w B e v es) : GrowL w' B e v es := h.keep k.out.size fun j h1 h2 => k.out.block j h2 (by omega)
theorem GrowL.lit_at {g B : Nat} (w : World) (hg : g = w.heap.size) (hB : B ≤ w.heap.size) (e : TypeId) : GrowL (w.alloc (.cells #[] e)) B e (.slice (some ⟨g, 0, none⟩) 0 0) [] := by subst hg; exact GrowL.lit0 w hB e
theorem GrowL.shape {w : World} {B : Nat} {e : TypeId} {v : Value} {es : List PLab} (h : GrowL w B e v es) : ∃ (A : Option Addr) (c : Nat), v = .slice A es.length c ∧ es.length ≤ c ∧ c ≤ maxLen := by
  rcases h.2 with ⟨rfl, h0⟩ | ⟨g, cap, cur, rfl, _, _, hn, hm, _⟩
  · exact ⟨none, 0, by rw [h0], by omega, Nat.zero_le _⟩
  · exact ⟨_, _, rfl, hn, hm⟩
theorem info_labY : (Try.prog.info? 56).map (fun i => (i.zero, i.size, i.bytes)) = some (some (.agg #[.int .i64 0, .int .i64 0, .int .i64 0, .int .i64 0, .int .i64 0]), 5, 40) := by kernel_rfl
theorem near_ok {x : PLab} (h : x.near) : x.ok := by
  obtain ⟨h0, h1, h2, h3, h4⟩ := h
  exact ⟨⟨by omega, by omega⟩, ⟨by omega, by omega⟩, ⟨by omega, by omega⟩, ⟨by omega, by omega⟩, ⟨by omega, by omega⟩⟩
theorem parO {ls : List PLab} (h : ∀ x ∈ ls, x.ok) : ∀ z ∈ flL ls, I64 z := flL_mem fun x hx => h x hx
theorem lit_cells2 {w : World} {o : Obj} {g : Nat} {l : List Int} {t : TypeId} (hg : g = w.heap.size + 1) : ∀ i, i < l.length → ((w.alloc o).alloc (.cells (l.map (Value.int .i64)).toArray t)).cell? ⟨g, i, none⟩ = some (.int .i64 (l.getD i 0)) := by
  subst hg
  intro i hi
  have := lit_cells (w := w.alloc o) (l := l) (t := t) i hi
  simpa using this
/-- A list of labels was drawn. -/
def LabListDrawn (w : World) (e : Ending) (w' : World) : Prop :=
  ∃ (A : Option Addr) (c : Nat) (ls : List PLab), ls.length ≤ 21 ∧ (∀ x ∈ ls, x.ok) ∧ e = .returned (.slice A ls.length c) ∧ ls.length ≤ c ∧ c ≤ maxLen ∧ LabS w' A ls.length ls ∧ Below w.heap.size w w'
set_option maxHeartbeats 8000000 in
set_option maxRecDepth 100000 in
theorem DrawParetoLabels_any (len cap : Nat) (a : Option Addr) (w : World) (h : By w.heap.size w a len cap) : Calls Try.prog 39 #[.slice a len cap] w (LabListDrawn w) := by
  obtain ⟨i0, hi0, hz0, hz1, hz2⟩ := info_parts info_labY
  have H := Lib.hid h; clear h
  go_enter Try.func39, Try.ntmps39
  go_wp2_with fail
  refine (newReader_any w.heap.size _ _ _ _ (H.out.below (by (repeat' (first | (with_reducible exact Below.refl _ _) | (with_reducible refine belS ?_ (by first | omega | (simp; done) | (simp; omega) | (simp only [World.size_alloc, World.size_setCell, World.size_drew] at *; omega))) | (with_reducible refine belA ?_ (by first | omega | (simp; done) | (simp; omega) | (simp only [World.size_alloc, World.size_setCell, World.size_drew] at *; omega))) | (with_reducible refine bel_drewN ?_ _) | (with_reducible refine Below.drew ?_) | (with_reducible assumption) | (refine Hid.out ?_; with_reducible assumption) | (apply belV; (with_reducible assumption); exact (by first | omega | (simp; done) | (simp; omega) | (simp only [World.size_alloc, World.size_setCell, World.size_drew] at *; omega))))))) (by first | omega | (simp; done) | (simp; omega) | (simp only [World.size_alloc, World.size_setCell, World.size_drew] at *; omega))).mono ?_
  rintro e w1 ⟨rfl, hr, hb⟩
  have G1 : Hid (Below w.heap.size w w1) := belU hb (by (repeat' (first | (with_reducible exact Below.refl _ _) | (with_reducible refine belS ?_ (by first | omega | (simp; done) | (simp; omega) | (simp only [World.size_alloc, World.size_setCell, World.size_drew] at *; omega))) | (with_reducible refine belA ?_ (by first | omega | (simp; done) | (simp; omega) | (simp only [World.size_alloc, World.size_setCell, World.size_drew] at *; omega))) | (with_reducible refine bel_drewN ?_ _) | (with_reducible refine Below.drew ?_) | (with_reducible assumption) | (refine Hid.out ?_; with_reducible assumption) | (apply belV; (with_reducible assumption); exact (by first | omega | (simp; done) | (simp; omega) | (simp only [World.size_alloc, World.size_setCell, World.size_drew] at *; omega)))))) (by first | omega | (simp; done) | (simp; omega) | (simp only [World.size_alloc, World.size_setCell, World.size_drew] at *; omega))
  (try simp only [World.size_alloc, World.size_setCell, World.size_drew, World.heap_drewN] at hr)
  have R1 := Lib.hid hr; clear hr
  have z1 := hb.size
  (try simp at z1)
  have D1 := Lib.hid hb; clear hb
  have s1 := R1.out.2.1
  go_wp2_with fail
  go_wp2_with fail
  refine (one_any w.heap.size _ 0 _ _ [0, 1, 2, 3, 4, 6, 20, 21] _ (by (repeat' (first | (with_reducible assumption) | (refine Hid.out ?_; with_reducible assumption) | (with_reducible refine Rd.set ?_ (by first | omega | (simp; done) | (simp; omega) | (simp only [World.size_alloc, World.size_setCell, World.size_drew] at *; omega)) (by first | omega | (simp; done) | (simp; omega) | (simp only [World.size_alloc, World.size_setCell, World.size_drew] at *; omega))) | (with_reducible refine Rd.alloc ?_ _) | (with_reducible refine Rd.drewN ?_ _) | (with_reducible refine Rd.drew ?_)))) (by omega) (by decide) (by decide) (by first | omega | (simp; done) | (simp; omega) | (simp only [World.size_alloc, World.size_setCell, World.size_drew] at *; omega)) (by simp) (lit_cells2 (l := [0, 1, 2, 3, 4, 6, 20, 21]) rfl)).mono ?_
  rintro e w2 ⟨n0, hn0, rfl, hr, ho⟩
  have z2 := ho.size
  have R2 := Lib.hid hr; clear hr
  have D2 := Lib.hid ho; clear ho
  have G2 : Hid (Below w.heap.size w w2) := Lib.hid (Below.trans (by (repeat' (first | (with_reducible exact Below.refl _ _) | (with_reducible refine belS ?_ (by first | omega | (simp; done) | (simp; omega) | (simp only [World.size_alloc, World.size_setCell, World.size_drew] at *; omega))) | (with_reducible refine belA ?_ (by first | omega | (simp; done) | (simp; omega) | (simp only [World.size_alloc, World.size_setCell, World.size_drew] at *; omega))) | (with_reducible refine bel_drewN ?_ _) | (with_reducible refine Below.drew ?_) | (with_reducible assumption) | (refine Hid.out ?_; with_reducible assumption) | (apply belV; (with_reducible assumption); exact (by first | omega | (simp; done) | (simp; omega) | (simp only [World.size_alloc, World.size_setCell, World.size_drew] at *; omega)))))) (Only.below D2.out (by first | omega | (simp; done) | (simp; omega) | (simp only [World.size_alloc, World.size_setCell, World.size_drew] at *; omega)) (by first | omega | (simp; done) | (simp; omega) | (simp only [World.size_alloc, World.size_setCell, World.size_drew] at *; omega))))
  (try simp at z2)
  have bn : 0 ≤ n0 ∧ n0 ≤ 21 := by simp at hn0; omega
  clear hn0
  obtain ⟨n, rfl⟩ := Int.eq_ofNat_of_zero_le bn.1
  have b21 : n ≤ 21 := by omega
  clear bn
  have GL2 : Hid (GrowL w2 (w.heap.size + 1) 56 (.slice (some ⟨w1.heap.size, 0, none⟩) 0 0) []) := Lib.hid (GrowL.only D2 (Nat.lt_succ_self _) ((GrowL.lit_at w1 rfl (by first | omega | (simp; done) | (simp; omega) | (simp only [World.size_alloc, World.size_setCell, World.size_drew] at *; omega)) _).alloc _))
  have BL2 : Hid (Below w.heap.size w w2) := G2
  go_wp2_with fail
  go_loopw [4, 5] (fun s4 s5 wr => ∃ (m : Nat) (v : Value) (ls : List PLab), m ≤ n ∧ v = s4 ∧ s5 = .int .i64 m ∧ Hid (ls.length + m = n ∧ ∀ x ∈ ls, x.ok) ∧ Hid (GrowL wr (w.heap.size + 1) 56 v ls) ∧ Hid (Rd w.heap.size wr w.heap.size (1 + 7 * ls.length)) ∧ Hid (Below w.heap.size w wr)) (fun _ s5 _ => (intOf s5).toNat)
  case atStart => exact ⟨n, _, [], Nat.le_refl _, rfl, rfl, Lib.hid ⟨by simp, by simp⟩, GL2, R2, BL2⟩
  case round =>
    obtain ⟨m, v, ls, hm, rfl, rfl, hls, hgr, hrd, hbel⟩ := hrel
    have zr := hbel.out.size
    have zrb := hrd.out.2.1
    by_cases hlt : 0 < m
    · have hll := hls.out.1
      have HLL := Lib.hid hll
      have l21 : ls.length ≤ 21 := by omega
      clear hll
      go_wp2_with fail
      refine (anyLabel_any w.heap.size w.heap.size (1 + 7 * ls.length) _ hrd.out (by omega)).mono ?_
      rintro e w3 ⟨x, nx, rfl, hr3, ho3⟩
      have NX := Lib.hid nx; clear nx
      have R3 := Lib.hid hr3
      have D3 := Lib.hid ho3
      have z3 := ho3.size
      clear hr3 ho3
      have G3 : Hid (GrowL w3 (w.heap.size + 1) 56 v ls) := Lib.hid (GrowL.only D3 (Nat.lt_succ_self _) hgr.out)
      have B3 : Hid (Below w.heap.size w w3) := Lib.hid (Below.trans hbel.out (Only.below D3.out (Nat.le_refl _) hbel.out.size))
      have zb3 := B3.out.size
      go_wp2_with (
        at_builtin
        refine wpList_append_own _ rfl (.tmp 16) (.tmp 19) 50 rfl (w.heap.size + 1) 56 i0 (.agg #[.int .i64 0, .int .i64 0, .int .i64 0, .int .i64 0, .int .i64 0]) 5 40 Try.underlying50 hi0 hz0 hz1 hz2 rfl (by decide) v _ _ rfl (G3.out.alloc _).own ⟨w3.heap.size, 0, none⟩ 1 1 [.int .i64 x.a, .int .i64 x.m, .int .i64 x.t, .int .i64 x.o, .int .i64 x.c] rfl rfl ?c1 ?c2 ?c3 ?c4 ?c5 ?_
        case c1 => intro j u hj; (rcases j with _ | _ | _ | _ | _ | j <;> simp at hj) <;> subst hj <;> simp [go_sem]
        case c2 => intro u hu; simp at hu; rcases hu with rfl | rfl | rfl | rfl | rfl <;> rfl
        case c3 => unfold maxLen; omega
        case c4 => omega
        case c5 => simp; omega
        intro v' w4 hown' hgrow _
        have hrow := hgr.out.row
        have G4 : Hid (GrowL w4 (w.heap.size + 1) 56 v' (ls ++ [x])) := Lib.hid (GrowL.snoc hown')
        have R4 : Hid (Rd w.heap.size w4 w.heap.size (1 + 7 * ls.length + 7)) := Lib.hid ((R3.out.alloc _).grown hgrow (fun j hj => by have := hrow j hj; omega))
        have B4 : Hid (Below w.heap.size w w4) := Lib.hid ((B3.out.alloc zb3 _).grown hgrow (by simp; omega) (fun j hj => by have := hrow j hj; omega))
        clear hown' hgrow hrow)
      go_roundw
      case rel => exact ⟨m - 1, _, _, by omega, rfl, by go_num, Lib.hid ⟨by rw [List.length_append]; have := HLL.out; simp; omega, fun y hy => by
          rcases List.mem_append.1 hy with h | h
          · exact hls.out.2 y h
          · simp at h; subst h; exact near_ok NX.out⟩, G4, Lib.hid (by rw [List.length_append]; exact R4.out), B4⟩
      case measure => simp [intOf]; omega
    · have hm0 : m = 0 := by omega
      subst hm0
      have hll := hls.out.1
      have LL : Hid (ls.length ≤ 21) := Lib.hid (by omega)
      clear hll
      go_wp2_with fail
      obtain ⟨A, c, rfl, lc, cm⟩ := hgr.out.shape
      obtain ⟨A', c', e, h5⟩ := hgr.out.ints
      injection e with e1 e2 e3
      subst e1
      clear e2 e3
      go_ret
      have O : OwnS wr (w.heap.size + 1) wr.heap.size A (flL ls) := by
        refine ⟨?_, (parO hls.out.2), ?_⟩
        · rcases h5 with h5 | ⟨g, e1, e2, e3⟩
          · exact .inl h5
          · exact .inr ⟨g, e1, e2, e3.1, e3⟩
        · have := LL.out; rw [flL_len]; omega
      exact ⟨A, c, ls, LL.out, hls.out.2, rfl, lc, cm, ⟨rfl, flL_len ls ▸ OwnS.ints O⟩, hbel.out⟩
end Go.Proofs.Ytjbgjljcgdligab
