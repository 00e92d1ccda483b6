
/-
  Slices of labels that grow by append; the library's search for a label.
-/
import Derived.Test.YtjbgjljcgdligabYb
set_option linter.unusedSimpArgs false
set_option linter.unusedVariables false
namespace Go.Proofs.Ytjbgjljcgdligab
open Go.RowKit

/-- v is a slice of the call's own (from block B on) whose labels are es. -/
def GrowL (w : World) (B : Nat) (e : TypeId) (v : Value) (es : List PLab) : Prop := w.ownsRow B e 5 v es.length ((flL es).map (Value.int .i64))
section
variable {w w' : World} {B : Nat} {e : TypeId} {v : Value} {es : List PLab}
theorem GrowL.nil (w : World) (B : Nat) (e : TypeId) : GrowL w B e (.slice none 0 0) [] := World.ownsRow_nil _ _ _ _
theorem GrowL.lit0 (w : World) (hB : B ≤ w.heap.size) (e : TypeId) : GrowL (w.alloc (.cells #[] e)) B e (.slice (some ⟨w.heap.size, 0, none⟩) 0 0) [] :=
  World.ownsRow_made w #[] 0 hB (Nat.zero_le _) rfl
theorem GrowL.keep (h : GrowL w B e v es) (hs : w.heap.size ≤ w'.heap.size) (hk : ∀ j, B ≤ j → j < w.heap.size → w'.heap[j]? = w.heap[j]?) : GrowL w' B e v es := by
  refine ⟨h.1, ?_⟩
  rcases h.2 with h0 | ⟨g, cap, cur, rfl, hb, hh, hr⟩
  · exact .inl h0
  · have hlt : g < w.heap.size := by
      rcases Nat.lt_or_ge g w.heap.size with h1 | h1
      · exact h1
      · rw [Array.getElem?_eq_none h1] at hh; cases hh
    exact .inr ⟨g, cap, cur, rfl, hb, (hk g hb hlt).trans hh, hr⟩
theorem GrowL.below (h : GrowL w B e v es) (hb : Below w.heap.size w w') : GrowL w' B e v es := h.keep hb.size fun j _ hj => hb.block j hj
theorem GrowL.far (h : GrowL w B e v es) {p : Addr} (hp : p.block < B) (u : Value) : GrowL (w.setCell p u) B e v es := h.keep (by simp [World.setCell]) fun j hj _ => Below.heap_setCell _ _ _ _ (by omega)
theorem GrowL.alloc (h : GrowL w B e v es) (o : Obj) : GrowL (w.alloc o) B e v es := h.below ((Below.refl _ _).alloc (Nat.le_refl _) _)
theorem GrowL.drewN (h : GrowL w B e v es) (n : Nat) : GrowL (w.drewN n) B e v es := h.keep (Nat.le_refl _) fun _ _ _ => rfl
theorem GrowL.drew (h : GrowL w B e v es) : GrowL w.drew B e v es := h.keep (Nat.le_refl _) fun _ _ _ => rfl
theorem GrowL.belowD {W : World} (hb : Hid (Below W.heap.size W w')) (h : GrowL W B e v es) : GrowL w' B e v es := h.below hb
theorem GrowL.own (h : GrowL w B e v es) : w.ownsRow B e 5 v es.length ((flL es).map (Value.int .i64)) := h
theorem GrowL.row (h : GrowL w B e v es) : ∀ k, v.ownBlock = some k → B ≤ k := fun k hk => (World.ownsRow.lt h k hk).1
theorem GrowL.snoc {x : PLab} (h : w.ownsRow B e 5 v (es.length + 1) ((flL es).map (Value.int .i64) ++ [.int .i64 x.a, .int .i64 x.m, .int .i64 x.t, .int .i64 x.o, .int .i64 x.c])) : GrowL w B e v (es ++ [x]) := by
  unfold GrowL
  rw [flL_snoc]
  simpa using h
theorem GrowL.ints (h : GrowL w B e v es) : ∃ (A : Option Addr) (c : Nat), v = .slice A es.length c ∧ (flL es = [] ∨ ∃ g, A = some ⟨g, 0, none⟩ ∧ B ≤ g ∧ OwnI w g (flL es)) := by
  rcases h.2 with ⟨rfl, h0⟩ | ⟨g, cap, cur, rfl, hb, hh, hn, hm, hcs, hxs⟩
  · have : es = [] := List.eq_nil_of_length_eq_zero h0
    subst this
    exact ⟨none, 0, rfl, .inl rfl⟩
  · have hlt : g < w.heap.size := by
      rcases Nat.lt_or_ge g w.heap.size with h1 | h1
      · exact h1
      · rw [Array.getElem?_eq_none h1] at hh; cases hh
    have hc : ∀ i x, (flL es)[i]? = some x → w.cell? ⟨g, i, none⟩ = some (.int .i64 x) := fun i x hx => by
      have hi : i < (flL es).length := (List.getElem?_eq_some_iff.1 hx).1
      rw [World.ownsRow.cellAt h i (by rw [← flL_len]; exact hi)]
      simp [hx]
    exact ⟨_, _, rfl, .inr ⟨g, rfl, hb, hlt, fun i x hx => ⟨hc i x hx, World.ownsRow.frozenAt h i⟩⟩⟩
end
/-- The result is a slice of labels of the call's own. -/
def LabsEnd (L : List PLab) (w : World) (e : Ending) (w' : World) : Prop := ∃ (A : Option Addr) (c : Nat), e = .returned (.slice A L.length c) ∧ OwnS w' w.heap.size w'.heap.size A (flL L) ∧ Below w.heap.size w w'
theorem LabsEnd.nil {L : List PLab} {w w' : World} (h : L = []) (hb : Below w.heap.size w w') : LabsEnd L w (.returned (.slice none 0 0)) w' := by subst h; exact ⟨none, 0, rfl, OwnS.nil _ _ _ _, hb⟩
theorem LabsEnd.grow {L L' : List PLab} {w w' : World} {B : Nat} {e : TypeId} {v : Value} (E : L' = L) (h : GrowL w' B e v L) (hB : w.heap.size ≤ B) (hr : ∀ x ∈ flL L', I64 x) (hl : (flL L').length ≤ 1048576) (hb : Below w.heap.size w w') : LabsEnd L' w (.returned v) w' := by
  subst E
  obtain ⟨A, c, rfl, h5⟩ := h.ints
  refine ⟨A, c, rfl, ⟨?_, hr, hl⟩, hb⟩
  rcases h5 with h5 | ⟨g, e1, e2, e3⟩
  · exact .inl h5
  · exact .inr ⟨g, e1, by omega, e3.1, e3⟩

theorem LabS.ints {w : World} {A : Option Addr} {L : List PLab} (h : Ints w A (flL L).length (flL L)) : LabS w A L.length L := ⟨rfl, flL_len L ▸ h⟩
theorem LabS.takeN {w : World} {A : Option Addr} {n k : Nat} {ls : List PLab} (h : LabS w A n ls) (hk : k ≤ n) : LabS w A k (ls.take k) := by
  obtain ⟨h1, h2, h3, h4⟩ := h
  have hf : ∀ (k : Nat) (l : List PLab), flL (l.take k) = (flL l).take (k * 5) := by
    intro k
    induction k with
    | zero => intro l; simp [flL]
    | succ k ih =>
      intro l
      cases l with
      | nil => simp [flL]
      | cons x t =>
        rw [show (k + 1) * 5 = k * 5 + 1 + 1 + 1 + 1 + 1 by omega]
        simp [flL, ih]
  refine ⟨by rw [List.length_take]; omega, by rw [hf, List.length_take, h2]; omega, fun z hz => ?_, fun hn => ?_⟩
  · rw [hf] at hz
    exact h3 z (List.mem_of_mem_take hz)
  · obtain ⟨b, off, e, hc⟩ := h4 (by omega)
    refine ⟨b, off, e, fun i z hz => hc i z ?_⟩
    rw [hf, List.getElem?_take] at hz
    by_cases hi : i < k * 5
    · rwa [if_pos hi] at hz
    · rw [if_neg hi] at hz; cases hz

set_option maxHeartbeats 4000000 in
set_option maxRecDepth 100000 in
theorem lib_IndexL (A : Option Addr) (n c : Nat) (ls : List PLab) (xa xm xt xo xc : Int) (w : World) (hI : LabS w A n ls) (hn : n ≤ 1000) :
    Calls Try.prog 143 #[.slice A n c, .agg #[.int .i64 xa, .int .i64 xm, .int .i64 xt, .int .i64 xo, .int .i64 xc]] w fun e w' => ∃ v : Int, e = .returned (.int .i64 v) ∧ -1 ≤ v ∧ v ≤ 1000 ∧ decide (0 ≤ v) = (ls.any fun y => eqLB ⟨xa, xm, xt, xo, xc⟩ y) ∧ Below w.heap.size w w' := by
  have HL := Lib.hid hI.len
  have HI := Lib.hid hI; clear hI
  go_enter Try.func143, Try.ntmps143
  go_wp2_with fail
  go_loopw [5, 8] (fun s5 s8 wr => ∃ (k : Nat) (u5 : Value), k ≤ n ∧ u5 = s5 ∧ s8 = .int .i64 k ∧ Hid (((ls.take k).any fun y => eqLB ⟨xa, xm, xt, xo, xc⟩ y) = false) ∧ Hid (Box wr w.heap.size #[.int .i64 xa, .int .i64 xm, .int .i64 xt, .int .i64 xo, .int .i64 xc]) ∧ Hid (Below w.heap.size w wr)) (fun _ s8 _ => n - (intOf s8).toNat)
  case atStart => exact ⟨0, _, by omega, rfl, rfl, Lib.hid (by simp), Box.new _ _ _ rfl, by (refine Lib.hid ?_; (repeat' (first | (with_reducible exact Below.refl _ _) | (with_reducible refine belS ?_ (by first | omega | (simp; done) | (simp; omega) | (simp only [World.size_alloc, World.size_setCell, World.size_drew] at *; omega))) | (with_reducible refine belA ?_ (by first | omega | (simp; done) | (simp; omega) | (simp only [World.size_alloc, World.size_setCell, World.size_drew] at *; omega))) | (with_reducible refine bel_drewN ?_ _) | (with_reducible refine Below.drew ?_) | (with_reducible assumption) | (refine Hid.out ?_; with_reducible assumption) | (apply belV; (with_reducible assumption); exact (by first | omega | (simp; done) | (simp; omega) | (simp only [World.size_alloc, World.size_setCell, World.size_drew] at *; omega))))))⟩
  case round =>
    obtain ⟨k, u5, hk, rfl, rfl, hal, hbox, hbel⟩ := hrel
    have z0 := hbel.out.size
    have z1 := hbox.out.1
    obtain ⟨b0, b1, b2, b3, b4⟩ := Box.facts5 hbox.out
    by_cases hlt : k < n
    · obtain ⟨bb, off, y, rfl, hb2, hy, hok, c0, c1, c2, c3, c4⟩ := (HI.out.below hbel.out).at_ hlt
      have HY := Lib.hid hy; clear hy hok
      cases hbt : eqLB ⟨xa, xm, xt, xo, xc⟩ y
      · have NX := Lib.hid (any_step HY.out hal.out hbt)
        obtain ⟨ya, ym, yt, yo, yc⟩ := y
        rcases differ hbt with e0 | ⟨e0, e1⟩ | ⟨e0, e1, e2⟩ | ⟨e0, e1, e2, e3⟩ | ⟨e0, e1, e2, e3, e4⟩
        · simp only at e0
          clear hbt
          go_wp2_with fail
          go_quiet (fail)
          go_wp2_with fail
          go_roundw
          case rel => exact ⟨k + 1, _, by omega, rfl, by go_num, NX, Lib.hid (hbox.out.drewN _), Lib.hid (bel_drewN hbel.out _)⟩
          case measure => simp [intOf]; omega
        · simp only at e0; subst e0
          simp only at e1
          clear hbt
          go_wp2_with fail
          go_quiet (fail)
          go_wp2_with fail
          go_roundw
          case rel => exact ⟨k + 1, _, by omega, rfl, by go_num, NX, Lib.hid (hbox.out.drewN _), Lib.hid (bel_drewN hbel.out _)⟩
          case measure => simp [intOf]; omega
        · simp only at e0; subst e0
          simp only at e1; subst e1
          simp only at e2
          clear hbt
          go_wp2_with fail
          go_quiet (fail)
          go_wp2_with fail
          go_roundw
          case rel => exact ⟨k + 1, _, by omega, rfl, by go_num, NX, Lib.hid (hbox.out.drewN _), Lib.hid (bel_drewN hbel.out _)⟩
          case measure => simp [intOf]; omega
        · simp only at e0; subst e0
          simp only at e1; subst e1
          simp only at e2; subst e2
          simp only at e3
          clear hbt
          go_wp2_with fail
          go_quiet (fail)
          go_wp2_with fail
          go_roundw
          case rel => exact ⟨k + 1, _, by omega, rfl, by go_num, NX, Lib.hid (hbox.out.drewN _), Lib.hid (bel_drewN hbel.out _)⟩
          case measure => simp [intOf]; omega
        · simp only at e0; subst e0
          simp only at e1; subst e1
          simp only at e2; subst e2
          simp only at e3; subst e3
          simp only at e4
          clear hbt
          go_wp2_with fail
          go_quiet (fail)
          go_wp2_with fail
          go_roundw
          case rel => exact ⟨k + 1, _, by omega, rfl, by go_num, NX, Lib.hid (hbox.out.drewN _), Lib.hid (bel_drewN hbel.out _)⟩
          case measure => simp [intOf]; omega
      · have AY := Lib.hid (any_yes (p := fun y => eqLB ⟨xa, xm, xt, xo, xc⟩ y) HY.out hbt)
        have h := eqLB_iff.1 hbt
        subst h
        clear hbt
        go_wp2_with fail
        go_quiet (fail)
        go_wp2_with fail
        go_ret
        exact ⟨(k : Int), rfl, by omega, by omega, by rw [AY.out]; simp; try omega, bel_drewN hbel.out _⟩
    · go_wp2_with fail
      go_ret
      exact ⟨-1, rfl, by omega, by omega, by rw [any_end (by rw [HL.out]; omega) hal.out]; rfl, hbel.out⟩
theorem lib_ContainsL (A : Option Addr) (n c : Nat) (ls : List PLab) (xa xm xt xo xc : Int) (w : World) (hI : LabS w A n ls) (hn : n ≤ 1000) :
    Calls Try.prog 103 #[.slice A n c, .agg #[.int .i64 xa, .int .i64 xm, .int .i64 xt, .int .i64 xo, .int .i64 xc]] w fun e w' => e = .returned (.bool (ls.any fun y => eqLB ⟨xa, xm, xt, xo, xc⟩ y)) ∧ Below w.heap.size w w' := by
  have HI := Lib.hid hI; clear hI
  go_enter Try.func103, Try.ntmps103
  go_wp2_with fail
  refine (lib_IndexL _ _ _ ls _ _ _ _ _ _ (HI.out.below (by (repeat' (first | (with_reducible exact Below.refl _ _) | (with_reducible refine belS ?_ (by first | omega | (simp; done) | (simp; omega) | (simp only [World.size_alloc, World.size_setCell, World.size_drew] at *; omega))) | (with_reducible refine belA ?_ (by first | omega | (simp; done) | (simp; omega) | (simp only [World.size_alloc, World.size_setCell, World.size_drew] at *; omega))) | (with_reducible refine bel_drewN ?_ _) | (with_reducible refine Below.drew ?_) | (with_reducible assumption) | (refine Hid.out ?_; with_reducible assumption) | (apply belV; (with_reducible assumption); exact (by first | omega | (simp; done) | (simp; omega) | (simp only [World.size_alloc, World.size_setCell, World.size_drew] at *; omega))))))) hn).mono ?_
  rintro e w1 ⟨v, rfl, v0, v1, hv, hb1⟩
  have G1 : Hid (Below w.heap.size w w1) := belU hb1 (by (repeat' (first | (with_reducible exact Below.refl _ _) | (with_reducible refine belS ?_ (by first | omega | (simp; done) | (simp; omega) | (simp only [World.size_alloc, World.size_setCell, World.size_drew] at *; omega))) | (with_reducible refine belA ?_ (by first | omega | (simp; done) | (simp; omega) | (simp only [World.size_alloc, World.size_setCell, World.size_drew] at *; omega))) | (with_reducible refine bel_drewN ?_ _) | (with_reducible refine Below.drew ?_) | (with_reducible assumption) | (refine Hid.out ?_; with_reducible assumption) | (apply belV; (with_reducible assumption); exact (by first | omega | (simp; done) | (simp; omega) | (simp only [World.size_alloc, World.size_setCell, World.size_drew] at *; omega)))))) (by first | omega | (simp; done) | (simp; omega) | (simp only [World.size_alloc, World.size_setCell, World.size_drew] at *; omega))
  clear hb1
  have HV := Lib.hid hv; clear hv
  go_wp2_with fail
  go_ret
  exact ⟨ret_b HV.out, by (repeat' (first | (with_reducible exact Below.refl _ _) | (with_reducible refine belS ?_ (by first | omega | (simp; done) | (simp; omega) | (simp only [World.size_alloc, World.size_setCell, World.size_drew] at *; omega))) | (with_reducible refine belA ?_ (by first | omega | (simp; done) | (simp; omega) | (simp only [World.size_alloc, World.size_setCell, World.size_drew] at *; omega))) | (with_reducible refine bel_drewN ?_ _) | (with_reducible refine Below.drew ?_) | (with_reducible assumption) | (refine Hid.out ?_; with_reducible assumption) | (apply belV; (with_reducible assumption); exact (by first | omega | (simp; done) | (simp; omega) | (simp only [World.size_alloc, World.size_setCell, World.size_drew] at *; omega)))))⟩
end Go.Proofs.Ytjbgjljcgdligab
