
/-
  Best choices, more: what the model's BestKnapsack answers.
-/
import Derived.Test.YtfidahpaidkhgabKb
set_option linter.unusedSimpArgs false
set_option linter.unusedVariables false
namespace Go.Proofs.Ytfidahpaidkhgab
open Go.RowKit

theorem Ints.cellAt {w : World} {b off n k : Nat} {x : Int} {xs : List Int} (h : Ints w (some ⟨b, off, none⟩) n xs) (hx : xs[k]? = some x) : w.cell? ⟨b, off + k, none⟩ = some (.int .i64 x) := by
  have hk : k < n := by have := (List.getElem?_eq_some_iff.1 hx).1; rw [h.1] at this; exact this
  obtain ⟨b', off', e, hc⟩ := h.2.2 (by omega)
  injection e with e
  injection e with e1 e2
  subst e1 e2
  exact hc k x hx
theorem spec_kt (A A' : Option Addr) (n n' c c' : Nat) (a : Int) (C : Nat) (vs ws T : List Int) (w : World) (hI : Ints w A n vs) (hJ : Ints w A' n' ws) (ha : a = C) (hn : n' = n) (hn' : n ≤ 1000) (hC : C ≤ 99) (hw : ∀ x ∈ ws, 1 ≤ x ∧ x ≤ 20) (hT : T = ktab vs ws C) :
    Calls Try.prog 47 #[.slice A n c, .slice A' n' c', .int .i64 a] w (SliceEnd T w) := by
  subst hT; exact spec_knapsackTable A A' n n' c c' a C vs ws w hI hJ ha hn hn' hC hw

theorem capParts {n c k : Nat} (h : n ≤ c) (hk : k + 1 ≤ n) : ((c = k + 1) = True ∧ Hid (k + 1 = n)) ∨ ((c = k + 1) = False ∧ Hid True) := by
  by_cases e : c = k + 1
  · exact .inl ⟨eq_true e, Lib.hid (by omega)⟩
  · exact .inr ⟨eq_false e, Lib.hid trivial⟩

set_option maxHeartbeats 16000000 in
set_option maxRecDepth 100000 in
theorem spec_bestKnapsack (A A' : Option Addr) (n n' c c' : Nat) (C : Nat) (vs ws : List Int) (w : World) (hI : Ints w A n vs) (hJ : Ints w A' n' ws) (hc : n ≤ c) (hc' : n' ≤ c') (hvl : vs.length = ws.length) (h10 : ws.length ≤ 10) (hC : C ≤ 99) (hv : ∀ x ∈ vs, 0 ≤ x ∧ x ≤ 99) (hw : ∀ x ∈ ws, 1 ≤ x ∧ x ≤ 20) :
    Calls Try.prog 49 #[.slice A n c, .slice A' n' c', .int .i64 C] w (SliceEnd (chosen vs ws C) w) := by
  obtain ⟨i0, hi0, hz0, hz1, hz2⟩ := info_parts info_int
  have hl := hI.len
  have hl' := hJ.len
  have HI := Lib.hid hI; clear hI
  have HJ := Lib.hid hJ; clear hJ
  have HVL := Lib.hid hvl
  have HV := Lib.hid hv; clear hv
  have HW := Lib.hid hw; clear hw
  have HN : Hid (n' = n) := Lib.hid (by omega)
  have HL' := Lib.hid hl'
  have l2 : n' ≤ 10 := by omega
  have l3 : n ≤ 10 := by omega
  have H10 := Lib.hid h10
  clear hl hl' hvl h10
  go_enter Try.func49, Try.ntmps49
  go_wp2_with fail
  go_loopw [7, 8, 9, 10, 11] (fun s7 s8 s9 s10 s11 wr => ∃ (k r : Nat) (v u10 u11 : Value), k ≤ n ∧ v = s7 ∧ s8 = .int .i64 r ∧ s9 = .int .i64 k ∧ s10 = u10 ∧ s11 = u11 ∧ r ≤ C ∧ Hid (r = room vs ws C k) ∧ Hid (Grow wr w.heap.size 3 v (idxs (takes vs ws C) k)) ∧ Hid (Below w.heap.size w wr)) (fun _ _ s9 _ _ _ => n - (intOf s9).toNat)
  case atStart => exact ⟨0, C, _, _, _, by omega, rfl, rfl, rfl, rfl, rfl, Nat.le_refl _, rfl, Lib.hid (by simpa [idxs] using Grow.lit0 w (Nat.le_refl _) 3), by (refine Lib.hid ?_; (repeat' (first | (with_reducible exact Below.refl _ _) | (with_reducible refine belS ?_ (by first | omega | (simp; done) | (simp; omega) | (simp only [World.size_alloc, World.size_setCell, World.size_drew] at *; omega))) | (with_reducible refine belA ?_ (by first | omega | (simp; done) | (simp; omega) | (simp only [World.size_alloc, World.size_setCell, World.size_drew] at *; omega))) | (with_reducible refine bel_drewN ?_ _) | (with_reducible refine Below.drew ?_) | (with_reducible assumption) | (refine Hid.out ?_; with_reducible assumption) | (apply belV; (with_reducible assumption); exact (by first | omega | (simp; done) | (simp; omega) | (simp only [World.size_alloc, World.size_setCell, World.size_drew] at *; omega))))))⟩
  case round =>
    obtain ⟨k, r, v, u10, u11, hk, rfl, rfl, rfl, rfl, rfl, hrC, hroom, hgr, hbel⟩ := hrel
    have zr := hbel.out.size
    by_cases hlt : k < n
    · have hkn' : k < n' := by have := HN.out; omega
      have HJ1 : Ints wr A' n' ws := HJ.out.below (by (repeat' (first | (with_reducible exact Below.refl _ _) | (with_reducible refine belS ?_ (by first | omega | (simp; done) | (simp; omega) | (simp only [World.size_alloc, World.size_setCell, World.size_drew] at *; omega))) | (with_reducible refine belA ?_ (by first | omega | (simp; done) | (simp; omega) | (simp only [World.size_alloc, World.size_setCell, World.size_drew] at *; omega))) | (with_reducible refine bel_drewN ?_ _) | (with_reducible refine Below.drew ?_) | (with_reducible assumption) | (refine Hid.out ?_; with_reducible assumption) | (apply belV; (with_reducible assumption); exact (by first | omega | (simp; done) | (simp; omega) | (simp only [World.size_alloc, World.size_setCell, World.size_drew] at *; omega))))))
      obtain ⟨b', off', x, rfl, hb', hx, hxlo, hxhi, _⟩ := HJ1.at_ hkn'
      obtain ⟨x1, x2⟩ := HW.out x (List.mem_of_getElem? hx)
      obtain ⟨W, rfl⟩ := Int.eq_ofNat_of_zero_le (show 0 ≤ x by omega)
      have HX := Lib.hid hx; clear hx
      have HI1 : Ints wr A n vs := HI.out.below (by (repeat' (first | (with_reducible exact Below.refl _ _) | (with_reducible refine belS ?_ (by first | omega | (simp; done) | (simp; omega) | (simp only [World.size_alloc, World.size_setCell, World.size_drew] at *; omega))) | (with_reducible refine belA ?_ (by first | omega | (simp; done) | (simp; omega) | (simp only [World.size_alloc, World.size_setCell, World.size_drew] at *; omega))) | (with_reducible refine bel_drewN ?_ _) | (with_reducible refine Below.drew ?_) | (with_reducible assumption) | (refine Hid.out ?_; with_reducible assumption) | (apply belV; (with_reducible assumption); exact (by first | omega | (simp; done) | (simp; omega) | (simp only [World.size_alloc, World.size_setCell, World.size_drew] at *; omega))))))
      obtain ⟨bv, offv, y, rfl, hbv, hv, _, _, _⟩ := HI1.at_ hlt
      obtain ⟨y1, y2⟩ := HV.out y (List.mem_of_getElem? hv)
      have HY := Lib.hid hv; clear hv
      have DI := Lib.hid HI1
      have DJ := Lib.hid HJ1
      clear HJ1 HI1
      have hwk : IntKind.i64.wrap ((k : Int) + 1) = (k : Int) + 1 := IntWalk.i64_in _ ⟨by omega, by omega⟩
      have k0 : (0 : Int) ≤ (k : Int) + 1 := by omega
      have k1 : (k : Int) + 1 ≤ (n : Int) := by omega
      have k2 : (k : Int) + 1 ≤ (n' : Int) := by omega
      have k3 : ((k : Int) + 1).toNat = k + 1 := by omega
      have k4 : (0 : Int) ≤ (k : Int) := by omega
      have k5 : (k : Int) ≤ (n : Int) := by omega
      have k6 : (k : Int) ≤ (n' : Int) := by omega
      have k7 : ¬ c = k := by omega
      have k8 : ¬ c' = k := by omega
      have hil := idxs_len (takes vs ws C) k
      obtain ⟨T, hT⟩ : ∃ T, T = ktab (vs.drop k) (ws.drop k) r := ⟨_, rfl⟩
      have t1 : r < T.length := by rw [hT, ktab_len]; omega
      have t2 : T.length ≤ 1000 := by rw [hT, ktab_len]; omega
      have t3 : T.getD r 0 = bAt vs ws k r := by
        rw [hT]; exact ktab_at (by rw [List.length_drop, List.length_drop, HVL.out]) (fun x hx => HV.out x (List.mem_of_mem_drop hx)) (fun x hx => HW.out x (List.mem_of_mem_drop hx)) (by rw [List.length_drop]; have := H10.out; omega) (Nat.le_refl _)
      have HT := Lib.hid hT; clear hT
      have HT3 := Lib.hid t3; clear t3
      go_wp2_with fail
      go_region_held3 (fun w' => True) (exact trivial)
        ((first
          | (go_at_call 47; refine (spec_kt _ _ _ _ _ _ _ r (vs.drop k) (ws.drop k) T _ ((DI.out.below (by (repeat' (first | (with_reducible exact Below.refl _ _) | (with_reducible refine belS ?_ (by first | omega | (simp; done) | (simp; omega) | (simp only [World.size_alloc, World.size_setCell, World.size_drew] at *; omega))) | (with_reducible refine belA ?_ (by first | omega | (simp; done) | (simp; omega) | (simp only [World.size_alloc, World.size_setCell, World.size_drew] at *; omega))) | (with_reducible refine bel_drewN ?_ _) | (with_reducible refine Below.drew ?_) | (with_reducible assumption) | (refine Hid.out ?_; with_reducible assumption) | (apply belV; (with_reducible assumption); exact (by first | omega | (simp; done) | (simp; omega) | (simp only [World.size_alloc, World.size_setCell, World.size_drew] at *; omega))))))).dropA (by omega) (by first | exact .inl rfl | exact .inr (by omega))) ((DJ.out.below (by (repeat' (first | (with_reducible exact Below.refl _ _) | (with_reducible refine belS ?_ (by first | omega | (simp; done) | (simp; omega) | (simp only [World.size_alloc, World.size_setCell, World.size_drew] at *; omega))) | (with_reducible refine belA ?_ (by first | omega | (simp; done) | (simp; omega) | (simp only [World.size_alloc, World.size_setCell, World.size_drew] at *; omega))) | (with_reducible refine bel_drewN ?_ _) | (with_reducible refine Below.drew ?_) | (with_reducible assumption) | (refine Hid.out ?_; with_reducible assumption) | (apply belV; (with_reducible assumption); exact (by first | omega | (simp; done) | (simp; omega) | (simp only [World.size_alloc, World.size_setCell, World.size_drew] at *; omega))))))).dropA (by omega) (by first | exact .inl rfl | exact .inr (by omega))) (by omega) (by have := HN.out; omega) (by omega) (by omega) (fun x hx => HW.out x (List.mem_of_mem_drop hx)) HT.out).mono ?_; rintro e w1 ⟨A1, d1, rfl, ho, hb⟩; have G1 : Hid (Below w.heap.size w w1) := belU hb (by (repeat' (first | (with_reducible exact Below.refl _ _) | (with_reducible refine belS ?_ (by first | omega | (simp; done) | (simp; omega) | (simp only [World.size_alloc, World.size_setCell, World.size_drew] at *; omega))) | (with_reducible refine belA ?_ (by first | omega | (simp; done) | (simp; omega) | (simp only [World.size_alloc, World.size_setCell, World.size_drew] at *; omega))) | (with_reducible refine bel_drewN ?_ _) | (with_reducible refine Below.drew ?_) | (with_reducible assumption) | (refine Hid.out ?_; with_reducible assumption) | (apply belV; (with_reducible assumption); exact (by first | omega | (simp; done) | (simp; omega) | (simp only [World.size_alloc, World.size_setCell, World.size_drew] at *; omega)))))) (by first | omega | (simp; done) | (simp; omega) | (simp only [World.size_alloc, World.size_setCell, World.size_drew] at *; omega)); (try simp only [World.size_alloc, World.size_setCell, World.size_drew, World.heap_drewN] at ho); have W1 := Lib.hid ho; clear ho; have z1 := hb.size; (try simp at z1); obtain ⟨hc1, hf1⟩ := bcell hb; have D1 := Lib.hid hb; clear hb)))
      have cW := (DJ.out.below (w' := w1) (by (repeat' (first | (with_reducible exact Below.refl _ _) | (with_reducible refine belS ?_ (by first | omega | (simp; done) | (simp; omega) | (simp only [World.size_alloc, World.size_setCell, World.size_drew] at *; omega))) | (with_reducible refine belA ?_ (by first | omega | (simp; done) | (simp; omega) | (simp only [World.size_alloc, World.size_setCell, World.size_drew] at *; omega))) | (with_reducible refine bel_drewN ?_ _) | (with_reducible refine Below.drew ?_) | (with_reducible assumption) | (refine Hid.out ?_; with_reducible assumption) | (apply belV; (with_reducible assumption); exact (by first | omega | (simp; done) | (simp; omega) | (simp only [World.size_alloc, World.size_setCell, World.size_drew] at *; omega))))))).cellAt HX.out
      have GB1 : Hid (Below w.heap.size w w1) := G1
      have R1 : Hid (Grow w1 w.heap.size 3 v (idxs (takes vs ws C) k)) := Lib.hid (by first | exact Grow.belowD D1 hgr.out.drew | exact Grow.belowD D1 hgr.out | exact Grow.belowD D1 (hgr.out.drewN _))
      by_cases hge : W ≤ r
      · obtain ⟨q, hq⟩ : ∃ q : Nat, q = r - W := ⟨_, rfl⟩
        have HQ := Lib.hid hq
        have eqw : IntKind.i64.wrap ((r : Int) - (W : Int)) = (q : Int) := by rw [IntWalk.i64_in _ ⟨by omega, by omega⟩]; omega
        have eqv : (r : Int) - (W : Int) = (q : Int) := by omega
        have hq0 : (0 : Int) ≤ (q : Int) := by omega
        have eqq : IntKind.i64.wrap (q : Int) = (q : Int) := IntWalk.i64_in _ ⟨by omega, by omega⟩
        clear hq
        obtain ⟨T2, hT2⟩ : ∃ T2, T2 = ktab (vs.drop (k + 1)) (ws.drop (k + 1)) q := ⟨_, rfl⟩
        have u1 : q < T2.length := by rw [hT2, ktab_len]; omega
        have u2 : T2.length ≤ 1000 := by rw [hT2, ktab_len]; omega
        have u3 : T2.getD q 0 = bAt vs ws (k + 1) q := by
          rw [hT2]; exact ktab_at (by rw [List.length_drop, List.length_drop, HVL.out]) (fun x hx => HV.out x (List.mem_of_mem_drop hx)) (fun x hx => HW.out x (List.mem_of_mem_drop hx)) (by rw [List.length_drop]; have := H10.out; omega) (Nat.le_refl _)
        have HT2 := Lib.hid hT2; clear hT2
        have HU3 := Lib.hid u3; clear u3
        obtain ⟨bT, oT, m, rfl, hbT, hm, _, _, _⟩ := (OwnS.ints W1.out).at_ t1
        have HMT := Lib.hid hm
        have hmm : m = bAt vs ws k r := by rw [← HT3.out, getD_of hm]
        have hmb := bAt_bd HV.out H10.out k r
        rw [← hmm] at hmb
        obtain ⟨hm0, hm1⟩ := hmb
        have HM := Lib.hid hmm
        clear hm hmm
        have RT1 : Hid (Ints w1 (some ⟨bT, oT, none⟩) T.length T) := Lib.hid (OwnS.ints W1.out)
        rcases capParts (k := k) hc (by omega) with ⟨d1', X1⟩ | ⟨d1', X1⟩ <;> rcases capParts (k := k) hc' (by omega) with ⟨d2', X2⟩ | ⟨d2', X2⟩
        all_goals
          go_wp2_with fail
          go_region_held3 (fun w' => w'.cell? ⟨b', off' + k, none⟩ = some (.int .i64 (W : Int))) (first | assumption | (simp only [World.cell?_drew, World.cell?_drewN]; assumption))
            ((first
              | (go_at_call 47; refine (spec_kt _ _ _ _ _ _ _ q (vs.drop (k + 1)) (ws.drop (k + 1)) T2 _ ((HI.out.below (by (repeat' (first | (with_reducible exact Below.refl _ _) | (with_reducible refine belS ?_ (by first | omega | (simp; done) | (simp; omega) | (simp only [World.size_alloc, World.size_setCell, World.size_drew] at *; omega))) | (with_reducible refine belA ?_ (by first | omega | (simp; done) | (simp; omega) | (simp only [World.size_alloc, World.size_setCell, World.size_drew] at *; omega))) | (with_reducible refine bel_drewN ?_ _) | (with_reducible refine Below.drew ?_) | (with_reducible assumption) | (refine Hid.out ?_; with_reducible assumption) | (apply belV; (with_reducible assumption); exact (by first | omega | (simp; done) | (simp; omega) | (simp only [World.size_alloc, World.size_setCell, World.size_drew] at *; omega))))))).dropA (by omega) (by first | exact .inl rfl | exact .inr X1.out)) ((HJ.out.below (by (repeat' (first | (with_reducible exact Below.refl _ _) | (with_reducible refine belS ?_ (by first | omega | (simp; done) | (simp; omega) | (simp only [World.size_alloc, World.size_setCell, World.size_drew] at *; omega))) | (with_reducible refine belA ?_ (by first | omega | (simp; done) | (simp; omega) | (simp only [World.size_alloc, World.size_setCell, World.size_drew] at *; omega))) | (with_reducible refine bel_drewN ?_ _) | (with_reducible refine Below.drew ?_) | (with_reducible assumption) | (refine Hid.out ?_; with_reducible assumption) | (apply belV; (with_reducible assumption); exact (by first | omega | (simp; done) | (simp; omega) | (simp only [World.size_alloc, World.size_setCell, World.size_drew] at *; omega))))))).dropA (by omega) (by first | exact .inl rfl | exact .inr X2.out)) (by omega) (by have := HN.out; omega) (by omega) (by omega) (fun x hx => HW.out x (List.mem_of_mem_drop hx)) HT2.out).mono ?_; rintro e w2 ⟨A2, d2, rfl, ho, hb⟩; have G2 : Hid (Below w.heap.size w w2) := belU hb (by (repeat' (first | (with_reducible exact Below.refl _ _) | (with_reducible refine belS ?_ (by first | omega | (simp; done) | (simp; omega) | (simp only [World.size_alloc, World.size_setCell, World.size_drew] at *; omega))) | (with_reducible refine belA ?_ (by first | omega | (simp; done) | (simp; omega) | (simp only [World.size_alloc, World.size_setCell, World.size_drew] at *; omega))) | (with_reducible refine bel_drewN ?_ _) | (with_reducible refine Below.drew ?_) | (with_reducible assumption) | (refine Hid.out ?_; with_reducible assumption) | (apply belV; (with_reducible assumption); exact (by first | omega | (simp; done) | (simp; omega) | (simp only [World.size_alloc, World.size_setCell, World.size_drew] at *; omega)))))) (by first | omega | (simp; done) | (simp; omega) | (simp only [World.size_alloc, World.size_setCell, World.size_drew] at *; omega)); (try simp only [World.size_alloc, World.size_setCell, World.size_drew, World.heap_drewN] at ho); have W2 := Lib.hid ho; clear ho; have z2 := hb.size; (try simp at z2); obtain ⟨hc2, hf2⟩ := bcell hb; (try have yv2_w1 : w1.heap.size < w2.heap.size := by omega); have D2 := Lib.hid hb; clear hb; have cW2 := (HJ.out.below (w' := w2) (by (repeat' (first | (with_reducible exact Below.refl _ _) | (with_reducible refine belS ?_ (by first | omega | (simp; done) | (simp; omega) | (simp only [World.size_alloc, World.size_setCell, World.size_drew] at *; omega))) | (with_reducible refine belA ?_ (by first | omega | (simp; done) | (simp; omega) | (simp only [World.size_alloc, World.size_setCell, World.size_drew] at *; omega))) | (with_reducible refine bel_drewN ?_ _) | (with_reducible refine Below.drew ?_) | (with_reducible assumption) | (refine Hid.out ?_; with_reducible assumption) | (apply belV; (with_reducible assumption); exact (by first | omega | (simp; done) | (simp; omega) | (simp only [World.size_alloc, World.size_setCell, World.size_drew] at *; omega))))))).cellAt HX.out)))
          have R2 : Hid (Grow w2 w.heap.size 3 v (idxs (takes vs ws C) k)) := Lib.hid (by first | exact Grow.belowD D2 R1.out.drew | exact Grow.belowD D2 R1.out | exact Grow.belowD D2 (R1.out.drewN _))
          have cV2 := (HI.out.below (w' := w2) (by (repeat' (first | (with_reducible exact Below.refl _ _) | (with_reducible refine belS ?_ (by first | omega | (simp; done) | (simp; omega) | (simp only [World.size_alloc, World.size_setCell, World.size_drew] at *; omega))) | (with_reducible refine belA ?_ (by first | omega | (simp; done) | (simp; omega) | (simp only [World.size_alloc, World.size_setCell, World.size_drew] at *; omega))) | (with_reducible refine bel_drewN ?_ _) | (with_reducible refine Below.drew ?_) | (with_reducible assumption) | (refine Hid.out ?_; with_reducible assumption) | (apply belV; (with_reducible assumption); exact (by first | omega | (simp; done) | (simp; omega) | (simp only [World.size_alloc, World.size_setCell, World.size_drew] at *; omega))))))).cellAt HY.out
          have cT2 := (RT1.out.below (w' := w2) (belU D2.out (by (repeat' (first | (with_reducible exact Below.refl _ _) | (with_reducible refine belS ?_ (by first | omega | (simp; done) | (simp; omega) | (simp only [World.size_alloc, World.size_setCell, World.size_drew] at *; omega))) | (with_reducible refine belA ?_ (by first | omega | (simp; done) | (simp; omega) | (simp only [World.size_alloc, World.size_setCell, World.size_drew] at *; omega))) | (with_reducible refine bel_drewN ?_ _) | (with_reducible refine Below.drew ?_) | (with_reducible assumption) | (refine Hid.out ?_; with_reducible assumption) | (apply belV; (with_reducible assumption); exact (by first | omega | (simp; done) | (simp; omega) | (simp only [World.size_alloc, World.size_setCell, World.size_drew] at *; omega)))))) (by first | omega | (simp; done) | (simp; omega) | (simp only [World.size_alloc, World.size_setCell, World.size_drew] at *; omega)))).cellAt HMT.out
          obtain ⟨b2, o2, L, rfl, hb2, hL, _, _, hcL⟩ := (OwnS.ints W2.out).at_ u1
          have hLL : L = bAt vs ws (k + 1) q := by rw [← HU3.out, getD_of hL]
          have hLb := bAt_bd HV.out H10.out (k + 1) q
          rw [← hLL] at hLb
          obtain ⟨hL0, hL1⟩ := hLb
          have HLL := Lib.hid hLL
          clear hL hLL
          by_cases hyl : L + y = m
          · have TK := Lib.hid (takes_eq hroom.out HX.out HY.out hge (by rw [← HQ.out, ← HLL.out, ← HM.out]; exact hyl))
            have e9 : ((L + y : Int) == m) = true := by simp [hyl]
            clear hyl
            go_wp2_with fail
            go_quiet (fail)
            have R3 : Hid (Grow (w2.drewN nq) w.heap.size 3 v (idxs (takes vs ws C) k)) := Lib.hid (R2.out.drewN _)
            have G3 : Hid (Below w.heap.size w (w2.drewN nq)) := Lib.hid (bel_drewN G2.out _)
            have z3 : w.heap.size ≤ (w2.drewN nq).heap.size := G3.out.size
            generalize w2.drewN nq = w3 at R3 G3 z3 ⊢
            go_wp2_with (
              at_builtin
              refine wpList_append_own _ rfl (.tmp 68) (.tmp 70) 23 rfl w.heap.size 3 i0 (.int .i64 0) 1 8 Try.underlying23 hi0 hz0 hz1 hz2 rfl (by decide) v _ _ rfl (R3.out.alloc _).own ⟨w3.heap.size, 0, none⟩ 1 1 [.int .i64 k] rfl rfl ?c1 ?c2 ?c3 ?c4 ?c5 ?_
              case c1 => intro j u hj; (rcases j with _ | j <;> simp at hj); subst hj; simp [go_sem]
              case c2 => intro u hu; simp at hu; subst hu; rfl
              case c3 => unfold maxLen; omega
              case c4 => omega
              case c5 => simp; omega
              intro v' w4 hown' hgrow _
              have R4 : Hid (Grow w4 w.heap.size 3 v' (idxs (takes vs ws C) (k + 1))) := Lib.hid (by rw [idxs_yes TK.out]; exact Grow.snoc hown')
              have G4 : Hid (Below w.heap.size w w4) := Lib.hid (Below.grown (G3.out.alloc (by omega) _) hgrow (by simp; omega) (fun j hj => by have := R3.out.row j hj; omega))
              have cW4 := (HJ.out.below (w' := w4) G4.out).cellAt HX.out
              clear hown' hgrow)
            go_roundw
            case rel => first | exact ⟨_, _, _, _, _, ⟨k + 1, by omega, q, rfl, by go_num, by omega, Lib.hid (by rw [room_yes TK.out, ← hroom.out, getD_of HX.out, Int.toNat_natCast]; exact HQ.out), R4⟩, rfl, (by first | rfl | (congr 1; omega)), rfl, rfl, rfl⟩ | exact ⟨k + 1, q, _, _, _, by omega, rfl, (by first | rfl | (congr 1; omega)), by go_num, rfl, rfl, by omega, Lib.hid (by rw [room_yes TK.out, ← hroom.out, getD_of HX.out, Int.toNat_natCast]; exact HQ.out), R4, G4⟩
            case measure => simp [intOf]; omega
          · have TK := Lib.hid (takes_ne hroom.out HX.out HY.out (by rw [← HQ.out, ← HLL.out, ← HM.out]; exact hyl))
            have e9 : ((L + y : Int) == m) = false := by simp [hyl]
            clear hyl
            go_wp2_with fail
            go_quiet (fail)
            go_wp2_with fail
            go_roundw
            case rel => first | exact ⟨_, _, _, _, _, ⟨k + 1, by omega, r, rfl, by go_num, hrC, Lib.hid (by rw [room_no TK.out]; exact hroom.out), Lib.hid (by rw [idxs_no TK.out]; exact R2.out.drewN _), Lib.hid (bel_drewN G2.out _)⟩, rfl, rfl, rfl, rfl, rfl⟩ | exact ⟨k + 1, r, _, _, _, by omega, rfl, rfl, by go_num, rfl, rfl, hrC, Lib.hid (by rw [room_no TK.out]; exact hroom.out), Lib.hid (by rw [idxs_no TK.out]; exact R2.out.drewN _), Lib.hid (bel_drewN G2.out _)⟩
            case measure => simp [intOf]; omega
      · have T0 := Lib.hid (takes_big hroom.out HX.out HY.out hge)
        go_wp2_with fail
        go_roundw
        case rel =>
          first
            | exact ⟨k + 1, r, _, _, _, by omega, rfl, rfl, by go_num, rfl, rfl, hrC, Lib.hid (by rw [room_no T0.out]; exact hroom.out), Lib.hid (by rw [idxs_no T0.out]; exact R1.out), GB1⟩
            | exact (rfl : (7 : Nat) = 7)
        case measure => simp [intOf]; omega
    · have hke : k = n := by omega
      subst hke
      have R := hgr.out
      rw [← HN.out, ← HL'.out] at R
      have RR : Hid (Grow wr w.heap.size 3 v (chosen vs ws C)) := Lib.hid R
      clear R
      have hbel' := hbel.out
      go_wp2_with fail
      go_ret
      exact SliceEnd.grow RR.out (Nat.le_refl _) (chosen_bd H10.out).1 (chosen_bd H10.out).2 hbel'
end Go.Proofs.Ytfidahpaidkhgab
