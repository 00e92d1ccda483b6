
/-
  Best choices: what the program's BestKnapsack answers.
-/
import Derived.Test.YtfidahpaidkhgabKu
import Derived.Test.YtfidahpaidkhgabQ6
set_option linter.unusedSimpArgs false
set_option linter.unusedVariables false
namespace Go.Proofs.Ytfidahpaidkhgab
open Go.RowKit

/-- The result is a slice of the call's own and a number. -/
def PairI (L : List Int) (x : Int) (w : World) (e : Ending) (w' : World) : Prop := ∃ (A : Option Addr) (c : Nat), e = .returned (.tuple #[.slice A L.length c, .int .i64 x]) ∧ OwnS w' w.heap.size w'.heap.size A L ∧ Below w.heap.size w w'
theorem PairI.nil {L : List Int} {x y : Int} {w w' : World} (h : L = [] ∧ x = y) (hb : Below w.heap.size w w') : PairI L x w (.returned (.tuple #[.slice none 0 0, .int .i64 y])) w' := by
  obtain ⟨rfl, rfl⟩ := h; exact ⟨none, 0, rfl, OwnS.nil _ _ _ _, hb⟩
theorem PairI.grow {L L' : List Int} {x y : Int} {w w' : World} {B : Nat} {e : TypeId} {v : Value} (E : L' = L ∧ y = x) (h : Grow w' B e v L) (hB : w.heap.size ≤ B) (hr : (∀ x ∈ L, I64 x) ∧ L.length ≤ 1048576) (hb : Below w.heap.size w w') : PairI L' y w (.returned (.tuple #[v, .int .i64 x])) w' := by
  obtain ⟨rfl, rfl⟩ := E
  obtain ⟨A, c, rfl, _, _, _, h5⟩ := h.ints hr.1
  refine ⟨A, c, rfl, ⟨?_, hr⟩, hb⟩
  rcases h5 with h5 | ⟨g, e1, e2, e3⟩
  · exact .inl h5
  · exact .inr ⟨g, e1, by omega, e3.1, e3⟩

theorem impl_bestValueB (A A' : Option Addr) (n n' c c' : Nat) (a : Int) (C : Nat) (vs ws : List Int) (z : Int) (w : World) (hI : Ints w A n vs) (hJ : Ints w A' n' ws) (ha : a = C) (hn : n' = n) (h10 : n' ≤ 10) (hC : C ≤ 99) (hv : ∀ x ∈ vs, 0 ≤ x ∧ x ≤ 99) (hw : ∀ x ∈ ws, 1 ≤ x ∧ x ≤ 20) (hz : z = best vs ws C) :
    Calls Try.prog 48 #[.slice A n c, .slice A' n' c', .int .i64 a] w fun e w' => e = .returned (.int .i64 z) ∧ Below w.heap.size w w' := by
  have e : (ktab vs ws C).getD C 0 = z := by
    rw [hz]
    exact ktab_at (by rw [hI.len, hJ.len, hn]) hv hw (by rw [hJ.len]; exact h10) (Nat.le_refl _)
  rw [← e]
  exact impl_bestValue A A' n n' c c' a C vs ws w hI hJ ha (by omega) (by omega) hC hw

set_option maxHeartbeats 8000000 in
set_option maxRecDepth 100000 in
theorem impl_BestKnapsack (A A' : Option Addr) (n n' c c' : Nat) (a : Int) (vs ws : List Int) (w : World) (hI : Ints w A n vs) (hJ : Ints w A' n' ws) (hn : n ≤ maxLen) (hn' : n' ≤ maxLen) (hc : n ≤ c) (hc' : n' ≤ c') :
    Calls Try.prog 16 #[.slice A n c, .slice A' n' c', .int .i64 a] w (PairI (kBestL vs ws a) (kBestV vs ws a) w) := by
  obtain ⟨i0, hi0, hz0, hz1, hz2⟩ := info_parts info_int
  have hl := hI.len
  have hl' := hJ.len
  have HI := Lib.hid hI; clear hI
  have HJ := Lib.hid hJ; clear hJ
  cases h1 : vItems vs ws a
  · have E := Lib.hid (kBest_1 h1)
    clear hl hl'
    go_enter Try.func16, Try.ntmps16
    go_wp2_with (go_at_call 44; ((with_reducible refine (impl_validItems _ _ _ _ _ _ _ vs ws _ HI.out HJ.out hn hn').mono ?_); rintro e w' ⟨rfl, rfl⟩))
    go_ret2
    exact PairI.nil E.out (by (repeat' (first | (with_reducible exact Below.refl _ _) | (with_reducible refine belS ?_ (by first | omega | (simp; done) | (simp; omega) | (simp only [World.size_alloc, World.size_setCell, World.size_drew] at *; omega))) | (with_reducible refine belA ?_ (by first | omega | (simp; done) | (simp; omega) | (simp only [World.size_alloc, World.size_setCell, World.size_drew] at *; omega))) | (with_reducible refine bel_drewN ?_ _) | (with_reducible refine Below.drew ?_) | (with_reducible assumption) | (refine Hid.out ?_; with_reducible assumption) | (apply belV; (with_reducible assumption); exact (by first | omega | (simp; done) | (simp; omega) | (simp only [World.size_alloc, World.size_setCell, World.size_drew] at *; omega))))))
  · obtain ⟨f1, f2, f0⟩ := vItems_facts h1
    obtain ⟨f3, f4, f5, f6⟩ := vWts_facts f2
    have HVL := Lib.hid f1
    have HV := Lib.hid f0; clear f0
    have HW := Lib.hid f4; clear f4
    obtain ⟨C, rfl⟩ := Int.eq_ofNat_of_zero_le f5
    have E : Hid (kBestL vs ws C = chosen vs ws C ∧ kBestV vs ws C = best vs ws C) := kBest_2 h1
    have HN : Hid (n' = n) := Lib.hid (by omega)
    have HL' := Lib.hid hl'
    have l2 : n' ≤ 10 := by omega
    have l3 : n ≤ 10 := by omega
    have H10 := Lib.hid f3
    clear hl hl' f1 f2 f3
    have hbb := bAt_bd HV.out H10.out 0 C
    rw [bAt_zero] at hbb
    obtain ⟨z, hz⟩ : ∃ z, z = best vs ws C := ⟨_, rfl⟩
    rw [← hz] at hbb
    obtain ⟨hb0, hb1⟩ := hbb
    have HZ := Lib.hid hz; clear hz
    go_enter Try.func16, Try.ntmps16
    go_wp2_with (go_at_call 44; ((with_reducible refine (impl_validItems _ _ _ _ _ _ _ vs ws _ HI.out HJ.out hn hn').mono ?_); rintro e w' ⟨rfl, rfl⟩))
    refine (impl_bestValueB _ _ _ _ _ _ _ C vs ws z _ HI.out HJ.out rfl HN.out l2 (by omega) HV.out HW.out HZ.out).mono ?_
    rintro e w1 ⟨rfl, hb⟩
    have z1 := hb.size
    have G1 := Lib.hid hb; clear hb
    go_wp2_with fail
    go_loopw [9, 10, 11, 12, 13, 14, 28] (fun s9 s10 s11 s12 s13 s14 s28 wr => ∃ (k r : Nat) (m : Int) (v u12 u13 u14 : Value), k ≤ n' ∧ v = s9 ∧ s10 = .int .i64 r ∧ s11 = .int .i64 m ∧ s12 = u12 ∧ s13 = u13 ∧ s14 = u14 ∧ s28 = .int .i64 k ∧ r ≤ C ∧ Hid (m = bAt vs ws k r) ∧ Hid (r = room vs ws C k) ∧ Hid (Grow wr w1.heap.size 3 v (idxs (takes vs ws C) k)) ∧ Hid (Below w1.heap.size w1 wr)) (fun _ _ _ _ _ _ s28 _ => n' - (intOf s28).toNat)
    case atStart => exact ⟨0, C, z, _, _, _, _, by omega, rfl, rfl, rfl, rfl, rfl, rfl, rfl, Nat.le_refl _, HZ, rfl, Lib.hid (by simpa [idxs] using Grow.nil _ _ _), Lib.hid (Below.refl _ _)⟩
    case round =>
      obtain ⟨k, r, m, v, u12, u13, u14, hk, rfl, rfl, rfl, rfl, rfl, rfl, rfl, hrC, hm, hroom, hgr, hbel⟩ := hrel
      have zr := hbel.out.size
      have GW : Hid (Below w.heap.size w wr) := Lib.hid (belT G1.out hbel.out)
      by_cases hlt : k < n'
      · have HJ1 : Ints wr A' n' ws := HJ.out.below GW.out
        obtain ⟨b', off', x, rfl, hb', hx, hxlo, hxhi, hcx⟩ := HJ1.at_ hlt
        obtain ⟨x1, x2⟩ := HW.out x (List.mem_of_getElem? hx)
        obtain ⟨W, rfl⟩ := Int.eq_ofNat_of_zero_le (show 0 ≤ x by omega)
        have HX := Lib.hid hx; clear hx
        have HI1 : Ints wr A n vs := HI.out.below GW.out
        obtain ⟨bv, offv, y, rfl, hbv, hv, _, _, hcv⟩ := HI1.at_ (show k < n by have := HN.out; omega)
        obtain ⟨y1, y2⟩ := HV.out y (List.mem_of_getElem? hv)
        have HY := Lib.hid hv; clear hv
        have DI := Lib.hid HI1
        have DJ := Lib.hid HJ1
        clear HJ1 HI1
        have hkn : k < n := by have := HN.out; omega
        have hwk : IntKind.i64.wrap ((k : Int) + 1) = (k : Int) + 1 := IntWalk.i64_in _ ⟨by omega, by omega⟩
        have k0 : (0 : Int) ≤ (k : Int) + 1 := by omega
        have k1 : (k : Int) + 1 ≤ (n : Int) := by omega
        have k2 : (k : Int) + 1 ≤ (n' : Int) := by omega
        have k3 : ((k : Int) + 1).toNat = k + 1 := by omega
        have hmb := bAt_bd HV.out H10.out k r
        rw [← hm.out] at hmb
        obtain ⟨hm0, hm1⟩ := hmb
        have hil := idxs_len (takes vs ws C) k
        by_cases hge : W ≤ r
        · obtain ⟨q, hq⟩ : ∃ q : Nat, q = r - W := ⟨_, rfl⟩
          obtain ⟨L, hL⟩ : ∃ L, L = bAt vs ws (k + 1) q := ⟨_, rfl⟩
          have hLb := bAt_bd HV.out H10.out (k + 1) q
          rw [← hL] at hLb
          obtain ⟨hL0, hL1⟩ := hLb
          have HLL := Lib.hid hL; clear hL
          have HQ := Lib.hid hq
          have eqw : IntKind.i64.wrap ((r : Int) - (W : Int)) = (q : Int) := by rw [IntWalk.i64_in _ ⟨by omega, by omega⟩]; omega
          rcases Classical.em (c = k + 1) with e1 | e1 <;> rcases Classical.em (c' = k + 1) with e2 | e2
          all_goals
            go_wp2_with fail
            go_region_held3 (fun w' => True) (exact trivial)
              ((first
                | (go_at_call 48; refine (impl_bestValueB _ _ _ _ _ _ _ q (vs.drop (k + 1)) (ws.drop (k + 1)) L _ ((DI.out.below (by (repeat' (first | (with_reducible exact Below.refl _ _) | (with_reducible refine belS ?_ (by first | omega | (simp; done) | (simp; omega) | (simp only [World.size_alloc, World.size_setCell, World.size_drew] at *; omega))) | (with_reducible refine belA ?_ (by first | omega | (simp; done) | (simp; omega) | (simp only [World.size_alloc, World.size_setCell, World.size_drew] at *; omega))) | (with_reducible refine bel_drewN ?_ _) | (with_reducible refine Below.drew ?_) | (with_reducible assumption) | (refine Hid.out ?_; with_reducible assumption) | (apply belV; (with_reducible assumption); exact (by first | omega | (simp; done) | (simp; omega) | (simp only [World.size_alloc, World.size_setCell, World.size_drew] at *; omega))))))).dropA (by omega) (by first | exact .inl rfl | exact .inr (by omega))) ((DJ.out.below (by (repeat' (first | (with_reducible exact Below.refl _ _) | (with_reducible refine belS ?_ (by first | omega | (simp; done) | (simp; omega) | (simp only [World.size_alloc, World.size_setCell, World.size_drew] at *; omega))) | (with_reducible refine belA ?_ (by first | omega | (simp; done) | (simp; omega) | (simp only [World.size_alloc, World.size_setCell, World.size_drew] at *; omega))) | (with_reducible refine bel_drewN ?_ _) | (with_reducible refine Below.drew ?_) | (with_reducible assumption) | (refine Hid.out ?_; with_reducible assumption) | (apply belV; (with_reducible assumption); exact (by first | omega | (simp; done) | (simp; omega) | (simp only [World.size_alloc, World.size_setCell, World.size_drew] at *; omega))))))).dropA (by omega) (by first | exact .inl rfl | exact .inr (by omega))) (by omega) (by have := HN.out; omega) (by omega) (by omega) (fun x hx => HV.out x (List.mem_of_mem_drop hx)) (fun x hx => HW.out x (List.mem_of_mem_drop hx)) HLL.out).mono ?_; rintro e wL ⟨rfl, hb⟩; have GL : Hid (Below w.heap.size w wL) := belU hb (by (repeat' (first | (with_reducible exact Below.refl _ _) | (with_reducible refine belS ?_ (by first | omega | (simp; done) | (simp; omega) | (simp only [World.size_alloc, World.size_setCell, World.size_drew] at *; omega))) | (with_reducible refine belA ?_ (by first | omega | (simp; done) | (simp; omega) | (simp only [World.size_alloc, World.size_setCell, World.size_drew] at *; omega))) | (with_reducible refine bel_drewN ?_ _) | (with_reducible refine Below.drew ?_) | (with_reducible assumption) | (refine Hid.out ?_; with_reducible assumption) | (apply belV; (with_reducible assumption); exact (by first | omega | (simp; done) | (simp; omega) | (simp only [World.size_alloc, World.size_setCell, World.size_drew] at *; omega)))))) (by first | omega | (simp; done) | (simp; omega) | (simp only [World.size_alloc, World.size_setCell, World.size_drew] at *; omega)); have zL := hb.size; (try simp at zL); obtain ⟨hcL, hfL⟩ := bcell hb; have DL := Lib.hid hb; clear hb)))
            have GB : Hid (Below w1.heap.size w1 wL) := Lib.hid (by (repeat' (first | (with_reducible exact Below.refl _ _) | (with_reducible refine belS ?_ (by first | omega | (simp; done) | (simp; omega) | (simp only [World.size_alloc, World.size_setCell, World.size_drew] at *; omega))) | (with_reducible refine belA ?_ (by first | omega | (simp; done) | (simp; omega) | (simp only [World.size_alloc, World.size_setCell, World.size_drew] at *; omega))) | (with_reducible refine bel_drewN ?_ _) | (with_reducible refine Below.drew ?_) | (with_reducible assumption) | (refine Hid.out ?_; with_reducible assumption) | (apply belV; (with_reducible assumption); exact (by first | omega | (simp; done) | (simp; omega) | (simp only [World.size_alloc, World.size_setCell, World.size_drew] at *; omega))))))
            have RL : Hid (Grow wL w1.heap.size 3 v (idxs (takes vs ws C) k)) := Lib.hid (by first | exact Grow.belowD DL hgr.out.drew | exact Grow.belowD DL hgr.out | exact Grow.belowD DL (hgr.out.drewN _))
            have DV : Hid (Ints wL (some ⟨bv, offv, none⟩) n vs) := Lib.hid (HI.out.below (by (repeat' (first | (with_reducible exact Below.refl _ _) | (with_reducible refine belS ?_ (by first | omega | (simp; done) | (simp; omega) | (simp only [World.size_alloc, World.size_setCell, World.size_drew] at *; omega))) | (with_reducible refine belA ?_ (by first | omega | (simp; done) | (simp; omega) | (simp only [World.size_alloc, World.size_setCell, World.size_drew] at *; omega))) | (with_reducible refine bel_drewN ?_ _) | (with_reducible refine Below.drew ?_) | (with_reducible assumption) | (refine Hid.out ?_; with_reducible assumption) | (apply belV; (with_reducible assumption); exact (by first | omega | (simp; done) | (simp; omega) | (simp only [World.size_alloc, World.size_setCell, World.size_drew] at *; omega)))))))
            obtain ⟨_, _, y', e, _, hv', _, _, hcv'⟩ := DV.out.at_ hkn
            injection e with e; injection e with e1 e2; subst e1 e2
            rw [HY.out] at hv'
            injection hv' with hv'
            subst hv'
            clear DV
            by_cases hyl : y + L = m
            · have T := Lib.hid (takes_eq hroom.out HX.out HY.out hge (by rw [← HQ.out, ← HLL.out, ← hm.out, ← hyl]; omega))
              have e9 : ((y + L : Int) == m) = true := by simp [hyl]
              clear hyl
              go_wp2_with (
                at_builtin
                refine wpList_append_own _ rfl (.tmp 56) (.tmp 58) 23 rfl w1.heap.size 3 i0 (.int .i64 0) 1 8 Try.underlying23 hi0 hz0 hz1 hz2 rfl (by decide) v _ _ rfl (RL.out.alloc _).own ⟨wL.heap.size, 0, none⟩ 1 1 [.int .i64 k] rfl rfl ?c1 ?c2 ?c3 ?c4 ?c5 ?_
                case c1 => intro j u hj; (rcases j with _ | j <;> simp at hj); subst hj; simp [go_sem]
                case c2 => intro u hu; simp at hu; subst hu; rfl
                case c3 => unfold maxLen; omega
                case c4 => omega
                case c5 => simp; omega
                intro v' w4 hown' hgrow _
                have R4 : Hid (Grow w4 w1.heap.size 3 v' (idxs (takes vs ws C) (k + 1))) := Lib.hid (by rw [idxs_yes T.out]; exact Grow.snoc hown')
                have G4 : Hid (Below w1.heap.size w1 w4) := Lib.hid (Below.grown (GB.out.alloc (by omega) _) hgrow (by simp; omega) (fun j hj => by have := RL.out.row j hj; omega))
                clear hown' hgrow)
              go_roundw
              case rel => first | exact ⟨_, _, _, _, _, _, _, ⟨k + 1, by omega, q, rfl, L, rfl, by go_num, by omega, HLL, Lib.hid (by rw [room_yes T.out, ← hroom.out, getD_of HX.out, Int.toNat_natCast]; exact HQ.out), R4⟩, rfl, (by first | rfl | (congr 1; omega)), rfl, rfl, rfl, rfl, rfl⟩ | exact ⟨k + 1, q, L, _, _, _, _, by omega, rfl, (by first | rfl | (congr 1; omega)), rfl, rfl, rfl, rfl, by go_num, by omega, HLL, Lib.hid (by rw [room_yes T.out, ← hroom.out, getD_of HX.out, Int.toNat_natCast]; exact HQ.out), R4, G4⟩
              case measure => simp [intOf]; omega
            · have T := Lib.hid (takes_ne hroom.out HX.out HY.out (by rw [← HQ.out, ← HLL.out, ← hm.out]; omega))
              have e9 : ((y + L : Int) == m) = false := by simp [hyl]
              clear hyl
              go_wp2_with fail
              go_roundw
              case rel => first | exact ⟨_, _, _, _, _, _, _, ⟨k + 1, by omega, r, rfl, m, rfl, by go_num, hrC, Lib.hid (by rw [hm.out]; have := bAt_no HVL.out (by rw [HL'.out]; exact hlt) T.out; rw [← hroom.out] at this; exact this.symm), Lib.hid (by rw [room_no T.out]; exact hroom.out), Lib.hid (by rw [idxs_no T.out]; exact RL.out)⟩, rfl, rfl, rfl, rfl, rfl, rfl, rfl⟩ | exact ⟨k + 1, r, m, _, _, _, _, by omega, rfl, rfl, rfl, rfl, rfl, rfl, by go_num, hrC, Lib.hid (by rw [hm.out]; have := bAt_no HVL.out (by rw [HL'.out]; exact hlt) T.out; rw [← hroom.out] at this; exact this.symm), Lib.hid (by rw [room_no T.out]; exact hroom.out), Lib.hid (by rw [idxs_no T.out]; exact RL.out), GB⟩
              case measure => simp [intOf]; omega
        · have T := Lib.hid (takes_big hroom.out HX.out HY.out hge)
          go_wp2_with fail
          go_roundw
          case rel => exact ⟨k + 1, r, m, _, _, _, _, by omega, rfl, rfl, rfl, rfl, rfl, rfl, by go_num, hrC, Lib.hid (by rw [hm.out]; have := bAt_no HVL.out (by rw [HL'.out]; exact hlt) T.out; rw [← hroom.out] at this; exact this.symm), Lib.hid (by rw [room_no T.out]; exact hroom.out), Lib.hid (by rw [idxs_no T.out]; exact hgr.out), hbel⟩
          case measure => simp [intOf]; omega
      · have hke : k = n' := by omega
        subst hke
        have R := hgr.out
        rw [← HL'.out] at R
        have RR : Hid (Grow wr w1.heap.size 3 v (chosen vs ws C)) := Lib.hid R
        clear R
        go_wp2_with fail
        go_ret2
        exact PairI.grow ⟨E.out.1, by rw [E.out.2]; exact HZ.out.symm⟩ RR.out z1 (chosen_bd H10.out) GW.out
end Go.Proofs.Ytfidahpaidkhgab
