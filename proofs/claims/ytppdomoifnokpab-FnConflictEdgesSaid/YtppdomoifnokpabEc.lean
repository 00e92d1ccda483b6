
/-
  Edges of items in conflict: what the program's function and the model's answer.
-/
import Derived.Test.YtppdomoifnokpabEb
import Derived.Test.YtppdomoifnokpabVi
set_option linter.unusedSimpArgs false
set_option linter.unusedVariables false
namespace Go.Proofs.Ytppdomoifnokpab
open Go.RowKit

theorem con_of {ws : List Int} {c x y : Int} {a b : Nat} (h1 : ws[a]? = some x) (h2 : ws[b]? = some y) : con ws c a b = decide (c < x + y) := by
  unfold con; rw [getD_of h1, getD_of h2]
theorem conT_start (p : Nat → Nat → Bool) (n k : Nat) : conT p n k ++ conR p k (k + 1) = conT p n k := by rw [conR_le (Nat.le_refl _), List.append_nil]
theorem info_edge : (Try.prog.info? 32).map (fun i => (i.zero, i.size, i.bytes)) = some (some (.agg #[.int .i64 0, .int .i64 0]), 2, 16) := by kernel_rfl

set_option maxHeartbeats 8000000 in
set_option maxRecDepth 100000 in
theorem impl_ConflictEdges (A : Option Addr) (n c : Nat) (a : Int) (ws : List Int) (w : World) (hI : Ints w A n ws) (hn : n ≤ maxLen) :
    Calls Try.prog 15 #[.slice A n c, .int .i64 a] w (EdgesEnd (confV ws a) w) := by
  obtain ⟨i0, hi0, hz0, hz1, hz2⟩ := info_parts info_edge
  have hn' := hn
  unfold maxLen at hn'
  have HL := Lib.hid hI.len
  have HI := Lib.hid hI; clear hI
  cases h1 : vWts ws a
  · have E := Lib.hid (confV_1 h1)
    go_enter Try.func15, Try.ntmps15
    go_wp2_with (go_at_call 53; ((with_reducible refine (impl_validWeights _ _ _ _ ws _ HI.out hn).mono ?_); rintro e w' ⟨rfl, rfl⟩))
    go_ret
    exact EdgesEnd.nil E.out (by (repeat' (first | (with_reducible exact Below.refl _ _) | (with_reducible refine belS ?_ (by first | omega | (simp; done) | (simp; omega) | (simp only [World.size_alloc, World.size_setCell, World.size_drew] at *; omega))) | (with_reducible refine belA ?_ (by first | omega | (simp; done) | (simp; omega) | (simp only [World.size_alloc, World.size_setCell, World.size_drew] at *; omega))) | (with_reducible refine bel_drewN ?_ _) | (with_reducible refine Below.drew ?_) | (with_reducible assumption) | (refine Hid.out ?_; with_reducible assumption) | (apply belV; (with_reducible assumption); exact (by first | omega | (simp; done) | (simp; omega) | (simp only [World.size_alloc, World.size_setCell, World.size_drew] at *; omega))))))
  by_cases h2 : n ≤ 8
  rotate_left
  · have E := Lib.hid (confV_2 (c := a) (by rw [HL.out]; exact h2))
    go_enter Try.func15, Try.ntmps15
    go_wp2_with (go_at_call 53; ((with_reducible refine (impl_validWeights _ _ _ _ ws _ HI.out hn).mono ?_); rintro e w' ⟨rfl, rfl⟩))
    go_ret
    exact EdgesEnd.nil E.out (by (repeat' (first | (with_reducible exact Below.refl _ _) | (with_reducible refine belS ?_ (by first | omega | (simp; done) | (simp; omega) | (simp only [World.size_alloc, World.size_setCell, World.size_drew] at *; omega))) | (with_reducible refine belA ?_ (by first | omega | (simp; done) | (simp; omega) | (simp only [World.size_alloc, World.size_setCell, World.size_drew] at *; omega))) | (with_reducible refine bel_drewN ?_ _) | (with_reducible refine Below.drew ?_) | (with_reducible assumption) | (refine Hid.out ?_; with_reducible assumption) | (apply belV; (with_reducible assumption); exact (by first | omega | (simp; done) | (simp; omega) | (simp only [World.size_alloc, World.size_setCell, World.size_drew] at *; omega))))))
  have E := Lib.hid (confV_3 (c := a) h1 (by rw [HL.out]; exact h2))
  have HB := Lib.hid (confV_bd ws a)
  obtain ⟨f1, f2, f3, f4⟩ := vWts_facts h1
  have HW := Lib.hid f2
  clear f1 f2
  go_enter Try.func15, Try.ntmps15
  go_wp2_with (go_at_call 53; ((with_reducible refine (impl_validWeights _ _ _ _ ws _ HI.out hn).mono ?_); rintro e w' ⟨rfl, rfl⟩))
  go_loopw [5, 6, 7, 8, 20] (fun s5 s6 s7 s8 s20 wr => ∃ (k : Nat) (v u6 u7 u8 : Value), k ≤ n ∧ v = s5 ∧ u6 = s6 ∧ u7 = s7 ∧ u8 = s8 ∧ s20 = .int .i64 k ∧ Hid (GrowE wr w.heap.size 32 v (conT (con ws a) n k)) ∧ Hid (Below w.heap.size w wr)) (fun _ _ _ _ s20 _ => n - (intOf s20).toNat)
  case atStart => exact ⟨0, _, _, _, _, by omega, rfl, rfl, rfl, rfl, rfl, Lib.hid (GrowE.nil _ _ _), by (refine Lib.hid ?_; (repeat' (first | (with_reducible exact Below.refl _ _) | (with_reducible refine belS ?_ (by first | omega | (simp; done) | (simp; omega) | (simp only [World.size_alloc, World.size_setCell, World.size_drew] at *; omega))) | (with_reducible refine belA ?_ (by first | omega | (simp; done) | (simp; omega) | (simp only [World.size_alloc, World.size_setCell, World.size_drew] at *; omega))) | (with_reducible refine bel_drewN ?_ _) | (with_reducible refine Below.drew ?_) | (with_reducible assumption) | (refine Hid.out ?_; with_reducible assumption) | (apply belV; (with_reducible assumption); exact (by first | omega | (simp; done) | (simp; omega) | (simp only [World.size_alloc, World.size_setCell, World.size_drew] at *; omega))))))⟩
  case round =>
    obtain ⟨k, v, u6, u7, u8, hk, rfl, rfl, rfl, rfl, rfl, hgr, hbel⟩ := hrel
    by_cases hlt : k < n
    · obtain ⟨b, off, x, rfl, hb, hx, hlo, hhi, hc⟩ := (HI.out.below hbel.out).at_ hlt
      obtain ⟨x1, x2⟩ := HW.out x (List.mem_of_getElem? hx)
      have HX := Lib.hid hx; clear hx
      have hgr1 : Hid (GrowE wr w.heap.size 32 v (conT (con ws a) n k ++ conR (con ws a) k (k + 1))) := Lib.hid (by rw [conT_start]; exact hgr.out)
      go_wp2_with fail
      go_loopw [5, 8] (fun s5 s8 wr => ∃ (j : Nat) (v : Value), k < j ∧ j ≤ n ∧ v = s5 ∧ s8 = .int .i64 j ∧ Hid (GrowE wr w.heap.size 32 v (conT (con ws a) n k ++ conR (con ws a) k j)) ∧ Hid (Below w.heap.size w wr)) (fun _ s8 _ => n - (intOf s8).toNat)
      case atStart => exact ⟨k + 1, _, by omega, by omega, rfl, by go_num, hgr1, hbel⟩
      case round =>
        obtain ⟨j, v, hkj, hj, rfl, rfl, hgr, hbel2⟩ := hrel
        by_cases hlj : j < n
        · obtain ⟨b', off', y, e, hb', hy, hylo, hyhi, hcy⟩ := (HI.out.below hbel2.out).at_ hlj
          injection e with e; injection e with e1 e2; subst e1 e2
          obtain ⟨y1, y2⟩ := HW.out y (List.mem_of_getElem? hy)
          have CO := Lib.hid (con_of (c := a) HX.out hy)
          have lE := Lib.hid (conT_len (p := con ws a) (n := n) (k := k))
          have lR := Lib.hid (conR_len (p := con ws a) (a := k) (k := j))
          clear hy
          by_cases hm : a < x + y
          · have hlen : (conT (con ws a) n k ++ conR (con ws a) k j).length ≤ 100 := by
              rw [List.length_append]
              have := lE.out
              have := lR.out
              have : n * k ≤ 8 * 8 := Nat.mul_le_mul h2 (by omega)
              omega
            have NX := Lib.hid (conR_yes (p := con ws a) hkj (by rw [CO.out]; simpa using hm))
            go_wp2_with (
              at_builtin
              refine wpList_append_own _ rfl (.tmp 41) (.tmp 45) 26 rfl w.heap.size 32 i0 (.agg #[.int .i64 0, .int .i64 0]) 2 16 Try.underlying26 hi0 hz0 hz1 hz2 rfl (by decide) v _ _ rfl (hgr.out.alloc _).own ⟨wr.heap.size, 0, none⟩ 1 1 [.int .i64 k, .int .i64 j] rfl rfl ?c1 ?c2 ?c3 ?c4 ?c5 ?_
              case c1 => intro j u hj; (rcases j with _ | _ | j <;> simp at hj) <;> subst hj <;> simp [go_sem]
              case c2 => intro u hu; simp at hu; rcases hu with rfl | rfl <;> rfl
              case c3 => unfold maxLen; omega
              case c4 => omega
              case c5 => simp; have := hbel2.out.size; omega
              intro v' w4 hown' hgrow _
              have R4 : Hid (GrowE w4 w.heap.size 32 v' (conT (con ws a) n k ++ conR (con ws a) k (j + 1))) := Lib.hid (by rw [NX.out, ← List.append_assoc]; exact GrowE.snoc hown')
              have G4 : Hid (Below w.heap.size w w4) := (hbel2.out.alloc hbel2.out.size _).grown hgrow (by simp; have := hbel2.out.size; omega) (fun j hj => hgr.out.row j hj)
              clear hown' hgrow)
            go_roundw
            case rel => exact ⟨j + 1, _, by omega, by omega, rfl, by go_num, R4, G4⟩
            case measure => simp [intOf]; omega
          · have NX := Lib.hid (conR_no (p := con ws a) (a := k) (k := j) (by rw [CO.out]; simpa using hm))
            go_wp2_with fail
            go_roundw
            case rel => exact ⟨j + 1, _, by omega, by omega, rfl, by go_num, Lib.hid (by rw [NX.out]; exact hgr.out), hbel2⟩
            case measure => simp [intOf]; omega
        · have hje : j = n := by omega
          subst hje
          go_wp2_with fail
          go_roundw
          case rel => exact ⟨k + 1, _, _, _, _, by omega, rfl, rfl, rfl, rfl, by go_num, hgr, hbel2⟩
          case measure => simp [intOf]; omega
    · have hke : k = n := by omega
      subst hke
      go_wp2_with fail
      go_ret
      exact EdgesEnd.grow (L := conT (con ws a) k k) (by rw [E.out, HL.out]) hgr.out (Nat.le_refl _) HB.out.1 (by have := HB.out.2; omega) hbel.out

set_option maxHeartbeats 8000000 in
set_option maxRecDepth 100000 in
theorem spec_ConflictEdges (A : Option Addr) (n c : Nat) (a : Int) (ws : List Int) (w : World) (hI : Ints w A n ws) (hn : n ≤ maxLen) :
    Calls Try.prog 17 #[.slice A n c, .int .i64 a] w (EdgesEnd (confV ws a) w) := by
  obtain ⟨i0, hi0, hz0, hz1, hz2⟩ := info_parts info_edge
  have hn' := hn
  unfold maxLen at hn'
  have HL := Lib.hid hI.len
  have HI := Lib.hid hI; clear hI
  cases h1 : vWts ws a
  · have E := Lib.hid (confV_1 h1)
    go_enter Try.func17, Try.ntmps17
    go_wp2_with (go_at_call 54; ((with_reducible refine (spec_validWeights _ _ _ _ ws _ (HI.out.below (by (repeat' (first | (with_reducible exact Below.refl _ _) | (with_reducible refine belS ?_ (by first | omega | (simp; done) | (simp; omega) | (simp only [World.size_alloc, World.size_setCell, World.size_drew] at *; omega))) | (with_reducible refine belA ?_ (by first | omega | (simp; done) | (simp; omega) | (simp only [World.size_alloc, World.size_setCell, World.size_drew] at *; omega))) | (with_reducible refine bel_drewN ?_ _) | (with_reducible refine Below.drew ?_) | (with_reducible assumption) | (refine Hid.out ?_; with_reducible assumption) | (apply belV; (with_reducible assumption); exact (by first | omega | (simp; done) | (simp; omega) | (simp only [World.size_alloc, World.size_setCell, World.size_drew] at *; omega))))))) hn).mono ?_); rintro e w' ⟨rfl, rfl⟩))
    go_ret
    exact EdgesEnd.nil E.out (by (repeat' (first | (with_reducible exact Below.refl _ _) | (with_reducible refine belS ?_ (by first | omega | (simp; done) | (simp; omega) | (simp only [World.size_alloc, World.size_setCell, World.size_drew] at *; omega))) | (with_reducible refine belA ?_ (by first | omega | (simp; done) | (simp; omega) | (simp only [World.size_alloc, World.size_setCell, World.size_drew] at *; omega))) | (with_reducible refine bel_drewN ?_ _) | (with_reducible refine Below.drew ?_) | (with_reducible assumption) | (refine Hid.out ?_; with_reducible assumption) | (apply belV; (with_reducible assumption); exact (by first | omega | (simp; done) | (simp; omega) | (simp only [World.size_alloc, World.size_setCell, World.size_drew] at *; omega))))))
  by_cases h2 : n ≤ 8
  rotate_left
  · have E := Lib.hid (confV_2 (c := a) (by rw [HL.out]; exact h2))
    go_enter Try.func17, Try.ntmps17
    go_wp2_with (go_at_call 54; ((with_reducible refine (spec_validWeights _ _ _ _ ws _ (HI.out.below (by (repeat' (first | (with_reducible exact Below.refl _ _) | (with_reducible refine belS ?_ (by first | omega | (simp; done) | (simp; omega) | (simp only [World.size_alloc, World.size_setCell, World.size_drew] at *; omega))) | (with_reducible refine belA ?_ (by first | omega | (simp; done) | (simp; omega) | (simp only [World.size_alloc, World.size_setCell, World.size_drew] at *; omega))) | (with_reducible refine bel_drewN ?_ _) | (with_reducible refine Below.drew ?_) | (with_reducible assumption) | (refine Hid.out ?_; with_reducible assumption) | (apply belV; (with_reducible assumption); exact (by first | omega | (simp; done) | (simp; omega) | (simp only [World.size_alloc, World.size_setCell, World.size_drew] at *; omega))))))) hn).mono ?_); rintro e w' ⟨rfl, rfl⟩))
    go_ret
    exact EdgesEnd.nil E.out (by (repeat' (first | (with_reducible exact Below.refl _ _) | (with_reducible refine belS ?_ (by first | omega | (simp; done) | (simp; omega) | (simp only [World.size_alloc, World.size_setCell, World.size_drew] at *; omega))) | (with_reducible refine belA ?_ (by first | omega | (simp; done) | (simp; omega) | (simp only [World.size_alloc, World.size_setCell, World.size_drew] at *; omega))) | (with_reducible refine bel_drewN ?_ _) | (with_reducible refine Below.drew ?_) | (with_reducible assumption) | (refine Hid.out ?_; with_reducible assumption) | (apply belV; (with_reducible assumption); exact (by first | omega | (simp; done) | (simp; omega) | (simp only [World.size_alloc, World.size_setCell, World.size_drew] at *; omega))))))
  have E := Lib.hid (confV_3 (c := a) h1 (by rw [HL.out]; exact h2))
  have HB := Lib.hid (confV_bd ws a)
  obtain ⟨f1, f2, f3, f4⟩ := vWts_facts h1
  have HW := Lib.hid f2
  clear f1 f2
  go_enter Try.func17, Try.ntmps17
  go_wp2_with (go_at_call 54; ((with_reducible refine (spec_validWeights _ _ _ _ ws _ (HI.out.below (by (repeat' (first | (with_reducible exact Below.refl _ _) | (with_reducible refine belS ?_ (by first | omega | (simp; done) | (simp; omega) | (simp only [World.size_alloc, World.size_setCell, World.size_drew] at *; omega))) | (with_reducible refine belA ?_ (by first | omega | (simp; done) | (simp; omega) | (simp only [World.size_alloc, World.size_setCell, World.size_drew] at *; omega))) | (with_reducible refine bel_drewN ?_ _) | (with_reducible refine Below.drew ?_) | (with_reducible assumption) | (refine Hid.out ?_; with_reducible assumption) | (apply belV; (with_reducible assumption); exact (by first | omega | (simp; done) | (simp; omega) | (simp only [World.size_alloc, World.size_setCell, World.size_drew] at *; omega))))))) hn).mono ?_); rintro e w' ⟨rfl, rfl⟩))
  go_loopw [5, 6, 7] (fun s5 s6 s7 wr => ∃ (k : Nat) (v u7 : Value), k ≤ n ∧ v = s5 ∧ s6 = .int .i64 k ∧ u7 = s7 ∧ Hid (GrowE wr w.heap.size 32 v (conT (con ws a) n k)) ∧ Hid (Below w.heap.size w wr)) (fun _ s6 _ _ => n - (intOf s6).toNat)
  case atStart => exact ⟨0, _, _, by omega, rfl, rfl, rfl, Lib.hid (GrowE.lit0 w (Nat.le_refl _) _), by (refine Lib.hid ?_; (repeat' (first | (with_reducible exact Below.refl _ _) | (with_reducible refine belS ?_ (by first | omega | (simp; done) | (simp; omega) | (simp only [World.size_alloc, World.size_setCell, World.size_drew] at *; omega))) | (with_reducible refine belA ?_ (by first | omega | (simp; done) | (simp; omega) | (simp only [World.size_alloc, World.size_setCell, World.size_drew] at *; omega))) | (with_reducible refine bel_drewN ?_ _) | (with_reducible refine Below.drew ?_) | (with_reducible assumption) | (refine Hid.out ?_; with_reducible assumption) | (apply belV; (with_reducible assumption); exact (by first | omega | (simp; done) | (simp; omega) | (simp only [World.size_alloc, World.size_setCell, World.size_drew] at *; omega))))))⟩
  case round =>
    obtain ⟨k, v, u7, hk, rfl, rfl, rfl, hgr, hbel⟩ := hrel
    by_cases hlt : k < n
    · have hgr1 : Hid (GrowE wr w.heap.size 32 v (conT (con ws a) n k ++ conR (con ws a) k (k + 1))) := Lib.hid (by rw [conT_start]; exact hgr.out)
      go_wp2_with fail
      go_loopw [5, 7] (fun s5 s7 wr => ∃ (j : Nat) (v : Value), k < j ∧ j ≤ n ∧ v = s5 ∧ s7 = .int .i64 j ∧ Hid (GrowE wr w.heap.size 32 v (conT (con ws a) n k ++ conR (con ws a) k j)) ∧ Hid (Below w.heap.size w wr)) (fun _ s7 _ => n - (intOf s7).toNat)
      case atStart => exact ⟨k + 1, _, by omega, by omega, rfl, by go_num, hgr1, hbel⟩
      case round =>
        obtain ⟨j, v, hkj, hj, rfl, rfl, hgr, hbel2⟩ := hrel
        by_cases hlj : j < n
        · obtain ⟨b, off, x, rfl, hb, hx, hlo, hhi, hc⟩ := (HI.out.below hbel2.out).at_ hlt
          obtain ⟨b', off', y, e, hb', hy, hylo, hyhi, hcy⟩ := (HI.out.below hbel2.out).at_ hlj
          injection e with e; injection e with e1 e2; subst e1 e2
          obtain ⟨x1, x2⟩ := HW.out x (List.mem_of_getElem? hx)
          obtain ⟨y1, y2⟩ := HW.out y (List.mem_of_getElem? hy)
          have CO := Lib.hid (con_of (c := a) hx hy)
          have lE := Lib.hid (conT_len (p := con ws a) (n := n) (k := k))
          have lR := Lib.hid (conR_len (p := con ws a) (a := k) (k := j))
          clear hx hy
          by_cases hm : a < x + y
          · have hlen : (conT (con ws a) n k ++ conR (con ws a) k j).length ≤ 100 := by
              rw [List.length_append]
              have := lE.out
              have := lR.out
              have : n * k ≤ 8 * 8 := Nat.mul_le_mul h2 (by omega)
              omega
            have NX := Lib.hid (conR_yes (p := con ws a) hkj (by rw [CO.out]; simpa using hm))
            go_wp2_with fail
            go_quiet (fail)
            have hgr3 : Hid (GrowE (wr.drewN nq) w.heap.size 32 v (conT (con ws a) n k ++ conR (con ws a) k j)) := Lib.hid (hgr.out.drewN nq)
            have hbel3 : Hid (Below w.heap.size w (wr.drewN nq)) := Lib.hid (bel_drewN hbel2.out nq)
            clear hgr hbel2 hc hcy
            generalize wr.drewN nq = w3 at *
            go_wp2_with (
              at_builtin
              refine wpList_append_own _ rfl (.tmp 43) (.tmp 47) 26 rfl w.heap.size 32 i0 (.agg #[.int .i64 0, .int .i64 0]) 2 16 Try.underlying26 hi0 hz0 hz1 hz2 rfl (by decide) v _ _ rfl (hgr3.out.alloc _).own ⟨w3.heap.size, 0, none⟩ 1 1 [.int .i64 k, .int .i64 j] rfl rfl ?c1 ?c2 ?c3 ?c4 ?c5 ?_
              case c1 => intro j u hj; (rcases j with _ | _ | j <;> simp at hj) <;> subst hj <;> simp [go_sem]
              case c2 => intro u hu; simp at hu; rcases hu with rfl | rfl <;> rfl
              case c3 => unfold maxLen; omega
              case c4 => omega
              case c5 => simp; have := hbel3.out.size; omega
              intro v' w4 hown' hgrow _
              have R4 : Hid (GrowE w4 w.heap.size 32 v' (conT (con ws a) n k ++ conR (con ws a) k (j + 1))) := Lib.hid (by rw [NX.out, ← List.append_assoc]; exact GrowE.snoc hown')
              have G4 : Hid (Below w.heap.size w w4) := (hbel3.out.alloc hbel3.out.size _).grown hgrow (by simp; have := hbel3.out.size; omega) (fun j hj => hgr3.out.row j hj)
              clear hown' hgrow)
            go_roundw
            case rel => exact ⟨j + 1, _, by omega, by omega, rfl, by go_num, R4, G4⟩
            case measure => simp [intOf]; omega
          · have NX := Lib.hid (conR_no (p := con ws a) (a := k) (k := j) (by rw [CO.out]; simpa using hm))
            go_wp2_with fail
            go_quiet (fail)
            go_wp2_with fail
            go_roundw
            case rel => exact ⟨j + 1, _, by omega, by omega, rfl, by go_num, Lib.hid (by rw [NX.out]; exact hgr.out.drewN _), Lib.hid (bel_drewN hbel2.out _)⟩
            case measure => simp [intOf]; omega
        · have hje : j = n := by omega
          subst hje
          go_wp2_with fail
          go_roundw
          case rel => exact ⟨k + 1, _, _, by omega, rfl, by go_num, rfl, hgr, hbel2⟩
          case measure => simp [intOf]; omega
    · have hke : k = n := by omega
      subst hke
      go_wp2_with fail
      go_ret
      exact EdgesEnd.grow (L := conT (con ws a) k k) (by rw [E.out, HL.out]) hgr.out (Nat.le_refl _) HB.out.1 (by have := HB.out.2; omega) hbel.out
end Go.Proofs.Ytppdomoifnokpab
