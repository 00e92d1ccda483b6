
/-
  The duties of a person; rosters; the number of persons: as the program's functions and the model's answer them.
-/
import Derived.Test.YtjbgjljcgdligaaJd
import Derived.Test.YtjbgjljcgdligaaJe
set_option linter.unusedSimpArgs false
set_option linter.unusedVariables false
namespace Go.Proofs.Ytjbgjljcgdligaa
open Go.RowKit

set_option maxHeartbeats 4000000 in
set_option maxRecDepth 100000 in
theorem impl_lineOf (A : Option Addr) (n c : Nat) (p : Int) (crew : List Int) (w : World) (hI : Ints w A n crew) (hn : n ≤ 1000) :
    Calls Try.prog 85 #[.slice A n c, .int .i64 p] w (SliceEnd (lnOf crew p crew.length) w) := by
  obtain ⟨i0, hi0, hz0, hz1, hz2⟩ := info_parts info_int
  have HL := Lib.hid hI.len
  have HI := Lib.hid hI; clear hI
  go_enter Try.func85, Try.ntmps85
  go_wp2_with fail
  go_loopw [5, 6, 7, 10] (fun s5 s6 s7 s10 wr => ∃ (k : Nat) (v u6 u7 : Value), k ≤ n ∧ v = s5 ∧ u6 = s6 ∧ u7 = s7 ∧ s10 = .int .i64 k ∧ Hid (Grow wr w.heap.size 3 v (lnOf crew p k)) ∧ Hid (Below w.heap.size w wr)) (fun _ _ _ s10 _ => n - (intOf s10).toNat)
  case atStart => exact ⟨0, _, _, _, by omega, rfl, rfl, rfl, rfl, Lib.hid (Grow.nil _ _ _), by (refine Lib.hid ?_; (repeat' (first | (with_reducible exact Below.refl _ _) | (with_reducible refine belS ?_ (by first | omega | (simp; done) | (simp; omega) | (simp only [World.size_alloc, World.size_setCell, World.size_drew] at *; omega))) | (with_reducible refine belA ?_ (by first | omega | (simp; done) | (simp; omega) | (simp only [World.size_alloc, World.size_setCell, World.size_drew] at *; omega))) | (with_reducible refine bel_drewN ?_ _) | (with_reducible refine Below.drew ?_) | (with_reducible assumption) | (refine Hid.out ?_; with_reducible assumption) | (apply belV; (with_reducible assumption); exact (by first | omega | (simp; done) | (simp; omega) | (simp only [World.size_alloc, World.size_setCell, World.size_drew] at *; omega))))))⟩
  case round =>
    obtain ⟨k, v, u6, u7, hk, rfl, rfl, rfl, rfl, hgr, hbel⟩ := hrel
    have z0 := hbel.out.size
    by_cases hlt : k < n
    · obtain ⟨b, off, x, rfl, hb, hx, hlo, hhi, hc⟩ := (HI.out.below hbel.out).at_ hlt
      have HX := Lib.hid hx; clear hx
      have hil := lnOf_len crew p k
      by_cases he : x = p
      · subst he
        go_wp2_with (
          at_builtin
          refine wpList_append_own _ rfl (.tmp 18) (.tmp 20) 22 rfl w.heap.size 3 i0 (.int .i64 0) 1 8 Try.underlying22 hi0 hz0 hz1 hz2 rfl (by decide) v _ _ rfl (hgr.out.alloc _).own ⟨wr.heap.size, 0, none⟩ 1 1 [.int .i64 k] rfl rfl ?c1 ?c2 ?c3 ?c4 ?c5 ?_
          case c1 => intro j u hj; (rcases j with _ | j <;> simp at hj); subst hj; simp [go_sem]
          case c2 => intro u hu; simp at hu; subst hu; rfl
          case c3 => unfold maxLen; omega
          case c4 => omega
          case c5 => simp; omega
          intro v' w4 hown' hgrow _
          have R4 : Hid (Grow w4 w.heap.size 3 v' (lnOf crew x (k + 1))) := Lib.hid (by rw [lnOf_yes HX.out]; exact Grow.snoc hown')
          have G4 : Hid (Below w.heap.size w w4) := (hbel.out.alloc (by omega) _).grown hgrow (by simp; omega) (fun j hj => by have := hgr.out.row j hj; omega)
          have z4 : w.heap.size ≤ w4.heap.size := by have := hgrow.size; simp at this; omega
          clear hown' hgrow)
        go_roundw
        case rel => exact ⟨k + 1, _, _, _, by omega, rfl, rfl, rfl, by go_num, R4, G4⟩
        case measure => simp [intOf]; omega
      · have NX := Lib.hid (lnOf_no HX.out he)
        go_wp2_with fail
        go_roundw
        case rel => exact ⟨k + 1, _, _, _, by omega, rfl, rfl, rfl, by go_num, Lib.hid (by rw [NX.out]; (repeat' (first | (with_reducible assumption) | (refine Hid.out ?_; with_reducible assumption) | (with_reducible refine Grow.far ?_ (by first | omega | (simp; done) | (simp; omega) | (simp only [World.size_alloc, World.size_setCell, World.size_drew] at *; omega)) _) | (with_reducible refine Grow.farO ?_ (by first | omega | (simp; done) | (simp; omega) | (simp only [World.size_alloc, World.size_setCell, World.size_drew] at *; omega)) _) | (with_reducible refine Grow.alloc ?_ _) | (with_reducible refine Grow.drewN ?_ _) | (with_reducible refine Grow.drew ?_) | (apply Grow.only; (with_reducible assumption); exact (by first | omega | (simp; done) | (simp; omega) | (simp only [World.size_alloc, World.size_setCell, World.size_drew] at *; omega))) | (apply Grow.belowD; (with_reducible assumption))))), by (refine Lib.hid ?_; (repeat' (first | (with_reducible exact Below.refl _ _) | (with_reducible refine belS ?_ (by first | omega | (simp; done) | (simp; omega) | (simp only [World.size_alloc, World.size_setCell, World.size_drew] at *; omega))) | (with_reducible refine belA ?_ (by first | omega | (simp; done) | (simp; omega) | (simp only [World.size_alloc, World.size_setCell, World.size_drew] at *; omega))) | (with_reducible refine bel_drewN ?_ _) | (with_reducible refine Below.drew ?_) | (with_reducible assumption) | (refine Hid.out ?_; with_reducible assumption) | (apply belV; (with_reducible assumption); exact (by first | omega | (simp; done) | (simp; omega) | (simp only [World.size_alloc, World.size_setCell, World.size_drew] at *; omega))))))⟩
        case measure => simp [intOf]; omega
    · have hke : k = crew.length := by have := HL.out; omega
      have HK := Lib.hid hke; clear hke
      go_wp2_with fail
      go_ret
      rw [← HK.out]
      exact SliceEnd.grow hgr.out (Nat.le_refl _) (lnOf_bd crew p (by unfold maxLen; omega)) (by have := lnOf_len crew p k; omega) hbel.out
set_option maxHeartbeats 4000000 in
set_option maxRecDepth 100000 in
theorem spec_lineOf (A : Option Addr) (n c : Nat) (p : Int) (crew : List Int) (w : World) (hI : Ints w A n crew) (hn : n ≤ 1000) :
    Calls Try.prog 127 #[.slice A n c, .int .i64 p] w (SliceEnd (lnOf crew p crew.length) w) := by
  obtain ⟨i0, hi0, hz0, hz1, hz2⟩ := info_parts info_int
  have HL := Lib.hid hI.len
  have HI := Lib.hid hI; clear hI
  go_enter Try.func127, Try.ntmps127
  go_wp2_with fail
  go_loopw [5, 6] (fun s5 s6 wr => ∃ (k : Nat) (v : Value), k ≤ n ∧ v = s5 ∧ s6 = .int .i64 k ∧ Hid (Grow wr w.heap.size 3 v (lnOf crew p k)) ∧ Hid (Below w.heap.size w wr)) (fun _ s6 _ => n - (intOf s6).toNat)
  case atStart => exact ⟨0, _, by omega, rfl, rfl, Lib.hid (Grow.lit0 w (Nat.le_refl _) _), by (refine Lib.hid ?_; (repeat' (first | (with_reducible exact Below.refl _ _) | (with_reducible refine belS ?_ (by first | omega | (simp; done) | (simp; omega) | (simp only [World.size_alloc, World.size_setCell, World.size_drew] at *; omega))) | (with_reducible refine belA ?_ (by first | omega | (simp; done) | (simp; omega) | (simp only [World.size_alloc, World.size_setCell, World.size_drew] at *; omega))) | (with_reducible refine bel_drewN ?_ _) | (with_reducible refine Below.drew ?_) | (with_reducible assumption) | (refine Hid.out ?_; with_reducible assumption) | (apply belV; (with_reducible assumption); exact (by first | omega | (simp; done) | (simp; omega) | (simp only [World.size_alloc, World.size_setCell, World.size_drew] at *; omega))))))⟩
  case round =>
    obtain ⟨k, v, hk, rfl, rfl, hgr, hbel⟩ := hrel
    have z0 := hbel.out.size
    by_cases hlt : k < n
    · obtain ⟨b, off, x, rfl, hb, hx, hlo, hhi, hc⟩ := (HI.out.below hbel.out).at_ hlt
      have HX := Lib.hid hx; clear hx
      have hil := lnOf_len crew p k
      by_cases he : x = p
      · subst he
        go_wp2_with (
          at_builtin
          refine wpList_append_own _ rfl (.tmp 20) (.tmp 22) 22 rfl w.heap.size 3 i0 (.int .i64 0) 1 8 Try.underlying22 hi0 hz0 hz1 hz2 rfl (by decide) v _ _ rfl (hgr.out.alloc _).own ⟨wr.heap.size, 0, none⟩ 1 1 [.int .i64 k] rfl rfl ?c1 ?c2 ?c3 ?c4 ?c5 ?_
          case c1 => intro j u hj; (rcases j with _ | j <;> simp at hj); subst hj; simp [go_sem]
          case c2 => intro u hu; simp at hu; subst hu; rfl
          case c3 => unfold maxLen; omega
          case c4 => omega
          case c5 => simp; omega
          intro v' w4 hown' hgrow _
          have R4 : Hid (Grow w4 w.heap.size 3 v' (lnOf crew x (k + 1))) := Lib.hid (by rw [lnOf_yes HX.out]; exact Grow.snoc hown')
          have G4 : Hid (Below w.heap.size w w4) := (hbel.out.alloc (by omega) _).grown hgrow (by simp; omega) (fun j hj => by have := hgr.out.row j hj; omega)
          have z4 : w.heap.size ≤ w4.heap.size := by have := hgrow.size; simp at this; omega
          clear hown' hgrow)
        go_roundw
        case rel => exact ⟨k + 1, _, by omega, rfl, by go_num, R4, G4⟩
        case measure => simp [intOf]; omega
      · have NX := Lib.hid (lnOf_no HX.out he)
        go_wp2_with fail
        go_roundw
        case rel => exact ⟨k + 1, _, by omega, rfl, by go_num, Lib.hid (by rw [NX.out]; (repeat' (first | (with_reducible assumption) | (refine Hid.out ?_; with_reducible assumption) | (with_reducible refine Grow.far ?_ (by first | omega | (simp; done) | (simp; omega) | (simp only [World.size_alloc, World.size_setCell, World.size_drew] at *; omega)) _) | (with_reducible refine Grow.farO ?_ (by first | omega | (simp; done) | (simp; omega) | (simp only [World.size_alloc, World.size_setCell, World.size_drew] at *; omega)) _) | (with_reducible refine Grow.alloc ?_ _) | (with_reducible refine Grow.drewN ?_ _) | (with_reducible refine Grow.drew ?_) | (apply Grow.only; (with_reducible assumption); exact (by first | omega | (simp; done) | (simp; omega) | (simp only [World.size_alloc, World.size_setCell, World.size_drew] at *; omega))) | (apply Grow.belowD; (with_reducible assumption))))), by (refine Lib.hid ?_; (repeat' (first | (with_reducible exact Below.refl _ _) | (with_reducible refine belS ?_ (by first | omega | (simp; done) | (simp; omega) | (simp only [World.size_alloc, World.size_setCell, World.size_drew] at *; omega))) | (with_reducible refine belA ?_ (by first | omega | (simp; done) | (simp; omega) | (simp only [World.size_alloc, World.size_setCell, World.size_drew] at *; omega))) | (with_reducible refine bel_drewN ?_ _) | (with_reducible refine Below.drew ?_) | (with_reducible assumption) | (refine Hid.out ?_; with_reducible assumption) | (apply belV; (with_reducible assumption); exact (by first | omega | (simp; done) | (simp; omega) | (simp only [World.size_alloc, World.size_setCell, World.size_drew] at *; omega))))))⟩
        case measure => simp [intOf]; omega
    · have hke : k = crew.length := by have := HL.out; omega
      have HK := Lib.hid hke; clear hke
      go_wp2_with fail
      go_ret
      rw [← HK.out]
      exact SliceEnd.grow hgr.out (Nat.le_refl _) (lnOf_bd crew p (by unfold maxLen; omega)) (by have := lnOf_len crew p k; omega) hbel.out

set_option maxHeartbeats 4000000 in
theorem impl_validCrew (A A' : Option Addr) (n n' c c' : Nat) (ds : List (Int × Int)) (crew : List Int) (w : World) (hI : DutS w A n ds) (hn : n ≤ maxLen) (hJ : Ints w A' n' crew) (hn' : n' ≤ maxLen) :
    Calls Try.prog 84 #[.slice A n c, .slice A' n' c'] w fun e w' => e = .returned (.bool (crewIn ds crew)) ∧ Below w.heap.size w w' := by
  have hm := hn
  unfold maxLen at hm
  have HL := Lib.hid hI.len
  have HL' := Lib.hid hJ.len
  have HI := Lib.hid hI; clear hI
  have HJ := Lib.hid hJ; clear hJ
  cases h1 : vDut ds
  · have E := Lib.hid (crewIn_1 (crew := crew) h1)
    go_enter Try.func84, Try.ntmps84
    go_wp2_with fail
    refine (impl_validDuties _ _ _ ds _ (HI.out.below (by (repeat' (first | (with_reducible exact Below.refl _ _) | (with_reducible refine belS ?_ (by first | omega | (simp; done) | (simp; omega) | (simp only [World.size_alloc, World.size_setCell, World.size_drew] at *; omega))) | (with_reducible refine belA ?_ (by first | omega | (simp; done) | (simp; omega) | (simp only [World.size_alloc, World.size_setCell, World.size_drew] at *; omega))) | (with_reducible refine bel_drewN ?_ _) | (with_reducible refine Below.drew ?_) | (with_reducible assumption) | (refine Hid.out ?_; with_reducible assumption) | (apply belV; (with_reducible assumption); exact (by first | omega | (simp; done) | (simp; omega) | (simp only [World.size_alloc, World.size_setCell, World.size_drew] at *; omega))))))) hn).mono ?_
    rintro e wa ⟨rfl, hb⟩
    have Ga : Hid (Below w.heap.size w wa) := belU hb (by (repeat' (first | (with_reducible exact Below.refl _ _) | (with_reducible refine belS ?_ (by first | omega | (simp; done) | (simp; omega) | (simp only [World.size_alloc, World.size_setCell, World.size_drew] at *; omega))) | (with_reducible refine belA ?_ (by first | omega | (simp; done) | (simp; omega) | (simp only [World.size_alloc, World.size_setCell, World.size_drew] at *; omega))) | (with_reducible refine bel_drewN ?_ _) | (with_reducible refine Below.drew ?_) | (with_reducible assumption) | (refine Hid.out ?_; with_reducible assumption) | (apply belV; (with_reducible assumption); exact (by first | omega | (simp; done) | (simp; omega) | (simp only [World.size_alloc, World.size_setCell, World.size_drew] at *; omega)))))) (by first | omega | (simp; done) | (simp; omega) | (simp only [World.size_alloc, World.size_setCell, World.size_drew] at *; omega))
    have za := hb.size
    (try simp at za)
    have Da := Lib.hid hb; clear hb
    rw [h1]
    go_wp2_with fail
    go_ret
    exact ⟨ret_b E.out.symm, by (repeat' (first | (with_reducible exact Below.refl _ _) | (with_reducible refine belS ?_ (by first | omega | (simp; done) | (simp; omega) | (simp only [World.size_alloc, World.size_setCell, World.size_drew] at *; omega))) | (with_reducible refine belA ?_ (by first | omega | (simp; done) | (simp; omega) | (simp only [World.size_alloc, World.size_setCell, World.size_drew] at *; omega))) | (with_reducible refine bel_drewN ?_ _) | (with_reducible refine Below.drew ?_) | (with_reducible assumption) | (refine Hid.out ?_; with_reducible assumption) | (apply belV; (with_reducible assumption); exact (by first | omega | (simp; done) | (simp; omega) | (simp only [World.size_alloc, World.size_setCell, World.size_drew] at *; omega)))))⟩
  by_cases h2 : n' = n
  rotate_left
  · have E := Lib.hid (crewIn_2 (ds := ds) (crew := crew) (by rw [HL.out, HL'.out]; exact h2))
    have hd : (n' == n) = false := by simp [h2]
    go_enter Try.func84, Try.ntmps84
    go_wp2_with fail
    refine (impl_validDuties _ _ _ ds _ (HI.out.below (by (repeat' (first | (with_reducible exact Below.refl _ _) | (with_reducible refine belS ?_ (by first | omega | (simp; done) | (simp; omega) | (simp only [World.size_alloc, World.size_setCell, World.size_drew] at *; omega))) | (with_reducible refine belA ?_ (by first | omega | (simp; done) | (simp; omega) | (simp only [World.size_alloc, World.size_setCell, World.size_drew] at *; omega))) | (with_reducible refine bel_drewN ?_ _) | (with_reducible refine Below.drew ?_) | (with_reducible assumption) | (refine Hid.out ?_; with_reducible assumption) | (apply belV; (with_reducible assumption); exact (by first | omega | (simp; done) | (simp; omega) | (simp only [World.size_alloc, World.size_setCell, World.size_drew] at *; omega))))))) hn).mono ?_
    rintro e wa ⟨rfl, hb⟩
    have Ga : Hid (Below w.heap.size w wa) := belU hb (by (repeat' (first | (with_reducible exact Below.refl _ _) | (with_reducible refine belS ?_ (by first | omega | (simp; done) | (simp; omega) | (simp only [World.size_alloc, World.size_setCell, World.size_drew] at *; omega))) | (with_reducible refine belA ?_ (by first | omega | (simp; done) | (simp; omega) | (simp only [World.size_alloc, World.size_setCell, World.size_drew] at *; omega))) | (with_reducible refine bel_drewN ?_ _) | (with_reducible refine Below.drew ?_) | (with_reducible assumption) | (refine Hid.out ?_; with_reducible assumption) | (apply belV; (with_reducible assumption); exact (by first | omega | (simp; done) | (simp; omega) | (simp only [World.size_alloc, World.size_setCell, World.size_drew] at *; omega)))))) (by first | omega | (simp; done) | (simp; omega) | (simp only [World.size_alloc, World.size_setCell, World.size_drew] at *; omega))
    have za := hb.size
    (try simp at za)
    have Da := Lib.hid hb; clear hb
    rw [h1]
    go_wp2_with fail
    go_ret
    exact ⟨ret_b E.out.symm, by (repeat' (first | (with_reducible exact Below.refl _ _) | (with_reducible refine belS ?_ (by first | omega | (simp; done) | (simp; omega) | (simp only [World.size_alloc, World.size_setCell, World.size_drew] at *; omega))) | (with_reducible refine belA ?_ (by first | omega | (simp; done) | (simp; omega) | (simp only [World.size_alloc, World.size_setCell, World.size_drew] at *; omega))) | (with_reducible refine bel_drewN ?_ _) | (with_reducible refine Below.drew ?_) | (with_reducible assumption) | (refine Hid.out ?_; with_reducible assumption) | (apply belV; (with_reducible assumption); exact (by first | omega | (simp; done) | (simp; omega) | (simp only [World.size_alloc, World.size_setCell, World.size_drew] at *; omega)))))⟩
  have E : Hid (crewIn ds crew = vInts crew 0 ((n : Int) - 1)) := Lib.hid (by have := crewIn_3 (crew := crew) h1 (by rw [HL.out, HL'.out]; exact h2); rw [HL.out] at this; exact this)
  subst h2
  go_enter Try.func84, Try.ntmps84
  go_wp2_with fail
  refine (impl_validDuties _ _ _ ds _ (HI.out.below (by (repeat' (first | (with_reducible exact Below.refl _ _) | (with_reducible refine belS ?_ (by first | omega | (simp; done) | (simp; omega) | (simp only [World.size_alloc, World.size_setCell, World.size_drew] at *; omega))) | (with_reducible refine belA ?_ (by first | omega | (simp; done) | (simp; omega) | (simp only [World.size_alloc, World.size_setCell, World.size_drew] at *; omega))) | (with_reducible refine bel_drewN ?_ _) | (with_reducible refine Below.drew ?_) | (with_reducible assumption) | (refine Hid.out ?_; with_reducible assumption) | (apply belV; (with_reducible assumption); exact (by first | omega | (simp; done) | (simp; omega) | (simp only [World.size_alloc, World.size_setCell, World.size_drew] at *; omega))))))) hn).mono ?_
  rintro e wa ⟨rfl, hb⟩
  have Ga : Hid (Below w.heap.size w wa) := belU hb (by (repeat' (first | (with_reducible exact Below.refl _ _) | (with_reducible refine belS ?_ (by first | omega | (simp; done) | (simp; omega) | (simp only [World.size_alloc, World.size_setCell, World.size_drew] at *; omega))) | (with_reducible refine belA ?_ (by first | omega | (simp; done) | (simp; omega) | (simp only [World.size_alloc, World.size_setCell, World.size_drew] at *; omega))) | (with_reducible refine bel_drewN ?_ _) | (with_reducible refine Below.drew ?_) | (with_reducible assumption) | (refine Hid.out ?_; with_reducible assumption) | (apply belV; (with_reducible assumption); exact (by first | omega | (simp; done) | (simp; omega) | (simp only [World.size_alloc, World.size_setCell, World.size_drew] at *; omega)))))) (by first | omega | (simp; done) | (simp; omega) | (simp only [World.size_alloc, World.size_setCell, World.size_drew] at *; omega))
  have za := hb.size
  (try simp at za)
  have Da := Lib.hid hb; clear hb
  rw [h1]
  go_wp2_with (go_at_call 124; ((with_reducible refine (impl_allInRange _ _ _ _ _ crew _ (HJ.out.below (by (repeat' (first | (with_reducible exact Below.refl _ _) | (with_reducible refine belS ?_ (by first | omega | (simp; done) | (simp; omega) | (simp only [World.size_alloc, World.size_setCell, World.size_drew] at *; omega))) | (with_reducible refine belA ?_ (by first | omega | (simp; done) | (simp; omega) | (simp only [World.size_alloc, World.size_setCell, World.size_drew] at *; omega))) | (with_reducible refine bel_drewN ?_ _) | (with_reducible refine Below.drew ?_) | (with_reducible assumption) | (refine Hid.out ?_; with_reducible assumption) | (apply belV; (with_reducible assumption); exact (by first | omega | (simp; done) | (simp; omega) | (simp only [World.size_alloc, World.size_setCell, World.size_drew] at *; omega))))))) hn').mono ?_); rintro e w' ⟨rfl, rfl⟩))
  go_ret
  exact ⟨ret_b E.out.symm, by (repeat' (first | (with_reducible exact Below.refl _ _) | (with_reducible refine belS ?_ (by first | omega | (simp; done) | (simp; omega) | (simp only [World.size_alloc, World.size_setCell, World.size_drew] at *; omega))) | (with_reducible refine belA ?_ (by first | omega | (simp; done) | (simp; omega) | (simp only [World.size_alloc, World.size_setCell, World.size_drew] at *; omega))) | (with_reducible refine bel_drewN ?_ _) | (with_reducible refine Below.drew ?_) | (with_reducible assumption) | (refine Hid.out ?_; with_reducible assumption) | (apply belV; (with_reducible assumption); exact (by first | omega | (simp; done) | (simp; omega) | (simp only [World.size_alloc, World.size_setCell, World.size_drew] at *; omega)))))⟩
set_option maxHeartbeats 4000000 in
theorem impl_personsUpTo (A : Option Addr) (n c : Nat) (crew : List Int) (m : Int) (w : World) (hI : Ints w A n crew) (hn : n ≤ maxLen) (hm : 0 ≤ m ∧ m ≤ 1048576) (hc : ∀ x ∈ crew, 0 ≤ x ∧ x < m) :
    Calls Try.prog 87 #[.slice A n c] w fun e w' => e = .returned (.int .i64 (pers crew crew.length)) ∧ w = w' := by
  unfold maxLen at hn
  have HL := Lib.hid hI.len
  have HI := Lib.hid hI; clear hI
  have HC := Lib.hid hc; clear hc
  go_enter Try.func87, Try.ntmps87
  go_wp2
  go_loop [3, 5, 8] (fun s3 s5 s8 => ∃ (k : Nat) (v : Value), k ≤ n ∧ s3 = .int .i64 (pers crew k) ∧ s5 = v ∧ s8 = .int .i64 k) (fun _ _ s8 => n - (intOf s8).toNat)
  case atStart => exact ⟨0, _, by omega, rfl, rfl, rfl⟩
  case round =>
    obtain ⟨k, v, hk, rfl, rfl, rfl⟩ := hrel
    by_cases hlt : k < n
    · obtain ⟨b, off, x, rfl, hb, hx, hlo, hhi, hcc⟩ := HI.out.at_ hlt
      have NX := Lib.hid (pers_step hx)
      obtain ⟨x0, x1⟩ := HC.out x (List.mem_of_getElem? hx)
      obtain ⟨p0, p1⟩ := pers_bd hm.1 HC.out k (by rw [HL.out]; omega)
      clear hx
      go_wp2
      go_round
      case rel => exact ⟨k + 1, _, by omega, by rw [NX.out]; congr 1; split <;> omega, rfl, by go_num⟩
      case measure => simp [intOf]; omega
    · have hke : k = crew.length := by have := HL.out; omega
      have HK := Lib.hid hke; clear hke
      go_wp2
      go_ret
      exact ⟨ret_i (by rw [HK.out]), rfl⟩
set_option maxHeartbeats 4000000 in
theorem spec_persons (A : Option Addr) (n c : Nat) (crew : List Int) (m : Int) (w : World) (hI : Ints w A n crew) (hn : n ≤ maxLen) (hm : 0 ≤ m ∧ m ≤ 1048576) (hc : ∀ x ∈ crew, 0 ≤ x ∧ x < m) :
    Calls Try.prog 86 #[.slice A n c] w fun e w' => e = .returned (.int .i64 (pers crew crew.length)) ∧ w = w' := by
  unfold maxLen at hn
  have HL := Lib.hid hI.len
  have HI := Lib.hid hI; clear hI
  have HC := Lib.hid hc; clear hc
  go_enter Try.func86, Try.ntmps86
  go_wp2
  go_loop [3, 4] (fun s3 s4 => ∃ k : Nat, k ≤ n ∧ s3 = .int .i64 (pers crew k) ∧ s4 = .int .i64 k) (fun _ s4 => n - (intOf s4).toNat)
  case atStart => exact ⟨0, by omega, rfl, rfl⟩
  case round =>
    obtain ⟨k, hk, rfl, rfl⟩ := hrel
    by_cases hlt : k < n
    · obtain ⟨b, off, x, rfl, hb, hx, hlo, hhi, hcc⟩ := HI.out.at_ hlt
      have NX := Lib.hid (pers_step hx)
      obtain ⟨x0, x1⟩ := HC.out x (List.mem_of_getElem? hx)
      obtain ⟨p0, p1⟩ := pers_bd hm.1 HC.out k (by rw [HL.out]; omega)
      clear hx
      go_wp2
      go_round
      case rel => exact ⟨k + 1, by omega, by rw [NX.out]; congr 1; split <;> omega, by go_num⟩
      case measure => simp [intOf]; omega
    · have hke : k = crew.length := by have := HL.out; omega
      have HK := Lib.hid hke; clear hke
      go_wp2
      go_ret
      exact ⟨ret_i (by rw [HK.out]), rfl⟩
end Go.Proofs.Ytjbgjljcgdligaa
