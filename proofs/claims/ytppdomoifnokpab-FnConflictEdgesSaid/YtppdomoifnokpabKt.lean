
/-
  Tables of values: what the program's functions and the model's answer.
-/
import Derived.Test.YtppdomoifnokpabKv
import Derived.Test.YtppdomoifnokpabVi
import Derived.BigRegion
set_option linter.unusedSimpArgs false
set_option linter.unusedVariables false
namespace Go.Proofs.Ytppdomoifnokpab
open Go.RowKit

theorem kin_next1 {t : List Int} {C W j r q : Nat} {v p s : Int} (hr : r + j = C) (hq : q + W = r) (hp : p = (kin t C W v j).getD r 0) (hs : s = (kin t C W v j).getD q 0) (h : p < wrap64 (s + v)) : (kin t C W v j).set r (wrap64 (s + v)) = kin t C W v (j + 1) := by
  have e1 : C - j = r := by omega
  have e2 : r - W = q := by omega
  show _ = kstep _ _ _ _
  unfold kstep
  rw [e1, e2, ← hp, ← hs, Int.max_def, if_pos (by omega)]
theorem kin_next2 {t : List Int} {C W j r q : Nat} {v p s : Int} (hr : r + j = C) (hq : q + W = r) (hp : p = (kin t C W v j).getD r 0) (hs : s = (kin t C W v j).getD q 0) (h : ¬ p < wrap64 (s + v)) : (kin t C W v j).set r p = kin t C W v (j + 1) := by
  have e1 : C - j = r := by omega
  have e2 : r - W = q := by omega
  show _ = kstep _ _ _ _
  unfold kstep
  rw [e1, e2, ← hp, ← hs, Int.max_def]
  split
  · congr 1; omega
  · rfl
theorem kout_next {vs ws : List Int} {C k j W : Nat} {v : Int} (hx : ws[k]? = some (W : Int)) (hv : vs[k]? = some v) (hj : j = C + 1 - W) : kin (kout vs ws C k) C W v j = kout vs ws C (k + 1) := by
  show _ = kin _ _ _ _ _
  rw [getD_of hx, getD_of hv, Int.toNat_natCast, hj]

set_option maxHeartbeats 8000000 in
set_option maxRecDepth 100000 in
theorem impl_bestValues (A A' : Option Addr) (n n' c c' : Nat) (a : Int) (C : Nat) (vs ws : List Int) (w : World) (hI : Ints w A n vs) (hJ : Ints w A' n' ws) (ha : a = C) (hn : n' ≤ n) (hn' : n ≤ 1000) (hC : C ≤ 99) (hw : ∀ x ∈ ws, 1 ≤ x ∧ x ≤ 20) :
    Calls Try.prog 56 #[.slice A n c, .slice A' n' c', .int .i64 a] w (SliceEnd (ktab vs ws C) w) := by
  obtain ⟨i0, hi0, hz0, hz1, hz2⟩ := info_parts info_int
  subst ha
  have HI := Lib.hid hI; clear hI
  have HL := Lib.hid hJ.len
  have HJ := Lib.hid hJ; clear hJ
  have HW := Lib.hid hw; clear hw
  have hmk := fun W => run_makeN (P := Try.prog) 23 3 i0 (.int .i64 0) Try.underlying23 hi0 hz0 (C + 1) (by rw [hz2]; omega) (by omega) W
  simp only [hz1, Nat.mul_one, Int.natCast_add, Int.cast_ofNat_Int] at hmk
  go_enter Try.func56, Try.ntmps56
  go_wp2_with fail
  clear hmk
  go_loopw [8, 9, 10, 16] (fun s8 s9 s10 s16 wr => ∃ (k : Nat) (u8 u9 u10 : Value), k ≤ n' ∧ s8 = u8 ∧ s9 = u9 ∧ s10 = u10 ∧ s16 = .int .i64 k ∧ Hid (OwnI wr w.heap.size (kout vs ws C k)) ∧ Hid (Below w.heap.size w wr)) (fun _ _ _ s16 _ => n' - (intOf s16).toNat)
  case atStart => exact ⟨0, _, _, _, by omega, rfl, rfl, rfl, rfl, Lib.hid (by simp only [kout]; (repeat' (first | (with_reducible exact OwnI.madeAt _ _ _ (by first | omega | (simp; done) | (simp; omega) | (simp only [World.size_alloc, World.size_setCell, World.size_drew] at *; omega))) | (with_reducible refine OwnI.far ?_ (by first | omega | (simp; done) | (simp; omega) | (simp only [World.size_alloc, World.size_setCell, World.size_drew] at *; omega)) _) | (with_reducible refine OwnI.alloc ?_ _) | (with_reducible refine OwnI.drewN ?_ _) | (with_reducible refine OwnI.drew ?_) | (with_reducible assumption) | (refine Hid.out ?_; with_reducible assumption) | (apply OwnI.turn; (with_reducible assumption); exact (by first | omega | (simp; done) | (simp; omega) | (simp only [World.size_alloc, World.size_setCell, World.size_drew] at *; omega))) | (apply OwnI.only; (with_reducible assumption); exact (by first | omega | (simp; done) | (simp; omega) | (simp only [World.size_alloc, World.size_setCell, World.size_drew] at *; omega))) | (apply OwnI.belowD; (with_reducible assumption))))), by (refine Lib.hid ?_; (repeat' (first | (with_reducible exact Below.refl _ _) | (with_reducible refine belS ?_ (by first | omega | (simp; done) | (simp; omega) | (simp only [World.size_alloc, World.size_setCell, World.size_drew] at *; omega))) | (with_reducible refine belA ?_ (by first | omega | (simp; done) | (simp; omega) | (simp only [World.size_alloc, World.size_setCell, World.size_drew] at *; omega))) | (with_reducible refine bel_drewN ?_ _) | (with_reducible refine Below.drew ?_) | (with_reducible assumption) | (refine Hid.out ?_; with_reducible assumption) | (apply belV; (with_reducible assumption); exact (by first | omega | (simp; done) | (simp; omega) | (simp only [World.size_alloc, World.size_setCell, World.size_drew] at *; omega))))))⟩
  case round =>
    obtain ⟨k, u8, u9, u10, hk, rfl, rfl, rfl, rfl, hown, hbel⟩ := hrel
    by_cases hlt : k < n'
    · have HJ1 : Ints wr A' n' ws := HJ.out.below (by (repeat' (first | (with_reducible exact Below.refl _ _) | (with_reducible refine belS ?_ (by first | omega | (simp; done) | (simp; omega) | (simp only [World.size_alloc, World.size_setCell, World.size_drew] at *; omega))) | (with_reducible refine belA ?_ (by first | omega | (simp; done) | (simp; omega) | (simp only [World.size_alloc, World.size_setCell, World.size_drew] at *; omega))) | (with_reducible refine bel_drewN ?_ _) | (with_reducible refine Below.drew ?_) | (with_reducible assumption) | (refine Hid.out ?_; with_reducible assumption) | (apply belV; (with_reducible assumption); exact (by first | omega | (simp; done) | (simp; omega) | (simp only [World.size_alloc, World.size_setCell, World.size_drew] at *; omega))))))
      obtain ⟨b', off', x, rfl, hb', hx, hxlo, hxhi, hcx⟩ := HJ1.at_ hlt
      clear HJ1
      obtain ⟨x1, x2⟩ := HW.out x (List.mem_of_getElem? hx)
      obtain ⟨W, rfl⟩ := Int.eq_ofNat_of_zero_le (show 0 ≤ x by omega)
      have HX := Lib.hid hx; clear hx
      have HI1 : Ints wr A n vs := HI.out.below (by (repeat' (first | (with_reducible exact Below.refl _ _) | (with_reducible refine belS ?_ (by first | omega | (simp; done) | (simp; omega) | (simp only [World.size_alloc, World.size_setCell, World.size_drew] at *; omega))) | (with_reducible refine belA ?_ (by first | omega | (simp; done) | (simp; omega) | (simp only [World.size_alloc, World.size_setCell, World.size_drew] at *; omega))) | (with_reducible refine bel_drewN ?_ _) | (with_reducible refine Below.drew ?_) | (with_reducible assumption) | (refine Hid.out ?_; with_reducible assumption) | (apply belV; (with_reducible assumption); exact (by first | omega | (simp; done) | (simp; omega) | (simp only [World.size_alloc, World.size_setCell, World.size_drew] at *; omega))))))
      obtain ⟨bv, offv, v, rfl, hbv, hv, _, _, _⟩ := HI1.at_ (show k < n by omega)
      clear HI1
      have HV := Lib.hid hv; clear hv
      have LO := Lib.hid (kout_len vs ws C k)
      go_wp2_with fail
      go_loopw [10] (fun s10 wr => ∃ (j r : Nat), r + j = C ∧ j ≤ C + 1 - W ∧ s10 = .int .i64 r ∧ Hid (OwnI wr w.heap.size (kin (kout vs ws C k) C W v j)) ∧ Hid (Below w.heap.size w wr)) (fun s10 _ => (intOf s10).toNat)
      case atStart => exact ⟨0, C, by omega, by omega, rfl, hown, hbel⟩
      case round =>
        obtain ⟨j, r, hrj, hj, rfl, hown2, hbel2⟩ := hrel
        by_cases hge : W ≤ r
        · obtain ⟨q, hq⟩ : ∃ q : Nat, q + W = r := ⟨r - W, by omega⟩
          have lk := kin_len (kout vs ws C k) C W v j
          rw [LO.out] at lk
          obtain ⟨o1, o2⟩ := hown2.out.at_ (k := r) (by omega)
          obtain ⟨o3, o4⟩ := hown2.out.at_ (k := q) (by omega)
          have gt : (kin (kout vs ws C k) C W v j)[r]? = some ((kin (kout vs ws C k) C W v j).getD r 0) := getD_mem (by omega)
          have GT := Lib.hid gt; clear gt lk
          obtain ⟨p, hp⟩ : ∃ p, p = (kin (kout vs ws C k) C W v j).getD r 0 := ⟨_, rfl⟩
          obtain ⟨s, hs⟩ : ∃ s, s = (kin (kout vs ws C k) C W v j).getD q 0 := ⟨_, rfl⟩
          rw [← hp] at o1
          rw [← hs] at o3
          have HP := Lib.hid hp; clear hp
          have HS := Lib.hid hs; clear hs
          have HI2 : Ints wr (some ⟨bv, offv, none⟩) n vs := HI.out.below (by (repeat' (first | (with_reducible exact Below.refl _ _) | (with_reducible refine belS ?_ (by first | omega | (simp; done) | (simp; omega) | (simp only [World.size_alloc, World.size_setCell, World.size_drew] at *; omega))) | (with_reducible refine belA ?_ (by first | omega | (simp; done) | (simp; omega) | (simp only [World.size_alloc, World.size_setCell, World.size_drew] at *; omega))) | (with_reducible refine bel_drewN ?_ _) | (with_reducible refine Below.drew ?_) | (with_reducible assumption) | (refine Hid.out ?_; with_reducible assumption) | (apply belV; (with_reducible assumption); exact (by first | omega | (simp; done) | (simp; omega) | (simp only [World.size_alloc, World.size_setCell, World.size_drew] at *; omega))))))
          obtain ⟨_, _, v', e, _, hv', _, _, hcv⟩ := HI2.at_ (show k < n by omega)
          injection e with e; injection e with e1 e2; subst e1 e2
          rw [HV.out] at hv'
          injection hv' with hv'
          subst hv'
          clear HI2
          have eqw : IntKind.i64.wrap ((r : Int) - (W : Int)) = (q : Int) := by rw [IntWalk.i64_in _ ⟨by omega, by omega⟩]; omega
          have eqv : (r : Int) - (W : Int) = (q : Int) := by omega
          by_cases hm : p < wrap64 (s + v)
          · have NX := Lib.hid (kin_next1 hrj hq HP.out HS.out hm)
            go_wp2_with fail
            go_region
            all_goals
              go_wp2
              go_roundw
              case rel => exact ⟨j + 1, r - 1, by omega, by omega, by go_num, Lib.hid (by rw [← NX.out]; first | exact (hown2.out.set_ GT.out _).drew | exact (hown2.out.set_ GT.out _)), by (refine Lib.hid ?_; (repeat' (first | (with_reducible exact Below.refl _ _) | (with_reducible refine belS ?_ (by first | omega | (simp; done) | (simp; omega) | (simp only [World.size_alloc, World.size_setCell, World.size_drew] at *; omega))) | (with_reducible refine belA ?_ (by first | omega | (simp; done) | (simp; omega) | (simp only [World.size_alloc, World.size_setCell, World.size_drew] at *; omega))) | (with_reducible refine bel_drewN ?_ _) | (with_reducible refine Below.drew ?_) | (with_reducible assumption) | (refine Hid.out ?_; with_reducible assumption) | (apply belV; (with_reducible assumption); exact (by first | omega | (simp; done) | (simp; omega) | (simp only [World.size_alloc, World.size_setCell, World.size_drew] at *; omega))))))⟩
              case measure => simp [intOf]; omega
          · have NX := Lib.hid (kin_next2 hrj hq HP.out HS.out hm)
            go_wp2_with fail
            go_region
            all_goals
              go_wp2
              go_roundw
              case rel => exact ⟨j + 1, r - 1, by omega, by omega, by go_num, Lib.hid (by rw [← NX.out]; first | exact (hown2.out.set_ GT.out _).drew | exact (hown2.out.set_ GT.out _)), by (refine Lib.hid ?_; (repeat' (first | (with_reducible exact Below.refl _ _) | (with_reducible refine belS ?_ (by first | omega | (simp; done) | (simp; omega) | (simp only [World.size_alloc, World.size_setCell, World.size_drew] at *; omega))) | (with_reducible refine belA ?_ (by first | omega | (simp; done) | (simp; omega) | (simp only [World.size_alloc, World.size_setCell, World.size_drew] at *; omega))) | (with_reducible refine bel_drewN ?_ _) | (with_reducible refine Below.drew ?_) | (with_reducible assumption) | (refine Hid.out ?_; with_reducible assumption) | (apply belV; (with_reducible assumption); exact (by first | omega | (simp; done) | (simp; omega) | (simp only [World.size_alloc, World.size_setCell, World.size_drew] at *; omega))))))⟩
              case measure => simp [intOf]; omega
        · have NX := Lib.hid (kout_next (C := C) (j := j) HX.out HV.out (by omega))
          go_wp2_with fail
          go_roundw
          case rel => exact ⟨k + 1, _, _, _, by omega, rfl, rfl, rfl, by go_num, Lib.hid (by rw [← NX.out]; exact hown2.out), hbel2⟩
          case measure => simp [intOf]; omega
    · have hke : k = n' := by omega
      subst hke
      go_wp2_with fail
      go_ret
      refine ⟨some ⟨w.heap.size, 0, none⟩, C + 1, by rw [ktab_len]; rfl, OwnS.of_own ?_ (Nat.le_refl _) hown.out.1 (ktab_bd vs ws C).1 ((ktab_bd vs ws C).2 (by omega)), hbel.out⟩
      unfold ktab
      rw [HL.out]
      exact hown.out
end Go.Proofs.Ytppdomoifnokpab
