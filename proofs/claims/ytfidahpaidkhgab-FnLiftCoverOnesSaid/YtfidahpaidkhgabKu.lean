
/-
  Tables of values, more: the model's table, single best values, and what KnapsackTable answers.
-/
import Derived.Test.YtfidahpaidkhgabKt
set_option linter.unusedSimpArgs false
set_option linter.unusedVariables false
namespace Go.Proofs.Ytfidahpaidkhgab
open Go.RowKit

theorem OwnS.widen {w : World} {lo hi lo' hi' : Nat} {A : Option Addr} {xs : List Int} (h : OwnS w lo hi A xs) (h1 : lo' ≤ lo) (h2 : hi ≤ hi') : OwnS w lo' hi' A xs := by
  obtain ⟨h0 | ⟨g, e, a, b, c⟩, h4⟩ := h
  · exact ⟨.inl h0, h4⟩
  · exact ⟨.inr ⟨g, e, by omega, by omega, c⟩, h4⟩
theorem SliceEnd.pass {L L' : List Int} {w w' : World} {A : Option Addr} {c lo hi : Nat} (e : L' = L) (h : OwnS w' lo hi A L) (h1 : w.heap.size ≤ lo) (h2 : hi ≤ w'.heap.size) (hb : Below w.heap.size w w') : SliceEnd L' w (.returned (.slice A L.length c)) w' := by
  subst e
  exact ⟨A, c, rfl, h.widen h1 h2, hb⟩

set_option maxHeartbeats 8000000 in
set_option maxRecDepth 100000 in
theorem spec_knapsackTable (A A' : Option Addr) (n n' c c' : Nat) (a : Int) (C : Nat) (vs ws : List Int) (w : World) (hI : Ints w A n vs) (hJ : Ints w A' n' ws) (ha : a = C) (hn : n' = n) (hn' : n ≤ 1000) (hC : C ≤ 99) (hw : ∀ x ∈ ws, 1 ≤ x ∧ x ≤ 20) :
    Calls Try.prog 47 #[.slice A n c, .slice A' n' c', .int .i64 a] w (SliceEnd (ktab vs ws C) w) := by
  obtain ⟨i0, hi0, hz0, hz1, hz2⟩ := info_parts info_int
  subst ha
  subst hn
  have HI := Lib.hid hI; clear hI
  have HL := Lib.hid hJ.len
  have HJ := Lib.hid hJ; clear hJ
  have HW := Lib.hid hw; clear hw
  have hmk := fun W => run_makeN (P := Try.prog) 23 3 i0 (.int .i64 0) Try.underlying23 hi0 hz0 (C + 1) (by rw [hz2]; omega) (by omega) W
  simp only [hz1, Nat.mul_one, Int.natCast_add, Int.cast_ofNat_Int] at hmk
  go_enter Try.func47, Try.ntmps47
  go_wp2_with fail
  clear hmk
  go_loopw [8, 9] (fun s8 s9 wr => ∃ (k : Nat) (u9 : Value), k ≤ n' ∧ s8 = .int .i64 k ∧ s9 = u9 ∧ Hid (OwnI wr w.heap.size (kout vs ws C k)) ∧ Hid (Below w.heap.size w wr)) (fun s8 _ _ => n' - (intOf s8).toNat)
  case atStart => exact ⟨0, _, by omega, rfl, rfl, Lib.hid (by simp only [kout]; (repeat' (first | (with_reducible exact OwnI.madeAt _ _ _ (by first | omega | (simp; done) | (simp; omega) | (simp only [World.size_alloc, World.size_setCell, World.size_drew] at *; omega))) | (with_reducible refine OwnI.far ?_ (by first | omega | (simp; done) | (simp; omega) | (simp only [World.size_alloc, World.size_setCell, World.size_drew] at *; omega)) _) | (with_reducible refine OwnI.alloc ?_ _) | (with_reducible refine OwnI.drewN ?_ _) | (with_reducible refine OwnI.drew ?_) | (with_reducible assumption) | (refine Hid.out ?_; with_reducible assumption) | (apply OwnI.turn; (with_reducible assumption); exact (by first | omega | (simp; done) | (simp; omega) | (simp only [World.size_alloc, World.size_setCell, World.size_drew] at *; omega))) | (apply OwnI.only; (with_reducible assumption); exact (by first | omega | (simp; done) | (simp; omega) | (simp only [World.size_alloc, World.size_setCell, World.size_drew] at *; omega))) | (apply OwnI.belowD; (with_reducible assumption))))), by (refine Lib.hid ?_; (repeat' (first | (with_reducible exact Below.refl _ _) | (with_reducible refine belS ?_ (by first | omega | (simp; done) | (simp; omega) | (simp only [World.size_alloc, World.size_setCell, World.size_drew] at *; omega))) | (with_reducible refine belA ?_ (by first | omega | (simp; done) | (simp; omega) | (simp only [World.size_alloc, World.size_setCell, World.size_drew] at *; omega))) | (with_reducible refine bel_drewN ?_ _) | (with_reducible refine Below.drew ?_) | (with_reducible assumption) | (refine Hid.out ?_; with_reducible assumption) | (apply belV; (with_reducible assumption); exact (by first | omega | (simp; done) | (simp; omega) | (simp only [World.size_alloc, World.size_setCell, World.size_drew] at *; omega))))))⟩
  case round =>
    obtain ⟨k, u9, hk, rfl, rfl, hown, hbel⟩ := hrel
    by_cases hlt : k < n'
    · have HJ1 : Ints wr A' n' ws := HJ.out.below (by (repeat' (first | (with_reducible exact Below.refl _ _) | (with_reducible refine belS ?_ (by first | omega | (simp; done) | (simp; omega) | (simp only [World.size_alloc, World.size_setCell, World.size_drew] at *; omega))) | (with_reducible refine belA ?_ (by first | omega | (simp; done) | (simp; omega) | (simp only [World.size_alloc, World.size_setCell, World.size_drew] at *; omega))) | (with_reducible refine bel_drewN ?_ _) | (with_reducible refine Below.drew ?_) | (with_reducible assumption) | (refine Hid.out ?_; with_reducible assumption) | (apply belV; (with_reducible assumption); exact (by first | omega | (simp; done) | (simp; omega) | (simp only [World.size_alloc, World.size_setCell, World.size_drew] at *; omega))))))
      obtain ⟨b', off', x, rfl, hb', hx, hxlo, hxhi, hcx⟩ := HJ1.at_ hlt
      clear HJ1 hcx
      obtain ⟨x1, x2⟩ := HW.out x (List.mem_of_getElem? hx)
      obtain ⟨W, rfl⟩ := Int.eq_ofNat_of_zero_le (show 0 ≤ x by omega)
      have HX := Lib.hid hx; clear hx
      have HI1 : Ints wr A n' vs := HI.out.below (by (repeat' (first | (with_reducible exact Below.refl _ _) | (with_reducible refine belS ?_ (by first | omega | (simp; done) | (simp; omega) | (simp only [World.size_alloc, World.size_setCell, World.size_drew] at *; omega))) | (with_reducible refine belA ?_ (by first | omega | (simp; done) | (simp; omega) | (simp only [World.size_alloc, World.size_setCell, World.size_drew] at *; omega))) | (with_reducible refine bel_drewN ?_ _) | (with_reducible refine Below.drew ?_) | (with_reducible assumption) | (refine Hid.out ?_; with_reducible assumption) | (apply belV; (with_reducible assumption); exact (by first | omega | (simp; done) | (simp; omega) | (simp only [World.size_alloc, World.size_setCell, World.size_drew] at *; omega))))))
      obtain ⟨bv, offv, v, rfl, hbv, hv, _, _, _⟩ := HI1.at_ (show k < n' by omega)
      clear HI1
      have HV := Lib.hid hv; clear hv
      have LO := Lib.hid (kout_len vs ws C k)
      go_wp2_with fail
      go_loopw [9] (fun s9 wr => ∃ (j r : Nat), r + j = C ∧ j ≤ C + 1 - W ∧ s9 = .int .i64 r ∧ Hid (OwnI wr w.heap.size (kin (kout vs ws C k) C W v j)) ∧ Hid (Below w.heap.size w wr)) (fun s9 _ => (intOf s9).toNat)
      case atStart => exact ⟨0, C, by omega, by omega, rfl, hown, hbel⟩
      case round =>
        obtain ⟨j, r, hrj, hj, rfl, hown2, hbel2⟩ := hrel
        have HJ2 : Ints wr (some ⟨b', off', none⟩) n' ws := HJ.out.below (by (repeat' (first | (with_reducible exact Below.refl _ _) | (with_reducible refine belS ?_ (by first | omega | (simp; done) | (simp; omega) | (simp only [World.size_alloc, World.size_setCell, World.size_drew] at *; omega))) | (with_reducible refine belA ?_ (by first | omega | (simp; done) | (simp; omega) | (simp only [World.size_alloc, World.size_setCell, World.size_drew] at *; omega))) | (with_reducible refine bel_drewN ?_ _) | (with_reducible refine Below.drew ?_) | (with_reducible assumption) | (refine Hid.out ?_; with_reducible assumption) | (apply belV; (with_reducible assumption); exact (by first | omega | (simp; done) | (simp; omega) | (simp only [World.size_alloc, World.size_setCell, World.size_drew] at *; omega))))))
        obtain ⟨_, _, x', e, _, hx', _, _, hcx⟩ := HJ2.at_ hlt
        injection e with e; injection e with e1 e2; subst e1 e2
        rw [HX.out] at hx'
        injection hx' with hx'
        subst hx'
        clear HJ2
        by_cases hge : W ≤ r
        · obtain ⟨q, hq⟩ : ∃ q : Nat, q + W = r := ⟨r - W, by omega⟩
          have lk := kin_len (kout vs ws C k) C W v j
          rw [LO.out] at lk
          obtain ⟨o1, o2⟩ := hown2.out.at_ (k := r) (by omega)
          obtain ⟨o3, o4⟩ := hown2.out.at_ (k := q) (by omega)
          have gt : (kin (kout vs ws C k) C W v j)[r]? = some ((kin (kout vs ws C k) C W v j).getD r 0) := getD_mem (by omega)
          have GT := Lib.hid gt; clear gt lk
          obtain ⟨p, hp⟩ : ∃ p, p = (kin (kout vs ws C k) C W v j).getD r 0 := ⟨_, rfl⟩
          obtain ⟨s, hs⟩ : ∃ s, s = (kin (kout vs ws C k) C W v j).getD q 0 := ⟨_, rfl⟩
          rw [← hp] at o1
          rw [← hs] at o3
          have HP := Lib.hid hp; clear hp
          have HS := Lib.hid hs; clear hs
          have HI2 : Ints wr (some ⟨bv, offv, none⟩) n' vs := HI.out.below (by (repeat' (first | (with_reducible exact Below.refl _ _) | (with_reducible refine belS ?_ (by first | omega | (simp; done) | (simp; omega) | (simp only [World.size_alloc, World.size_setCell, World.size_drew] at *; omega))) | (with_reducible refine belA ?_ (by first | omega | (simp; done) | (simp; omega) | (simp only [World.size_alloc, World.size_setCell, World.size_drew] at *; omega))) | (with_reducible refine bel_drewN ?_ _) | (with_reducible refine Below.drew ?_) | (with_reducible assumption) | (refine Hid.out ?_; with_reducible assumption) | (apply belV; (with_reducible assumption); exact (by first | omega | (simp; done) | (simp; omega) | (simp only [World.size_alloc, World.size_setCell, World.size_drew] at *; omega))))))
          obtain ⟨_, _, v', e, _, hv', _, _, hcv⟩ := HI2.at_ (show k < n' by omega)
          injection e with e; injection e with e1 e2; subst e1 e2
          rw [HV.out] at hv'
          injection hv' with hv'
          subst hv'
          clear HI2
          have eqw : IntKind.i64.wrap ((r : Int) - (W : Int)) = (q : Int) := by rw [IntWalk.i64_in _ ⟨by omega, by omega⟩]; omega
          have eqv : (r : Int) - (W : Int) = (q : Int) := by omega
          by_cases hm : p < wrap64 (s + v)
          · have NX := Lib.hid (kin_next1 hrj hq HP.out HS.out hm)
            go_wp2_with fail
            go_region
            all_goals
              go_wp2
              go_roundw
              case rel => exact ⟨j + 1, r - 1, by omega, by omega, by go_num, Lib.hid (by rw [← NX.out]; first | exact (hown2.out.set_ GT.out _).drew | exact (hown2.out.set_ GT.out _)), by (refine Lib.hid ?_; (repeat' (first | (with_reducible exact Below.refl _ _) | (with_reducible refine belS ?_ (by first | omega | (simp; done) | (simp; omega) | (simp only [World.size_alloc, World.size_setCell, World.size_drew] at *; omega))) | (with_reducible refine belA ?_ (by first | omega | (simp; done) | (simp; omega) | (simp only [World.size_alloc, World.size_setCell, World.size_drew] at *; omega))) | (with_reducible refine bel_drewN ?_ _) | (with_reducible refine Below.drew ?_) | (with_reducible assumption) | (refine Hid.out ?_; with_reducible assumption) | (apply belV; (with_reducible assumption); exact (by first | omega | (simp; done) | (simp; omega) | (simp only [World.size_alloc, World.size_setCell, World.size_drew] at *; omega))))))⟩
              case measure => simp [intOf]; omega
          · have NX := Lib.hid (kin_next2 hrj hq HP.out HS.out hm)
            go_wp2_with fail
            go_region
            all_goals
              go_wp2
              go_roundw
              case rel => exact ⟨j + 1, r - 1, by omega, by omega, by go_num, Lib.hid (by rw [← NX.out]; first | exact (hown2.out.set_ GT.out _).drew | exact (hown2.out.set_ GT.out _)), by (refine Lib.hid ?_; (repeat' (first | (with_reducible exact Below.refl _ _) | (with_reducible refine belS ?_ (by first | omega | (simp; done) | (simp; omega) | (simp only [World.size_alloc, World.size_setCell, World.size_drew] at *; omega))) | (with_reducible refine belA ?_ (by first | omega | (simp; done) | (simp; omega) | (simp only [World.size_alloc, World.size_setCell, World.size_drew] at *; omega))) | (with_reducible refine bel_drewN ?_ _) | (with_reducible refine Below.drew ?_) | (with_reducible assumption) | (refine Hid.out ?_; with_reducible assumption) | (apply belV; (with_reducible assumption); exact (by first | omega | (simp; done) | (simp; omega) | (simp only [World.size_alloc, World.size_setCell, World.size_drew] at *; omega))))))⟩
              case measure => simp [intOf]; omega
        · have NX := Lib.hid (kout_next (C := C) (j := j) HX.out HV.out (by omega))
          go_wp2_with fail
          go_roundw
          case rel => exact ⟨k + 1, _, by omega, by go_num, rfl, Lib.hid (by rw [← NX.out]; exact hown2.out), hbel2⟩
          case measure => simp [intOf]; omega
    · have hke : k = n' := by omega
      subst hke
      go_wp2_with fail
      go_ret
      refine ⟨some ⟨w.heap.size, 0, none⟩, C + 1, by rw [ktab_len]; rfl, OwnS.of_own ?_ (Nat.le_refl _) hown.out.1 (ktab_bd vs ws C).1 ((ktab_bd vs ws C).2 (by omega)), hbel.out⟩
      unfold ktab
      rw [HL.out]
      exact hown.out

set_option maxHeartbeats 2000000 in
set_option maxRecDepth 100000 in
theorem impl_bestValue (A A' : Option Addr) (n n' c c' : Nat) (a : Int) (C : Nat) (vs ws : List Int) (w : World) (hI : Ints w A n vs) (hJ : Ints w A' n' ws) (ha : a = C) (hn : n' ≤ n) (hn' : n ≤ 1000) (hC : C ≤ 99) (hw : ∀ x ∈ ws, 1 ≤ x ∧ x ≤ 20) :
    Calls Try.prog 48 #[.slice A n c, .slice A' n' c', .int .i64 a] w fun e w' => e = .returned (.int .i64 ((ktab vs ws C).getD C 0)) ∧ Below w.heap.size w w' := by
  subst ha
  have HI := Lib.hid hI; clear hI
  have HJ := Lib.hid hJ; clear hJ
  have HW := Lib.hid hw; clear hw
  go_enter Try.func48, Try.ntmps48
  go_wp2_with fail
  refine (impl_bestValues _ _ _ _ _ _ _ C vs ws _ (HI.out.below (by (repeat' (first | (with_reducible exact Below.refl _ _) | (with_reducible refine belS ?_ (by first | omega | (simp; done) | (simp; omega) | (simp only [World.size_alloc, World.size_setCell, World.size_drew] at *; omega))) | (with_reducible refine belA ?_ (by first | omega | (simp; done) | (simp; omega) | (simp only [World.size_alloc, World.size_setCell, World.size_drew] at *; omega))) | (with_reducible refine bel_drewN ?_ _) | (with_reducible refine Below.drew ?_) | (with_reducible assumption) | (refine Hid.out ?_; with_reducible assumption) | (apply belV; (with_reducible assumption); exact (by first | omega | (simp; done) | (simp; omega) | (simp only [World.size_alloc, World.size_setCell, World.size_drew] at *; omega))))))) (HJ.out.below (by (repeat' (first | (with_reducible exact Below.refl _ _) | (with_reducible refine belS ?_ (by first | omega | (simp; done) | (simp; omega) | (simp only [World.size_alloc, World.size_setCell, World.size_drew] at *; omega))) | (with_reducible refine belA ?_ (by first | omega | (simp; done) | (simp; omega) | (simp only [World.size_alloc, World.size_setCell, World.size_drew] at *; omega))) | (with_reducible refine bel_drewN ?_ _) | (with_reducible refine Below.drew ?_) | (with_reducible assumption) | (refine Hid.out ?_; with_reducible assumption) | (apply belV; (with_reducible assumption); exact (by first | omega | (simp; done) | (simp; omega) | (simp only [World.size_alloc, World.size_setCell, World.size_drew] at *; omega))))))) rfl hn hn' hC HW.out).mono ?_
  rintro e w1 ⟨A1, d, rfl, ho, hb⟩
  have G1 : Hid (Below w.heap.size w w1) := belU hb (by (repeat' (first | (with_reducible exact Below.refl _ _) | (with_reducible refine belS ?_ (by first | omega | (simp; done) | (simp; omega) | (simp only [World.size_alloc, World.size_setCell, World.size_drew] at *; omega))) | (with_reducible refine belA ?_ (by first | omega | (simp; done) | (simp; omega) | (simp only [World.size_alloc, World.size_setCell, World.size_drew] at *; omega))) | (with_reducible refine bel_drewN ?_ _) | (with_reducible refine Below.drew ?_) | (with_reducible assumption) | (refine Hid.out ?_; with_reducible assumption) | (apply belV; (with_reducible assumption); exact (by first | omega | (simp; done) | (simp; omega) | (simp only [World.size_alloc, World.size_setCell, World.size_drew] at *; omega)))))) (by first | omega | (simp; done) | (simp; omega) | (simp only [World.size_alloc, World.size_setCell, World.size_drew] at *; omega))
  (try simp only [World.size_alloc, World.size_setCell, World.size_drew, World.heap_drewN] at ho)
  have W1 := Lib.hid ho; clear ho
  have z1 := hb.size
  (try simp at z1)
  have D1 := Lib.hid hb; clear hb
  have hlen : C < (ktab vs ws C).length := by rw [ktab_len]; omega
  have hl99 : (ktab vs ws C).length ≤ 1000 := by rw [ktab_len]; omega
  have HT := OwnS.ints W1.out
  obtain ⟨b, off, x, rfl, hb, hx, hxlo, hxhi, hc⟩ := HT.at_ hlen
  clear HT
  have HX := Lib.hid (getD_of hx); clear hx
  go_wp2_with fail
  go_ret
  exact ⟨ret_i HX.out.symm, by (repeat' (first | (with_reducible exact Below.refl _ _) | (with_reducible refine belS ?_ (by first | omega | (simp; done) | (simp; omega) | (simp only [World.size_alloc, World.size_setCell, World.size_drew] at *; omega))) | (with_reducible refine belA ?_ (by first | omega | (simp; done) | (simp; omega) | (simp only [World.size_alloc, World.size_setCell, World.size_drew] at *; omega))) | (with_reducible refine bel_drewN ?_ _) | (with_reducible refine Below.drew ?_) | (with_reducible assumption) | (refine Hid.out ?_; with_reducible assumption) | (apply belV; (with_reducible assumption); exact (by first | omega | (simp; done) | (simp; omega) | (simp only [World.size_alloc, World.size_setCell, World.size_drew] at *; omega)))))⟩

set_option maxHeartbeats 2000000 in
set_option maxRecDepth 100000 in
theorem impl_KnapsackTable (A A' : Option Addr) (n n' c c' : Nat) (a : Int) (vs ws : List Int) (w : World) (hI : Ints w A n vs) (hJ : Ints w A' n' ws) (hn : n ≤ maxLen) (hn' : n' ≤ maxLen) :
    Calls Try.prog 12 #[.slice A n c, .slice A' n' c', .int .i64 a] w (SliceEnd (kTabV vs ws a) w) := by
  have hl := hI.len
  have hl' := hJ.len
  have HI := Lib.hid hI; clear hI
  have HJ := Lib.hid hJ; clear hJ
  cases h1 : vItems vs ws a
  · have E := Lib.hid (kTabV_1 h1)
    clear hl hl'
    go_enter Try.func12, Try.ntmps12
    go_wp2_with (go_at_call 44; ((with_reducible refine (impl_validItems _ _ _ _ _ _ _ vs ws _ HI.out HJ.out hn hn').mono ?_); rintro e w' ⟨rfl, rfl⟩))
    go_ret
    exact SliceEnd.nil E.out (by (repeat' (first | (with_reducible exact Below.refl _ _) | (with_reducible refine belS ?_ (by first | omega | (simp; done) | (simp; omega) | (simp only [World.size_alloc, World.size_setCell, World.size_drew] at *; omega))) | (with_reducible refine belA ?_ (by first | omega | (simp; done) | (simp; omega) | (simp only [World.size_alloc, World.size_setCell, World.size_drew] at *; omega))) | (with_reducible refine bel_drewN ?_ _) | (with_reducible refine Below.drew ?_) | (with_reducible assumption) | (refine Hid.out ?_; with_reducible assumption) | (apply belV; (with_reducible assumption); exact (by first | omega | (simp; done) | (simp; omega) | (simp only [World.size_alloc, World.size_setCell, World.size_drew] at *; omega))))))
  · obtain ⟨f1, f2, _⟩ := vItems_facts h1
    obtain ⟨f3, f4, f5, f6⟩ := vWts_facts f2
    have HW := Lib.hid f4; clear f4
    obtain ⟨C, rfl⟩ := Int.eq_ofNat_of_zero_le f5
    have E : Hid (kTabV vs ws C = ktab vs ws C) := kTabV_2 h1
    have l1 : n' ≤ n := by omega
    have l2 : n ≤ 1000 := by omega
    clear hl hl' f1 f2 f3
    go_enter Try.func12, Try.ntmps12
    go_wp2_with (go_at_call 44; ((with_reducible refine (impl_validItems _ _ _ _ _ _ _ vs ws _ HI.out HJ.out hn hn').mono ?_); rintro e w' ⟨rfl, rfl⟩))
    refine (impl_bestValues _ _ _ _ _ _ _ C vs ws _ HI.out HJ.out rfl l1 l2 (by omega) HW.out).mono ?_
    rintro e w1 ⟨A1, d, rfl, ho, hb⟩
    have W1 := Lib.hid ho; clear ho
    have G1 := Lib.hid hb; clear hb
    go_wp2_with fail
    go_ret
    exact SliceEnd.pass E.out W1.out (Nat.le_refl _) (Nat.le_refl _) G1.out

set_option maxHeartbeats 2000000 in
set_option maxRecDepth 100000 in
theorem spec_KnapsackTable (A A' : Option Addr) (n n' c c' : Nat) (a : Int) (vs ws : List Int) (w : World) (hI : Ints w A n vs) (hJ : Ints w A' n' ws) (hn : n ≤ maxLen) (hn' : n' ≤ maxLen) :
    Calls Try.prog 14 #[.slice A n c, .slice A' n' c', .int .i64 a] w (SliceEnd (kTabV vs ws a) w) := by
  have hl := hI.len
  have hl' := hJ.len
  have HI := Lib.hid hI; clear hI
  have HJ := Lib.hid hJ; clear hJ
  cases h1 : vItems vs ws a
  · have E := Lib.hid (kTabV_1 h1)
    clear hl hl'
    go_enter Try.func14, Try.ntmps14
    go_wp2_with (go_at_call 46; ((with_reducible refine (spec_validItems _ _ _ _ _ _ _ vs ws _ HI.out HJ.out hn hn').mono ?_); rintro e w' ⟨rfl, rfl⟩))
    go_ret
    exact SliceEnd.nil E.out (by (repeat' (first | (with_reducible exact Below.refl _ _) | (with_reducible refine belS ?_ (by first | omega | (simp; done) | (simp; omega) | (simp only [World.size_alloc, World.size_setCell, World.size_drew] at *; omega))) | (with_reducible refine belA ?_ (by first | omega | (simp; done) | (simp; omega) | (simp only [World.size_alloc, World.size_setCell, World.size_drew] at *; omega))) | (with_reducible refine bel_drewN ?_ _) | (with_reducible refine Below.drew ?_) | (with_reducible assumption) | (refine Hid.out ?_; with_reducible assumption) | (apply belV; (with_reducible assumption); exact (by first | omega | (simp; done) | (simp; omega) | (simp only [World.size_alloc, World.size_setCell, World.size_drew] at *; omega))))))
  · obtain ⟨f1, f2, _⟩ := vItems_facts h1
    obtain ⟨f3, f4, f5, f6⟩ := vWts_facts f2
    have HW := Lib.hid f4; clear f4
    obtain ⟨C, rfl⟩ := Int.eq_ofNat_of_zero_le f5
    have E : Hid (kTabV vs ws C = ktab vs ws C) := kTabV_2 h1
    have l1 : Hid (n' = n) := Lib.hid (by omega)
    have l2 : n ≤ 1000 := by omega
    clear hl hl' f1 f2 f3
    go_enter Try.func14, Try.ntmps14
    go_wp2_with (go_at_call 46; ((with_reducible refine (spec_validItems _ _ _ _ _ _ _ vs ws _ HI.out HJ.out hn hn').mono ?_); rintro e w' ⟨rfl, rfl⟩))
    refine (spec_knapsackTable _ _ _ _ _ _ _ C vs ws _ HI.out HJ.out rfl l1.out l2 (by omega) HW.out).mono ?_
    rintro e w1 ⟨A1, d, rfl, ho, hb⟩
    have W1 := Lib.hid ho; clear ho
    have G1 := Lib.hid hb; clear hb
    go_wp2_with fail
    go_ret
    exact SliceEnd.pass E.out W1.out (Nat.le_refl _) (Nat.le_refl _) G1.out
end Go.Proofs.Ytfidahpaidkhgab
