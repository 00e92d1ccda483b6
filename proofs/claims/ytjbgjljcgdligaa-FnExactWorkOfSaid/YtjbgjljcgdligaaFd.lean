
/-
  The helpers of the exact laws on slices of the type Duty.
-/
import Derived.Test.YtjbgjljcgdligaaFa
set_option linter.unusedSimpArgs false
set_option linter.unusedVariables false
namespace Go.Proofs.Ytjbgjljcgdligaa
open Go.RowKit

theorem info_Duty : (Try.prog.info? 98).map (fun i => (i.zero, i.size, i.bytes)) = some (some (.agg #[.int .i64 0, .int .i64 0]), 2, 16) := by kernel_rfl
theorem laws_szDutyS (A : Option Addr) (n c : Nat) (left : Int) (w : World) (hn : n ≤ maxLen) (h0 : 0 ≤ left) (h1 : left ≤ 1048576) :
    Calls Try.prog 27 #[.slice A n c, .int .i64 left] w fun e w' => ∃ v, Sz left v (n ≤ 1048576) ∧ e = .returned (.int .i64 v) ∧ Below w.heap.size w w' := by
  unfold maxLen at hn
  by_cases h : left - n < 0
  · go_enter Try.func27, Try.ntmps27
    go_wp2
    go_ret
    exact ⟨-1, .inl rfl, rfl, by (repeat' (first | (with_reducible exact Below.refl _ _) | (with_reducible refine belS ?_ (by first | omega | (simp; done) | (simp; omega) | (simp only [World.size_alloc, World.size_setCell, World.size_drew] at *; omega))) | (with_reducible refine belA ?_ (by first | omega | (simp; done) | (simp; omega) | (simp only [World.size_alloc, World.size_setCell, World.size_drew] at *; omega))) | (with_reducible refine bel_drewN ?_ _) | (with_reducible refine Below.drew ?_) | (with_reducible assumption) | (refine Hid.out ?_; with_reducible assumption) | (apply belV; (with_reducible assumption); exact (by first | omega | (simp; done) | (simp; omega) | (simp only [World.size_alloc, World.size_setCell, World.size_drew] at *; omega)))))⟩
  · go_enter Try.func27, Try.ntmps27
    go_wp2
    go_ret
    exact ⟨left - n, .inr ⟨by omega, by omega, by omega⟩, rfl, by (repeat' (first | (with_reducible exact Below.refl _ _) | (with_reducible refine belS ?_ (by first | omega | (simp; done) | (simp; omega) | (simp only [World.size_alloc, World.size_setCell, World.size_drew] at *; omega))) | (with_reducible refine belA ?_ (by first | omega | (simp; done) | (simp; omega) | (simp only [World.size_alloc, World.size_setCell, World.size_drew] at *; omega))) | (with_reducible refine bel_drewN ?_ _) | (with_reducible refine Below.drew ?_) | (with_reducible assumption) | (refine Hid.out ?_; with_reducible assumption) | (apply belV; (with_reducible assumption); exact (by first | omega | (simp; done) | (simp; omega) | (simp only [World.size_alloc, World.size_setCell, World.size_drew] at *; omega)))))⟩
theorem laws_toDuty (x0 x1 : Int) (w : World) : Calls Try.prog 78 #[.agg #[.int .i64 x0, .int .i64 x1]] w fun e w' => e = .returned (.agg #[.int .i64 x0, .int .i64 x1]) ∧ Below w.heap.size w w' := by
  go_enter Try.func78, Try.ntmps78
  go_wp2_with fail
  refine bodyPost_ret (v := .agg #[.int .i64 x0, .int .i64 x1]) (by simp [results, Try.results78, go_sem]) rfl ⟨rfl, ?_⟩
  (repeat' (first | (with_reducible exact Below.refl _ _) | (with_reducible refine belS ?_ (by first | omega | (simp; done) | (simp; omega) | (simp only [World.size_alloc, World.size_setCell, World.size_drew] at *; omega))) | (with_reducible refine belA ?_ (by first | omega | (simp; done) | (simp; omega) | (simp only [World.size_alloc, World.size_setCell, World.size_drew] at *; omega))) | (with_reducible refine bel_drewN ?_ _) | (with_reducible refine Below.drew ?_) | (with_reducible assumption) | (refine Hid.out ?_; with_reducible assumption) | (apply belV; (with_reducible assumption); exact (by first | omega | (simp; done) | (simp; omega) | (simp only [World.size_alloc, World.size_setCell, World.size_drew] at *; omega)))))
theorem laws_eqDuty (x0 x1 : Int) (w : World) : Calls Try.prog 82 #[.agg #[.int .i64 x0, .int .i64 x1], .agg #[.int .i64 x0, .int .i64 x1]] w fun e w' => e = .returned (.bool true) ∧ Below w.heap.size w w' := by
  go_enter Try.func82, Try.ntmps82
  go_wp2_with fail
  go_ret
  exact ⟨rfl, by (repeat' (first | (with_reducible exact Below.refl _ _) | (with_reducible refine belS ?_ (by first | omega | (simp; done) | (simp; omega) | (simp only [World.size_alloc, World.size_setCell, World.size_drew] at *; omega))) | (with_reducible refine belA ?_ (by first | omega | (simp; done) | (simp; omega) | (simp only [World.size_alloc, World.size_setCell, World.size_drew] at *; omega))) | (with_reducible refine bel_drewN ?_ _) | (with_reducible refine Below.drew ?_) | (with_reducible assumption) | (refine Hid.out ?_; with_reducible assumption) | (apply belV; (with_reducible assumption); exact (by first | omega | (simp; done) | (simp; omega) | (simp only [World.size_alloc, World.size_setCell, World.size_drew] at *; omega)))))⟩


def ToDutyEnd (n : Nat) (xs : List Int) (w : World) (e : Ending) (w' : World) : Prop :=
  ∃ g, e = .returned (.slice (some ⟨g, 0, none⟩) n n) ∧ w.heap.size ≤ g ∧ OwnI w' g xs ∧ Ints w' (some ⟨g, 0, none⟩) (n * 2) xs ∧ Below w.heap.size w w'
set_option maxHeartbeats 2000000 in
theorem laws_toDutyS (A : Option Addr) (n c : Nat) (xs : List Int) (w : World) (hi : Ints w A (n * 2) xs) (hn : n ≤ 1048576) : Calls Try.prog 29 #[.slice A n c] w (ToDutyEnd n xs w) := by
  obtain ⟨i0, hi0, hz0, hz1, hz2⟩ := info_parts info_Duty
  have hmk := fun W => run_makeN (P := Try.prog) 38 98 i0 _ Try.underlying38 hi0 hz0 n (by rw [hz2]; omega) (by omega) W
  simp only [hz1] at hmk
  have HI := Lib.hid hi; clear hi
  go_enter Try.func29, Try.ntmps29
  go_wp2_with fail
  go_loopw [4] (fun s4 wr => ∃ k : Nat, k ≤ n ∧ s4 = .int .i64 k ∧ Hid (Part wr w.heap.size (n * 2) xs (k * 2)) ∧ Hid (Below w.heap.size w wr)) (fun s4 _ => n - (intOf s4).toNat)
  case atStart => exact ⟨0, by omega, rfl, Lib.hid (by rw [Nat.zero_mul]; exact Part.made w _ _ 2 n xs rfl), belA (Below.refl _ _) (Nat.le_refl _)⟩
  case round =>
    obtain ⟨k, hk, rfl, hown, hbel⟩ := hrel
    have z0 := hown.out.1
    by_cases hlt : k < n
    · obtain ⟨b, off, x0, x1, rfl, hb, hx0, hx1, ix0, ix1, c0, c1⟩ := (HI.out.below hbel.out).at2 hlt
      have HX0 := Lib.hid hx0; clear hx0
      have HX1 := Lib.hid hx1; clear hx1
      go_wp2_with fail
      refine (laws_toDuty _ _ _).mono ?_
      rintro e w1 ⟨rfl, hb1⟩
      have G1 : Hid (Below w.heap.size w w1) := belU hb1 (by (repeat' (first | (with_reducible exact Below.refl _ _) | (with_reducible refine belS ?_ (by first | omega | (simp; done) | (simp; omega) | (simp only [World.size_alloc, World.size_setCell, World.size_drew] at *; omega))) | (with_reducible refine belA ?_ (by first | omega | (simp; done) | (simp; omega) | (simp only [World.size_alloc, World.size_setCell, World.size_drew] at *; omega))) | (with_reducible refine bel_drewN ?_ _) | (with_reducible refine Below.drew ?_) | (with_reducible assumption) | (refine Hid.out ?_; with_reducible assumption) | (apply belV; (with_reducible assumption); exact (by first | omega | (simp; done) | (simp; omega) | (simp only [World.size_alloc, World.size_setCell, World.size_drew] at *; omega)))))) hbel.out.size
      obtain ⟨v0, m0, f0⟩ := (hown.out.below hb1).room (j := k * 2) (by omega)
      obtain ⟨v1, m1, f1⟩ := (hown.out.below hb1).room (j := k * 2 + 1) (by omega)
      have HB := Lib.hid hb1; clear hb1
      go_wp2_with fail
      go_roundw
      case rel => exact ⟨k + 1, by omega, by go_num, Lib.hid (by rw [show (k + 1) * 2 = k * 2 + 2 by omega]; exact (((hown.out.below HB.out).store HX0.out (by omega)).store HX1.out (by omega))), by clear hown; (refine Lib.hid ?_; (repeat' (first | (with_reducible exact Below.refl _ _) | (with_reducible refine belS ?_ (by first | omega | (simp; done) | (simp; omega) | (simp only [World.size_alloc, World.size_setCell, World.size_drew] at *; omega))) | (with_reducible refine belA ?_ (by first | omega | (simp; done) | (simp; omega) | (simp only [World.size_alloc, World.size_setCell, World.size_drew] at *; omega))) | (with_reducible refine bel_drewN ?_ _) | (with_reducible refine Below.drew ?_) | (with_reducible assumption) | (refine Hid.out ?_; with_reducible assumption) | (apply belV; (with_reducible assumption); exact (by first | omega | (simp; done) | (simp; omega) | (simp only [World.size_alloc, World.size_setCell, World.size_drew] at *; omega))))))⟩
      case measure => simp [intOf]; omega
    · have hke : k = n := by omega
      subst hke
      go_wp2_with fail
      go_ret
      have O := hown.out.own HI.out.len
      exact ⟨w.heap.size, rfl, Nat.le_refl _, O, O.ints_of HI.out, hbel.out⟩


set_option maxHeartbeats 4000000 in
theorem laws_eqDutyS (A B : Option Addr) (n c c' : Nat) (xs : List Int) (w : World) (hi : Ints w A (n * 2) xs) (hj : Ints w B (n * 2) xs) (hn : n ≤ 1048576) :
    Calls Try.prog 31 #[.slice A n c, .slice B n c'] w fun e w' => e = .returned (.bool true) ∧ Below w.heap.size w w' := by
  have HI := Lib.hid hi; clear hi
  have HJ := Lib.hid hj; clear hj
  go_enter Try.func31, Try.ntmps31
  go_wp2_with fail
  go_loopw [5] (fun s5 wr => ∃ k : Nat, k ≤ n ∧ s5 = .int .i64 k ∧ Hid (Below w.heap.size w wr)) (fun s5 _ => n - (intOf s5).toNat)
  case atStart => exact ⟨0, by omega, rfl, Below.refl _ _⟩
  case round =>
    obtain ⟨k, hk, rfl, hbel⟩ := hrel
    have z0 := hbel.out.size
    by_cases hlt : k < n
    · obtain ⟨b, off, x0, x1, rfl, hb, hx0, hx1, ix0, ix1, c0, c1⟩ := (HI.out.below hbel.out).at2 hlt
      obtain ⟨b', off', y0, y1, rfl, hb', hy0, hy1, iy0, iy1, d0, d1⟩ := (HJ.out.below hbel.out).at2 hlt
      rw [hx0] at hy0; injection hy0 with hy0; subst hy0
      rw [hx1] at hy1; injection hy1 with hy1; subst hy1
      clear hx0 hx1
      go_wp2_with fail
      go_region_held3 (fun w' => w'.cell? ⟨b, off + k * 2, none⟩ = some (.int .i64 x0) ∧ w'.cell? ⟨b, off + k * 2 + 1, none⟩ = some (.int .i64 x1) ∧ w'.cell? ⟨b', off' + k * 2, none⟩ = some (.int .i64 x0) ∧ w'.cell? ⟨b', off' + k * 2 + 1, none⟩ = some (.int .i64 x1))
        (refine ⟨?_, ?_, ?_, ?_⟩ <;> (first | with_reducible assumption | (simp only [World.cell?_drew, World.cell?_drewN, World.frozen?_drew, World.frozen?_drewN]; with_reducible assumption)))
        ((first
          | (go_at_call 82; refine (laws_eqDuty _ _ _).mono ?_; rintro e w1 ⟨rfl, hb1⟩; have G1 : Hid (Below w.heap.size w w1) := belU hb1 (by (repeat' (first | (with_reducible exact Below.refl _ _) | (with_reducible refine belS ?_ (by first | omega | (simp; done) | (simp; omega) | (simp only [World.size_alloc, World.size_setCell, World.size_drew] at *; omega))) | (with_reducible refine belA ?_ (by first | omega | (simp; done) | (simp; omega) | (simp only [World.size_alloc, World.size_setCell, World.size_drew] at *; omega))) | (with_reducible refine bel_drewN ?_ _) | (with_reducible refine Below.drew ?_) | (with_reducible assumption) | (refine Hid.out ?_; with_reducible assumption) | (apply belV; (with_reducible assumption); exact (by first | omega | (simp; done) | (simp; omega) | (simp only [World.size_alloc, World.size_setCell, World.size_drew] at *; omega)))))) (by first | omega | (simp; done) | (simp; omega) | (simp only [World.size_alloc, World.size_setCell, World.size_drew] at *; omega)); have j0 : w1.cell? ⟨b, off + k * 2, none⟩ = _ := (hb1.cell (p := ⟨b, off + k * 2, none⟩) (by first | omega | (simp; done) | (simp; omega) | (simp only [World.size_alloc, World.size_setCell, World.size_drew] at *; omega))).trans c0; have j1 : w1.cell? ⟨b, off + k * 2 + 1, none⟩ = _ := (hb1.cell (p := ⟨b, off + k * 2 + 1, none⟩) (by first | omega | (simp; done) | (simp; omega) | (simp only [World.size_alloc, World.size_setCell, World.size_drew] at *; omega))).trans c1; have i0 : w1.cell? ⟨b', off' + k * 2, none⟩ = _ := (hb1.cell (p := ⟨b', off' + k * 2, none⟩) (by first | omega | (simp; done) | (simp; omega) | (simp only [World.size_alloc, World.size_setCell, World.size_drew] at *; omega))).trans d0; have i1 : w1.cell? ⟨b', off' + k * 2 + 1, none⟩ = _ := (hb1.cell (p := ⟨b', off' + k * 2 + 1, none⟩) (by first | omega | (simp; done) | (simp; omega) | (simp only [World.size_alloc, World.size_setCell, World.size_drew] at *; omega))).trans d1; clear hb1)))
      all_goals
        go_wp2_with fail
        go_roundw
        case rel => exact ⟨k + 1, by omega, by go_num, by (refine Lib.hid ?_; (repeat' (first | (with_reducible exact Below.refl _ _) | (with_reducible refine belS ?_ (by first | omega | (simp; done) | (simp; omega) | (simp only [World.size_alloc, World.size_setCell, World.size_drew] at *; omega))) | (with_reducible refine belA ?_ (by first | omega | (simp; done) | (simp; omega) | (simp only [World.size_alloc, World.size_setCell, World.size_drew] at *; omega))) | (with_reducible refine bel_drewN ?_ _) | (with_reducible refine Below.drew ?_) | (with_reducible assumption) | (refine Hid.out ?_; with_reducible assumption) | (apply belV; (with_reducible assumption); exact (by first | omega | (simp; done) | (simp; omega) | (simp only [World.size_alloc, World.size_setCell, World.size_drew] at *; omega))))))⟩
        case measure => simp [intOf]; omega
    · go_wp2_with fail
      go_ret
      exact ⟨rfl, hbel.out⟩


set_option maxHeartbeats 4000000 in
theorem markDuty_I (g n c : Nat) (xs : List Int) (k : Int) (w : World) (ho : OwnI w g xs) (hl : xs.length = n * 2) (hn : n ≤ 1048576) (h0 : 0 ≤ k) (h1 : k ≤ 1125899906842624) :
    Calls Try.prog 36 #[.slice (some ⟨g, 0, none⟩) n c, .int .i64 k] w fun e w' => e = .returned (.int .i64 (k + ((n * 2 : Nat) : Int))) ∧ OwnI w' g (marks k (n * 2)) ∧ Turn g (g + 1) w w' := by
  have HO := Lib.hid ho; clear ho
  have HL := Lib.hid hl; clear hl
  go_enter Try.func36, Try.ntmps36
  go_wp2
  go_loopw [1, 5] (fun s1 s5 wr => ∃ i : Nat, i ≤ n ∧ s1 = .int .i64 (k + ((i * 2 : Nat) : Int)) ∧ s5 = .int .i64 i ∧ Hid (OwnI wr g (marks k (i * 2) ++ xs.drop (i * 2))) ∧ Hid (Turn g (g + 1) w wr)) (fun _ s5 _ => n - (intOf s5).toNat)
  case atStart => exact ⟨0, by omega, by simp, rfl, by simpa [marks_zero] using HO, Turn.refl _ _ _⟩
  case round =>
    obtain ⟨i, hi, rfl, rfl, hown, ht⟩ := hrel
    by_cases hlt : i < n
    · have l0 : (marks k (i * 2) ++ xs.drop (i * 2)).length = n * 2 := by rw [List.length_append, marks_len, List.length_drop]; have := HL.out; omega
      have L0 := Lib.hid l0; clear l0
      obtain ⟨o0, f0⟩ := hown.out.at_ (k := i * 2) (by rw [List.length_append, marks_len, List.length_drop]; have := HL.out; omega)
      obtain ⟨o1, f1⟩ := hown.out.at_ (k := i * 2 + 1) (by rw [List.length_append, marks_len, List.length_drop]; have := HL.out; omega)
      go_wp2
      go_roundw
      case rel =>
        refine ⟨i + 1, by omega, by congr 1; omega, by go_num, Lib.hid ?_, Lib.hid (((ht.out.set (.inl ⟨Nat.le_refl _, Nat.lt_succ_self _⟩) _).set (.inl ⟨Nat.le_refl _, Nat.lt_succ_self _⟩) _))⟩
        rw [show (i + 1) * 2 = i * 2 + 2 by omega]
        exact (marks_step (marks_step hown.out (by have := HL.out; omega) _ (by omega)) (by have := HL.out; omega) _ (by omega))
      case measure => simp [intOf]; omega
    · have hie : i = n := by omega
      subst hie
      go_wp2
      go_ret
      have O := hown.out
      rw [List.drop_of_length_le (by rw [HL.out]; exact Nat.le_refl _), List.append_nil] at O
      exact ⟨rfl, O, ht.out⟩
theorem markDuty_Own (g n c : Nat) (xs : List Int) (k : Int) (w : World) (ho : OwnI w g xs) (hl : xs.length = n * 2) (hn : n ≤ 1048576) (h0 : 0 ≤ k) (h1 : k ≤ 1125899906842624) :
    Calls Try.prog 36 #[.slice (some ⟨g, 0, none⟩) n c, .int .i64 k] w fun e w' => e = .returned (.int .i64 (k + ((n * 2 : Nat) : Int))) ∧ Turn g (g + 1) w w' :=
  (markDuty_I g n c xs k w ho hl hn h0 h1).mono fun _ _ ⟨he, _, ht⟩ => ⟨he, ht⟩
theorem markDuty_0 (A : Option Addr) (c : Nat) (k : Int) (w : World) : Calls Try.prog 36 #[.slice A 0 c, .int .i64 k] w fun e w' => e = .returned (.int .i64 k) ∧ w = w' := by
  go_enter Try.func36, Try.ntmps36
  go_wp2
  go_loop [1, 5] (fun s1 s5 => s1 = .int .i64 k ∧ s5 = .int .i64 0) (fun _ _ => 0)
  case atStart => exact ⟨rfl, rfl⟩
  case round =>
    obtain ⟨rfl, rfl⟩ := hrel
    go_wp2
    go_ret
    exact ⟨rfl, rfl⟩
theorem markDuty_S (lo hi : Nat) (A : Option Addr) (n c : Nat) (xs : List Int) (k : Int) (w : World) (ho : OwnS w lo hi A xs) (hl : xs.length = n * 2) (h0 : 0 ≤ k) (h1 : k ≤ 1125899906842624) :
    Calls Try.prog 36 #[.slice A n c, .int .i64 k] w fun e w' => e = .returned (.int .i64 (k + ((n * 2 : Nat) : Int))) ∧ OwnS w' lo hi A (marks k (n * 2)) ∧ Turn lo hi w w' := by
  obtain ⟨rfl | ⟨g, rfl, l1, l2, o⟩, h4, h5⟩ := ho
  · have hn : n = 0 := by simp at hl; omega
    subst hn
    exact (markDuty_0 A c k w).mono fun _ _ ⟨he, hw⟩ => ⟨by simpa using he, by simpa [marks_zero] using OwnS.nil _ _ _ _, hw ▸ Turn.refl _ _ _⟩
  · exact (markDuty_I g n c xs k w o hl (by omega) h0 h1).mono fun _ _ ⟨he, ho', ht⟩ => ⟨he, ⟨.inr ⟨g, rfl, l1, l2, ho'⟩, marks_bdX h0 h1 (by omega), by rw [marks_len]; omega⟩, ht.mono l1 l2⟩
end Go.Proofs.Ytjbgjljcgdligaa
