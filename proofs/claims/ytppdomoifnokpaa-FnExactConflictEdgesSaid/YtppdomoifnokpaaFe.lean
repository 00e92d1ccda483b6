
/-
  The helpers of the exact laws on slices of the type Edge.
-/
import Derived.Test.YtppdomoifnokpaaFa
set_option linter.unusedSimpArgs false
set_option linter.unusedVariables false
namespace Go.Proofs.Ytppdomoifnokpaa
open Go.RowKit

theorem info_Edge : (Try.prog.info? 75).map (fun i => (i.zero, i.size, i.bytes)) = some (some (.agg #[.int .i64 0, .int .i64 0]), 2, 16) := by kernel_rfl
theorem laws_eqEdge (x0 x1 : Int) (w : World) : Calls Try.prog 54 #[.agg #[.int .i64 x0, .int .i64 x1], .agg #[.int .i64 x0, .int .i64 x1]] w fun e w' => e = .returned (.bool true) ∧ Below w.heap.size w w' := by
  go_enter Try.func54, Try.ntmps54
  go_wp2_with fail
  go_ret
  exact ⟨rfl, by (repeat' (first | (with_reducible exact Below.refl _ _) | (with_reducible refine belS ?_ (by first | omega | (simp; done) | (simp; omega) | (simp only [World.size_alloc, World.size_setCell, World.size_drew] at *; omega))) | (with_reducible refine belA ?_ (by first | omega | (simp; done) | (simp; omega) | (simp only [World.size_alloc, World.size_setCell, World.size_drew] at *; omega))) | (with_reducible refine bel_drewN ?_ _) | (with_reducible refine Below.drew ?_) | (with_reducible assumption) | (refine Hid.out ?_; with_reducible assumption) | (apply belV; (with_reducible assumption); exact (by first | omega | (simp; done) | (simp; omega) | (simp only [World.size_alloc, World.size_setCell, World.size_drew] at *; omega)))))⟩


def ToEdgeEnd (n : Nat) (xs : List Int) (w : World) (e : Ending) (w' : World) : Prop :=
  ∃ g, e = .returned (.slice (some ⟨g, 0, none⟩) n n) ∧ w.heap.size ≤ g ∧ OwnI w' g xs ∧ Ints w' (some ⟨g, 0, none⟩) (n * 2) xs ∧ Below w.heap.size w w'
set_option maxHeartbeats 4000000 in
theorem laws_eqEdgeS (A B : Option Addr) (n c c' : Nat) (xs : List Int) (w : World) (hi : Ints w A (n * 2) xs) (hj : Ints w B (n * 2) xs) (hn : n ≤ 1048576) :
    Calls Try.prog 15 #[.slice A n c, .slice B n c'] w fun e w' => e = .returned (.bool true) ∧ Below w.heap.size w w' := by
  have HI := Lib.hid hi; clear hi
  have HJ := Lib.hid hj; clear hj
  go_enter Try.func15, Try.ntmps15
  go_wp2_with fail
  go_loopw [5] (fun s5 wr => ∃ k : Nat, k ≤ n ∧ s5 = .int .i64 k ∧ Hid (Below w.heap.size w wr)) (fun s5 _ => n - (intOf s5).toNat)
  case atStart => exact ⟨0, by omega, rfl, Below.refl _ _⟩
  case round =>
    obtain ⟨k, hk, rfl, hbel⟩ := hrel
    have z0 := hbel.out.size
    by_cases hlt : k < n
    · obtain ⟨b, off, x0, x1, rfl, hb, hx0, hx1, ix0, ix1, c0, c1⟩ := (HI.out.below hbel.out).at2 hlt
      obtain ⟨b', off', y0, y1, rfl, hb', hy0, hy1, iy0, iy1, d0, d1⟩ := (HJ.out.below hbel.out).at2 hlt
      rw [hx0] at hy0; injection hy0 with hy0; subst hy0
      rw [hx1] at hy1; injection hy1 with hy1; subst hy1
      clear hx0 hx1
      go_wp2_with fail
      go_region_held3 (fun w' => w'.cell? ⟨b, off + k * 2, none⟩ = some (.int .i64 x0) ∧ w'.cell? ⟨b, off + k * 2 + 1, none⟩ = some (.int .i64 x1) ∧ w'.cell? ⟨b', off' + k * 2, none⟩ = some (.int .i64 x0) ∧ w'.cell? ⟨b', off' + k * 2 + 1, none⟩ = some (.int .i64 x1))
        (refine ⟨?_, ?_, ?_, ?_⟩ <;> (first | with_reducible assumption | (simp only [World.cell?_drew, World.cell?_drewN, World.frozen?_drew, World.frozen?_drewN]; with_reducible assumption)))
        ((first
          | (go_at_call 54; refine (laws_eqEdge _ _ _).mono ?_; rintro e w1 ⟨rfl, hb1⟩; have G1 : Hid (Below w.heap.size w w1) := belU hb1 (by (repeat' (first | (with_reducible exact Below.refl _ _) | (with_reducible refine belS ?_ (by first | omega | (simp; done) | (simp; omega) | (simp only [World.size_alloc, World.size_setCell, World.size_drew] at *; omega))) | (with_reducible refine belA ?_ (by first | omega | (simp; done) | (simp; omega) | (simp only [World.size_alloc, World.size_setCell, World.size_drew] at *; omega))) | (with_reducible refine bel_drewN ?_ _) | (with_reducible refine Below.drew ?_) | (with_reducible assumption) | (refine Hid.out ?_; with_reducible assumption) | (apply belV; (with_reducible assumption); exact (by first | omega | (simp; done) | (simp; omega) | (simp only [World.size_alloc, World.size_setCell, World.size_drew] at *; omega)))))) (by first | omega | (simp; done) | (simp; omega) | (simp only [World.size_alloc, World.size_setCell, World.size_drew] at *; omega)); have j0 : w1.cell? ⟨b, off + k * 2, none⟩ = _ := (hb1.cell (p := ⟨b, off + k * 2, none⟩) (by first | omega | (simp; done) | (simp; omega) | (simp only [World.size_alloc, World.size_setCell, World.size_drew] at *; omega))).trans c0; have j1 : w1.cell? ⟨b, off + k * 2 + 1, none⟩ = _ := (hb1.cell (p := ⟨b, off + k * 2 + 1, none⟩) (by first | omega | (simp; done) | (simp; omega) | (simp only [World.size_alloc, World.size_setCell, World.size_drew] at *; omega))).trans c1; have i0 : w1.cell? ⟨b', off' + k * 2, none⟩ = _ := (hb1.cell (p := ⟨b', off' + k * 2, none⟩) (by first | omega | (simp; done) | (simp; omega) | (simp only [World.size_alloc, World.size_setCell, World.size_drew] at *; omega))).trans d0; have i1 : w1.cell? ⟨b', off' + k * 2 + 1, none⟩ = _ := (hb1.cell (p := ⟨b', off' + k * 2 + 1, none⟩) (by first | omega | (simp; done) | (simp; omega) | (simp only [World.size_alloc, World.size_setCell, World.size_drew] at *; omega))).trans d1; clear hb1)))
      all_goals
        go_wp2_with fail
        go_roundw
        case rel => exact ⟨k + 1, by omega, by go_num, by (refine Lib.hid ?_; (repeat' (first | (with_reducible exact Below.refl _ _) | (with_reducible refine belS ?_ (by first | omega | (simp; done) | (simp; omega) | (simp only [World.size_alloc, World.size_setCell, World.size_drew] at *; omega))) | (with_reducible refine belA ?_ (by first | omega | (simp; done) | (simp; omega) | (simp only [World.size_alloc, World.size_setCell, World.size_drew] at *; omega))) | (with_reducible refine bel_drewN ?_ _) | (with_reducible refine Below.drew ?_) | (with_reducible assumption) | (refine Hid.out ?_; with_reducible assumption) | (apply belV; (with_reducible assumption); exact (by first | omega | (simp; done) | (simp; omega) | (simp only [World.size_alloc, World.size_setCell, World.size_drew] at *; omega))))))⟩
        case measure => simp [intOf]; omega
    · go_wp2_with fail
      go_ret
      exact ⟨rfl, hbel.out⟩


set_option maxHeartbeats 4000000 in
theorem markEdge_I (g n c : Nat) (xs : List Int) (k : Int) (w : World) (ho : OwnI w g xs) (hl : xs.length = n * 2) (hn : n ≤ 1048576) (h0 : 0 ≤ k) (h1 : k ≤ 1125899906842624) :
    Calls Try.prog 18 #[.slice (some ⟨g, 0, none⟩) n c, .int .i64 k] w fun e w' => e = .returned (.int .i64 (k + ((n * 2 : Nat) : Int))) ∧ OwnI w' g (marks k (n * 2)) ∧ Turn g (g + 1) w w' := by
  have HO := Lib.hid ho; clear ho
  have HL := Lib.hid hl; clear hl
  go_enter Try.func18, Try.ntmps18
  go_wp2
  go_loopw [1, 5] (fun s1 s5 wr => ∃ i : Nat, i ≤ n ∧ s1 = .int .i64 (k + ((i * 2 : Nat) : Int)) ∧ s5 = .int .i64 i ∧ Hid (OwnI wr g (marks k (i * 2) ++ xs.drop (i * 2))) ∧ Hid (Turn g (g + 1) w wr)) (fun _ s5 _ => n - (intOf s5).toNat)
  case atStart => exact ⟨0, by omega, by simp, rfl, by simpa [marks_zero] using HO, Turn.refl _ _ _⟩
  case round =>
    obtain ⟨i, hi, rfl, rfl, hown, ht⟩ := hrel
    by_cases hlt : i < n
    · have l0 : (marks k (i * 2) ++ xs.drop (i * 2)).length = n * 2 := by rw [List.length_append, marks_len, List.length_drop]; have := HL.out; omega
      have L0 := Lib.hid l0; clear l0
      obtain ⟨o0, f0⟩ := hown.out.at_ (k := i * 2) (by rw [List.length_append, marks_len, List.length_drop]; have := HL.out; omega)
      obtain ⟨o1, f1⟩ := hown.out.at_ (k := i * 2 + 1) (by rw [List.length_append, marks_len, List.length_drop]; have := HL.out; omega)
      go_wp2
      go_roundw
      case rel =>
        refine ⟨i + 1, by omega, by congr 1; omega, by go_num, Lib.hid ?_, Lib.hid (((ht.out.set (.inl ⟨Nat.le_refl _, Nat.lt_succ_self _⟩) _).set (.inl ⟨Nat.le_refl _, Nat.lt_succ_self _⟩) _))⟩
        rw [show (i + 1) * 2 = i * 2 + 2 by omega]
        exact (marks_step (marks_step hown.out (by have := HL.out; omega) _ (by omega)) (by have := HL.out; omega) _ (by omega))
      case measure => simp [intOf]; omega
    · have hie : i = n := by omega
      subst hie
      go_wp2
      go_ret
      have O := hown.out
      rw [List.drop_of_length_le (by rw [HL.out]; exact Nat.le_refl _), List.append_nil] at O
      exact ⟨rfl, O, ht.out⟩
theorem markEdge_Own (g n c : Nat) (xs : List Int) (k : Int) (w : World) (ho : OwnI w g xs) (hl : xs.length = n * 2) (hn : n ≤ 1048576) (h0 : 0 ≤ k) (h1 : k ≤ 1125899906842624) :
    Calls Try.prog 18 #[.slice (some ⟨g, 0, none⟩) n c, .int .i64 k] w fun e w' => e = .returned (.int .i64 (k + ((n * 2 : Nat) : Int))) ∧ Turn g (g + 1) w w' :=
  (markEdge_I g n c xs k w ho hl hn h0 h1).mono fun _ _ ⟨he, _, ht⟩ => ⟨he, ht⟩
theorem markEdge_0 (A : Option Addr) (c : Nat) (k : Int) (w : World) : Calls Try.prog 18 #[.slice A 0 c, .int .i64 k] w fun e w' => e = .returned (.int .i64 k) ∧ w = w' := by
  go_enter Try.func18, Try.ntmps18
  go_wp2
  go_loop [1, 5] (fun s1 s5 => s1 = .int .i64 k ∧ s5 = .int .i64 0) (fun _ _ => 0)
  case atStart => exact ⟨rfl, rfl⟩
  case round =>
    obtain ⟨rfl, rfl⟩ := hrel
    go_wp2
    go_ret
    exact ⟨rfl, rfl⟩
theorem markEdge_S (lo hi : Nat) (A : Option Addr) (n c : Nat) (xs : List Int) (k : Int) (w : World) (ho : OwnS w lo hi A xs) (hl : xs.length = n * 2) (h0 : 0 ≤ k) (h1 : k ≤ 1125899906842624) :
    Calls Try.prog 18 #[.slice A n c, .int .i64 k] w fun e w' => e = .returned (.int .i64 (k + ((n * 2 : Nat) : Int))) ∧ OwnS w' lo hi A (marks k (n * 2)) ∧ Turn lo hi w w' := by
  obtain ⟨rfl | ⟨g, rfl, l1, l2, o⟩, h4, h5⟩ := ho
  · have hn : n = 0 := by simp at hl; omega
    subst hn
    exact (markEdge_0 A c k w).mono fun _ _ ⟨he, hw⟩ => ⟨by simpa using he, by simpa [marks_zero] using OwnS.nil _ _ _ _, hw ▸ Turn.refl _ _ _⟩
  · exact (markEdge_I g n c xs k w o hl (by omega) h0 h1).mono fun _ _ ⟨he, ho', ht⟩ => ⟨he, ⟨.inr ⟨g, rfl, l1, l2, ho'⟩, marks_bdX h0 h1 (by omega), by rw [marks_len]; omega⟩, ht.mono l1 l2⟩
set_option maxHeartbeats 4000000 in
theorem heldEdge_I (A : Option Addr) (n c : Nat) (k : Int) (w : World) (hI : Ints w A (n * 2) (marks k (n * 2))) (hn : n ≤ 1048576) (h0 : 0 ≤ k) (h1 : k ≤ 1125899906842624) :
    Calls Try.prog 19 #[.slice A n c, .int .i64 k] w fun e w' => e = .returned (.int .i64 (k + ((n * 2 : Nat) : Int))) ∧ Below w.heap.size w w' := by
  have HI := Lib.hid hI; clear hI
  go_enter Try.func19, Try.ntmps19
  go_wp2
  go_loop [1, 5] (fun s1 s5 => ∃ i : Nat, i ≤ n ∧ s1 = .int .i64 (k + ((i * 2 : Nat) : Int)) ∧ s5 = .int .i64 i) (fun _ s5 => n - (intOf s5).toNat)
  case atStart => exact ⟨0, by omega, by simp, rfl⟩
  case round =>
    obtain ⟨i, hi, rfl, rfl⟩ := hrel
    by_cases hlt : i < n
    · obtain ⟨b, off, x0, x1, rfl, hb, hx0, hx1, ix0, ix1, c0, c1⟩ := HI.out.at2 hlt
      rw [marks_at (by omega)] at hx0; injection hx0 with hx0; subst hx0
      rw [marks_at (by omega)] at hx1; injection hx1 with hx1; subst hx1
      go_wp2
      go_round
      case rel => exact ⟨i + 1, by omega, by congr 1; omega, by go_num⟩
      case measure => simp [intOf]; omega
    · have hie : i = n := by omega
      subst hie
      go_wp2
      go_ret
      exact ⟨rfl, Below.refl _ _⟩
theorem heldEdge_S (lo hi : Nat) (A : Option Addr) (n c : Nat) (k : Int) (w : World) (ho : OwnS w lo hi A (marks k (n * 2))) (h0 : 0 ≤ k) (h1 : k ≤ 1125899906842624) :
    Calls Try.prog 19 #[.slice A n c, .int .i64 k] w fun e w' => e = .returned (.int .i64 (k + ((n * 2 : Nat) : Int))) ∧ Below w.heap.size w w' := by
  have hs := ho.small
  rw [marks_len] at hs
  have hi := ho.ints
  rw [marks_len] at hi
  exact heldEdge_I A n c k w hi (by omega) h0 h1

end Go.Proofs.Ytppdomoifnokpaa
