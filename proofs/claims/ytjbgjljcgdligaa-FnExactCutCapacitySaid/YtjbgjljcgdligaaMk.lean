
/-
  The marks of the exact laws: what they write, and what they find again.
-/
import Derived.Test.YtjbgjljcgdligaaM3
import Derived.Test.YtjbgjljcgdligaaTp
set_option linter.unusedSimpArgs false
set_option linter.unusedVariables false
namespace Go.Proofs.Ytjbgjljcgdligaa
open Go.RowKit

set_option maxHeartbeats 1000000 in
theorem markI (g n c : Nat) (xs : List Int) (k : Int) (w : World) (ho : OwnI w g xs) (hl : xs.length = n) (hn : n ≤ 1048576) (h0 : 0 ≤ k) (h1 : k ≤ 1125899906842624) :
    Calls Try.prog 23 #[.slice (some ⟨g, 0, none⟩) n c, .int .i64 k] w fun e w' => e = .returned (.int .i64 (k + n)) ∧ OwnI w' g (marks k n) ∧ Turn g (g + 1) w w' := by
  have HO := Lib.hid ho; clear ho
  have HL := Lib.hid hl; clear hl
  go_enter Try.func23, Try.ntmps23
  go_wp2
  go_loopw [1, 5] (fun s1 s5 wr => ∃ i : Nat, i ≤ n ∧ s1 = .int .i64 (k + i) ∧ s5 = .int .i64 i ∧ Hid (OwnI wr g (marks k i ++ xs.drop i)) ∧ Hid (Turn g (g + 1) w wr)) (fun _ s5 _ => n - (intOf s5).toNat)
  case atStart => exact ⟨0, by omega, by simp, rfl, by simpa [marks_zero] using HO, Turn.refl _ _ _⟩
  case round =>
    obtain ⟨i, hi, rfl, rfl, hown, ht⟩ := hrel
    by_cases hlt : i < n
    · obtain ⟨o1, o2⟩ := hown.out.at_ (k := i) (by simp [marks_len]; have := HL.out; omega)
      go_wp2
      go_roundw
      case rel =>
        refine ⟨i + 1, by omega, by congr 1; omega, by go_num, Lib.hid ?_, Lib.hid (ht.out.set (.inl ⟨Nat.le_refl _, Nat.lt_succ_self _⟩) _)⟩
        have hil : i < xs.length := by have := HL.out; omega
        have hx : (marks k i ++ xs.drop i)[i]? = some xs[i] := by
          rw [List.getElem?_append_right (by rw [marks_len]; exact Nat.le_refl _), marks_len, Nat.sub_self, List.getElem?_drop]
          simp [hil]
        have := hown.out.set_ hx (k + i)
        have e : (marks k i ++ xs.drop i).set i (k + i) = marks k (i + 1) ++ xs.drop (i + 1) := by
          rw [List.set_append, marks_len, if_neg (Nat.lt_irrefl _), Nat.sub_self, marks_succ, List.drop_eq_getElem_cons hil, List.set_cons_zero, List.append_assoc]
          rfl
        rwa [e] at this
      case measure => simp [intOf]; omega
    · have hie : i = n := by omega
      subst hie
      go_wp2
      go_ret
      have O := hown.out
      rw [List.drop_of_length_le (by rw [HL.out]; exact Nat.le_refl _), List.append_nil] at O
      exact ⟨rfl, O, ht.out⟩

theorem markOwn (g n c : Nat) (xs : List Int) (k : Int) (w : World) (ho : OwnI w g xs) (hl : xs.length = n) (hn : n ≤ 1048576) (h0 : 0 ≤ k) (h1 : k ≤ 1125899906842624) :
    Calls Try.prog 23 #[.slice (some ⟨g, 0, none⟩) n c, .int .i64 k] w fun e w' => e = .returned (.int .i64 (k + n)) ∧ Turn g (g + 1) w w' :=
  (markI g n c xs k w ho hl hn h0 h1).mono fun _ _ ⟨he, _, ht⟩ => ⟨he, ht⟩
theorem markI0 (A : Option Addr) (c : Nat) (k : Int) (w : World) : Calls Try.prog 23 #[.slice A 0 c, .int .i64 k] w fun e w' => e = .returned (.int .i64 k) ∧ w = w' := by
  go_enter Try.func23, Try.ntmps23
  go_wp2
  go_loop [1, 5] (fun s1 s5 => s1 = .int .i64 k ∧ s5 = .int .i64 0) (fun _ _ => 0)
  case atStart => exact ⟨rfl, rfl⟩
  case round =>
    obtain ⟨rfl, rfl⟩ := hrel
    go_wp2
    go_ret
    exact ⟨rfl, rfl⟩
theorem markS (lo hi : Nat) (A : Option Addr) (c : Nat) (xs : List Int) (k : Int) (w : World) (ho : OwnS w lo hi A xs) (h0 : 0 ≤ k) (h1 : k ≤ 1125899906842624) :
    Calls Try.prog 23 #[.slice A xs.length c, .int .i64 k] w fun e w' => e = .returned (.int .i64 (k + xs.length)) ∧ OwnS w' lo hi A (marks k xs.length) ∧ Turn lo hi w w' := by
  obtain ⟨rfl | ⟨g, rfl, l1, l2, o⟩, h4, h5⟩ := ho
  · exact (markI0 A c k w).mono fun _ _ ⟨he, hw⟩ => ⟨by simpa using he, by simpa [marks_zero] using OwnS.nil _ _ _ _, hw ▸ Turn.refl _ _ _⟩
  · exact (markI g xs.length c xs k w o rfl h5 h0 h1).mono fun _ _ ⟨he, ho', ht⟩ => ⟨he, ⟨.inr ⟨g, rfl, l1, l2, ho'⟩, marks_bd h0 h1 h5, by rw [marks_len]; exact h5⟩, ht.mono l1 l2⟩

set_option maxHeartbeats 1000000 in
theorem heldI (A : Option Addr) (n c : Nat) (k : Int) (w : World) (hI : Ints w A n (marks k n)) (hn : n ≤ 1048576) (h0 : 0 ≤ k) (h1 : k ≤ 1125899906842624) :
    Calls Try.prog 24 #[.slice A n c, .int .i64 k] w fun e w' => e = .returned (.int .i64 (k + n)) ∧ Below w.heap.size w w' := by
  have HI := Lib.hid hI; clear hI
  go_enter Try.func24, Try.ntmps24
  go_wp2
  go_loop [1, 5] (fun s1 s5 => ∃ i : Nat, i ≤ n ∧ s1 = .int .i64 (k + i) ∧ s5 = .int .i64 i) (fun _ s5 => n - (intOf s5).toNat)
  case atStart => exact ⟨0, by omega, by simp, rfl⟩
  case round =>
    obtain ⟨i, hi, rfl, rfl⟩ := hrel
    by_cases hlt : i < n
    · obtain ⟨b, off, x, rfl, hb, hx, hlo, hhi, hc⟩ := HI.out.at_ hlt
      rw [marks_at hlt] at hx
      injection hx with hx
      subst hx
      go_wp2
      go_round
      case rel => exact ⟨i + 1, by omega, by congr 1; omega, by go_num⟩
      case measure => simp [intOf]; omega
    · have hie : i = n := by omega
      subst hie
      go_wp2
      go_ret
      exact ⟨rfl, Below.refl _ _⟩
theorem heldS (lo hi : Nat) (A : Option Addr) (c : Nat) (xs : List Int) (k : Int) (n : Nat) (w : World) (ho : OwnS w lo hi A (marks k n)) (h0 : 0 ≤ k) (h1 : k ≤ 1125899906842624) :
    Calls Try.prog 24 #[.slice A n c, .int .i64 k] w fun e w' => e = .returned (.int .i64 (k + n)) ∧ Below w.heap.size w w' := by
  have hs := ho.small
  rw [marks_len] at hs
  have hi := ho.ints
  rw [marks_len] at hi
  exact heldI A n c k w hi hs h0 h1
/-- All rows from place k on are still the call's own; their headers stand. -/
def RowsLeft (w : World) (g n : Nat) (rs : List PRow) (G : Nat → Nat) (k : Nat) : Prop :=
  (∀ j, j < n * 3 → ∃ v, w.cell? ⟨g, j, none⟩ = some v ∧ w.frozen? ⟨g, j, none⟩ = false) ∧
    ∀ i r, rs[i]? = some r → w.cell? ⟨g, i * 3, none⟩ = some (.slice (some ⟨G i, 0, none⟩) r.cs.length r.cs.length) ∧ (k ≤ i → OwnI w (G i) r.cs)

end Go.Proofs.Ytjbgjljcgdligaa
