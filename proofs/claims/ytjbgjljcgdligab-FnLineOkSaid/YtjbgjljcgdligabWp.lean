
/-
  A list without one of its numbers: plain, and as the laws' function answers it.
-/
import Derived.Test.YtjbgjljcgdligabJp
import Derived.Test.YtjbgjljcgdligabDt
set_option linter.unusedSimpArgs false
set_option linter.unusedVariables false
namespace Go.Proofs.Ytjbgjljcgdligab
open Go.RowKit

/-- The list without the number at place i. -/
def cutAt (xs : List Int) (i : Nat) : List Int := xs.take i ++ xs.drop (i + 1)
theorem cutAt_len {xs : List Int} {i : Nat} (h : i < xs.length) : (cutAt xs i).length = xs.length - 1 := by
  unfold cutAt; rw [List.length_append, List.length_take, List.length_drop]; omega
theorem cutAt_mem {xs : List Int} {i : Nat} : ∀ x ∈ cutAt xs i, x ∈ xs := by
  intro x hx
  rcases List.mem_append.1 hx with h | h
  · exact List.mem_of_mem_take h
  · exact List.mem_of_mem_drop h

theorem cutAt_at {xs : List Int} {i j : Nat} (hi : i < xs.length) : (cutAt xs i).getD j 0 = if j < i then xs.getD j 0 else xs.getD (j + 1) 0 := by
  unfold cutAt
  have hl : (xs.take i).length = i := by rw [List.length_take]; omega
  simp only [List.getD_eq_getElem?_getD]
  by_cases h : j < i
  · rw [if_pos h, List.getElem?_append_left (by omega), List.getElem?_take, if_pos h]
  · rw [if_neg h, List.getElem?_append_right (by omega), hl, List.getElem?_drop, show i + 1 + (j - i) = j + 1 by omega]
theorem asc_cut {xs : List Int} {n : Int} {i : Nat} (h : ascB xs n = true) (hi : i < xs.length) : ascB (cutAt xs i) n = true := by
  simp only [ascB, Bool.and_eq_true] at h ⊢
  refine ⟨?_, List.all_eq_true.2 fun x hx => List.all_eq_true.1 h.2 x (cutAt_mem x hx)⟩
  rw [cutAt_len hi]
  unfold incP
  rw [List.all_eq_true]
  intro j hj
  have hj := List.mem_range.1 hj
  rw [decide_eq_true_eq]
  by_cases h0 : j = 0
  · exact .inl h0
  · refine .inr ?_
    rw [cutAt_at hi, cutAt_at hi]
    have a := incP_at h.1 (show j < xs.length by omega)
    have b := incP_at h.1 (show j + 1 < xs.length by omega)
    simp only [Nat.add_sub_cancel] at b
    by_cases h1 : j < i
    · rw [if_pos (by omega), if_pos h1]; omega
    · rw [if_neg h1]
      by_cases h2 : j - 1 < i
      · rw [if_pos h2]; omega
      · rw [if_neg h2, show j - 1 + 1 = j by omega]; omega

/-- The numbers before place k, without that at place i. -/
def cu (xs : List Int) (i k : Nat) : List Int := if k ≤ i then xs.take k else xs.take i ++ (xs.take k).drop (i + 1)
theorem cu_0 (xs : List Int) (i : Nat) : cu xs i 0 = [] := by simp [cu]
theorem cu_same (xs : List Int) (i : Nat) : cu xs i (i + 1) = cu xs i i := by
  unfold cu
  rw [if_neg (by omega), if_pos (Nat.le_refl _), List.drop_of_length_le (by rw [List.length_take]; omega), List.append_nil]
theorem cu_next {xs : List Int} {i k : Nat} {x : Int} (hx : xs[k]? = some x) (h : ¬ k = i) : cu xs i (k + 1) = cu xs i k ++ [x] := by
  have hk : k < xs.length := (List.getElem?_eq_some_iff.1 hx).1
  unfold cu
  have e : xs.take (k + 1) = xs.take k ++ [x] := by rw [List.take_add_one, hx]; rfl
  by_cases h1 : k ≤ i
  · rw [if_pos (by omega), if_pos h1, e]
  · rw [if_neg (by omega), if_neg h1, e, List.drop_append_of_le_length (by rw [List.length_take]; omega), List.append_assoc]
theorem cu_end {xs : List Int} {i : Nat} (hi : i < xs.length) : cu xs i xs.length = cutAt xs i := by
  unfold cu cutAt
  rw [if_neg (by omega), List.take_length]
theorem cu_len {xs : List Int} {i k : Nat} : (cu xs i k).length ≤ k := by
  unfold cu
  split
  · rw [List.length_take]; omega
  · rw [List.length_append, List.length_drop, List.length_take, List.length_take]; omega
theorem cu_mem {xs : List Int} {i k : Nat} : ∀ x ∈ cu xs i k, x ∈ xs := by
  intro x hx
  unfold cu at hx
  split at hx
  · exact List.mem_of_mem_take hx
  · rcases List.mem_append.1 hx with h | h
    · exact List.mem_of_mem_take h
    · exact List.mem_of_mem_take (List.mem_of_mem_drop h)
set_option maxHeartbeats 2000000 in
set_option maxRecDepth 100000 in
theorem laws_cut (A : Option Addr) (n c i : Nat) (a : Int) (xs : List Int) (w : World) (hI : Ints w A n xs) (hn : n ≤ 1000) (hi : i < n) (ha : a = (i : Int)) :
    Calls Try.prog 26 #[.slice A n c, .int .i64 a] w (CopyEnd (cutAt xs i) w) := by
  obtain ⟨i0, hi0, hz0, hz1, hz2⟩ := info_parts info_int
  subst ha
  have HL := Lib.hid hI.len
  have HI := Lib.hid hI; clear hI
  go_enter Try.func26, Try.ntmps26
  go_wp2_with fail
  go_loopw [5, 6] (fun s5 s6 wr => ∃ (k : Nat) (v : Value), k ≤ n ∧ v = s5 ∧ s6 = .int .i64 k ∧ Hid (v ≠ .slice none 0 0) ∧ Hid (Grow wr w.heap.size 3 v (cu xs i k)) ∧ Hid (Below w.heap.size w wr)) (fun _ s6 _ => n - (intOf s6).toNat)
  case atStart => exact ⟨0, _, by omega, rfl, rfl, Lib.hid (by simp), Lib.hid (by rw [cu_0]; exact Grow.lit0 w (Nat.le_refl _) 3), by (refine Lib.hid ?_; (repeat' (first | (with_reducible exact Below.refl _ _) | (with_reducible refine belS ?_ (by first | omega | (simp; done) | (simp; omega) | (simp only [World.size_alloc, World.size_setCell, World.size_drew] at *; omega))) | (with_reducible refine belA ?_ (by first | omega | (simp; done) | (simp; omega) | (simp only [World.size_alloc, World.size_setCell, World.size_drew] at *; omega))) | (with_reducible refine bel_drewN ?_ _) | (with_reducible refine Below.drew ?_) | (with_reducible assumption) | (refine Hid.out ?_; with_reducible assumption) | (apply belV; (with_reducible assumption); exact (by first | omega | (simp; done) | (simp; omega) | (simp only [World.size_alloc, World.size_setCell, World.size_drew] at *; omega))))))⟩
  case round =>
    obtain ⟨k, v, hk, rfl, rfl, hne, hgr, hbel⟩ := hrel
    have zr := hbel.out.size
    have hil := cu_len (xs := xs) (i := i) (k := k)
    by_cases hlt : k < n
    · obtain ⟨b, off, x, rfl, hb, hx, hlo, hhi, hc⟩ := (HI.out.below hbel.out).at_ hlt
      have HX := Lib.hid hx; clear hx
      by_cases hki : k = i
      · subst hki
        go_wp2_with fail
        go_roundw
        case rel => exact ⟨k + 1, _, by omega, rfl, by go_num, hne, Lib.hid (by rw [cu_same]; exact hgr.out), hbel⟩
        case measure => simp [intOf]; omega
      · have e1 : ((k : Int) != (i : Int)) = true := by simp; omega
        go_wp2_with (
          at_builtin
          refine wpList_append_own _ rfl (.tmp 17) (.tmp 22) 23 rfl w.heap.size 3 i0 (.int .i64 0) 1 8 Try.underlying23 hi0 hz0 hz1 hz2 rfl (by decide) v _ _ rfl (hgr.out.alloc _).own ⟨wr.heap.size, 0, none⟩ 1 1 [.int .i64 x] rfl rfl ?c1 ?c2 ?c3 ?c4 ?c5 ?_
          case c1 => intro j u hj; (rcases j with _ | j <;> simp at hj); subst hj; simp [go_sem]
          case c2 => intro u hu; simp at hu; subst hu; rfl
          case c3 => unfold maxLen; omega
          case c4 => omega
          case c5 => simp; omega
          intro v' w4 hown' hgrow hnil
          have R4 : Hid (Grow w4 w.heap.size 3 v' (cu xs i (k + 1))) := Lib.hid (by rw [cu_next HX.out hki]; exact Grow.snoc hown')
          have N4 : Hid (v' ≠ .slice none 0 0) := Lib.hid (fun h => by have := hnil.1 h; omega)
          have G4 : Hid (Below w.heap.size w w4) := Lib.hid (Below.grown (hbel.out.alloc (by omega) _) hgrow (by simp; omega) (fun j hj => by have := hgr.out.row j hj; omega))
          clear hown' hgrow hnil)
        go_roundw
        case rel => exact ⟨k + 1, _, by omega, rfl, by go_num, N4, R4, G4⟩
        case measure => simp [intOf]; omega
    · have hke : k = n := by omega
      subst hke
      have R := hgr.out
      have e : cu xs i k = cutAt xs i := by rw [← HL.out]; exact cu_end (by rw [HL.out]; exact hi)
      rw [e] at R
      have RR := Lib.hid R
      clear R e
      go_wp2_with fail
      go_ret
      exact ⟨v, hne.out, rfl, RR.out, hbel.out⟩
end Go.Proofs.Ytjbgjljcgdligab
