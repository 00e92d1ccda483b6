
/-
  Copies of lists of numbers: the model's and the library's Clone.
-/
import Derived.Test.YtpcfnlffamgdaabVi
import Derived.WalkSpells
import Derived.Lib.LazyBuf
set_option linter.unusedSimpArgs false
set_option linter.unusedVariables false
namespace Go.Proofs.Ytpcfnlffamgdaab
open Go.RowKit

theorem news_at {w : World} {b off n : Nat} {xs : List Int} (h : Ints w (some ⟨b, off, none⟩) n xs) : ∀ j u, (xs.map (Value.int .i64))[j]? = some u → w.cell? ((⟨b, off, none⟩ : Addr).add j) = some u := by
  intro j u hu
  rw [List.getElem?_map] at hu
  obtain ⟨x, hx, rfl⟩ := Option.map_eq_some_iff.1 hu
  have hj : j < n := by have := (List.getElem?_eq_some_iff.1 hx).1; have := h.1; omega
  obtain ⟨b', off', x', e, _, hx', _, _, hc⟩ := h.at_ hj
  injection e with e
  injection e with e1 e2
  subst e1 e2
  rw [hx] at hx'
  injection hx' with hx'
  subst hx'
  have ha : (⟨b, off, none⟩ : Addr).add j = ⟨b, off + j, none⟩ := by
    rcases Nat.eq_zero_or_pos j with rfl | h
    · simp [Addr.add]
    · simp [Addr.add]; omega
  rw [ha]; exact hc
theorem one_ints (xs : List Int) : ∀ u ∈ xs.map (Value.int .i64), u.oneCell' = true := by
  intro u hu
  obtain ⟨x, _, rfl⟩ := List.mem_map.1 hu
  rfl
theorem SliceEnd.of_append {L : List Int} {w w0 w' : World} {e : TypeId} {v : Value} {B n : Nat} (h : w'.ownsRow B e 1 v (0 + n) ([] ++ L.map (Value.int .i64))) (hn : L.length = n) (hB : w.heap.size ≤ B) (hr : ∀ x ∈ L, I64 x) (hl : L.length ≤ 1048576) (hb : Below w.heap.size w w') : SliceEnd L w (.returned v) w' := by
  refine SliceEnd.grow (B := B) (e := e) ?_ hB hr hl hb
  unfold Grow
  subst hn
  simpa using h

set_option maxHeartbeats 1000000 in
theorem spec_copyInts (b off n c : Nat) (xs : List Int) (w : World) (hI : Ints w (some ⟨b, off, none⟩) n xs) (hn : n ≤ 1048576) : Calls Try.prog 113 #[.slice (some ⟨b, off, none⟩) n c] w (SliceEnd xs w) := by
  obtain ⟨i0, hi0, hz0, hz1, hz2⟩ := info_parts info_int
  have HI := Lib.hid hI
  have HL := Lib.hid hI.len
  have HR := Lib.hid hI.2.1
  clear hI
  have own0 := Lib.hid (World.ownsRow_made (base := w.heap.size) (e := 3) (size := 1) w #[] 0 (Nat.le_refl _) (Nat.zero_le _) rfl)
  have HW : Hid (Ints (w.alloc (.cells #[] 3)) (some ⟨b, off, none⟩) n xs) := HI.out.below (by (repeat' (first | (with_reducible exact Below.refl _ _) | (with_reducible refine belS ?_ (by first | omega | (simp; done) | (simp; omega) | (simp only [World.size_alloc, World.size_setCell, World.size_drew] at *; omega))) | (with_reducible refine belA ?_ (by first | omega | (simp; done) | (simp; omega) | (simp only [World.size_alloc, World.size_setCell, World.size_drew] at *; omega))) | (with_reducible refine bel_drewN ?_ _) | (with_reducible refine Below.drew ?_) | (with_reducible assumption) | (refine Hid.out ?_; with_reducible assumption) | (apply belV; (with_reducible assumption); exact (by first | omega | (simp; done) | (simp; omega) | (simp only [World.size_alloc, World.size_setCell, World.size_drew] at *; omega))))))
  go_enter Try.func113, Try.ntmps113
  go_wp2_with (
    at_builtin
    refine wpList_append_own _ rfl (.tmp 3) (.tmp 4) 42 rfl w.heap.size 3 i0 (.int .i64 0) 1 8 Try.underlying42 hi0 hz0 hz1 hz2 rfl (by decide) (.slice (some ⟨w.heap.size, 0, none⟩) 0 0) 0 [] rfl own0.out ⟨b, off, none⟩ n c (xs.map (Value.int .i64)) rfl ?c0 (news_at HW.out) (one_ints xs) ?c3 ?c4 ?c5 ?_
    case c0 => rw [List.length_map, HL.out]; omega
    case c3 => unfold maxLen; omega
    case c4 => omega
    case c5 => simp
    intro v' w1 hown' hgrow _
    have O1 := Lib.hid hown'
    have G1 : Hid (Below w.heap.size w w1) := ((Below.refl w.heap.size w).alloc (Nat.le_refl _) _).grown hgrow (by simp) (fun j hj => by simp [Value.ownBlock] at hj; omega)
    clear hown' hgrow)
  go_ret
  exact SliceEnd.of_append (w0 := w) O1.out HL.out (Nat.le_refl _) HR.out (by rw [HL.out]; exact hn) G1.out

set_option maxHeartbeats 1000000 in
theorem lib_Clone (b off n c : Nat) (xs : List Int) (w : World) (hI : Ints w (some ⟨b, off, none⟩) n xs) (hn : n ≤ 1048576) : Calls Try.prog 82 #[.slice (some ⟨b, off, none⟩) n c] w (SliceEnd xs w) := by
  obtain ⟨i0, hi0, hz0, hz1, hz2⟩ := info_parts info_int
  have HI := Lib.hid hI
  have HL := Lib.hid hI.len
  have HR := Lib.hid hI.2.1
  clear hI
  have own0 := Lib.hid (World.ownsRow_made (base := w.heap.size) (e := 3) (size := 1) w #[] 0 (Nat.le_refl _) (Nat.zero_le _) rfl)
  have HW : Hid (Ints (w.alloc (.cells #[] 3)) (some ⟨b, off, none⟩) n xs) := HI.out.below (by (repeat' (first | (with_reducible exact Below.refl _ _) | (with_reducible refine belS ?_ (by first | omega | (simp; done) | (simp; omega) | (simp only [World.size_alloc, World.size_setCell, World.size_drew] at *; omega))) | (with_reducible refine belA ?_ (by first | omega | (simp; done) | (simp; omega) | (simp only [World.size_alloc, World.size_setCell, World.size_drew] at *; omega))) | (with_reducible refine bel_drewN ?_ _) | (with_reducible refine Below.drew ?_) | (with_reducible assumption) | (refine Hid.out ?_; with_reducible assumption) | (apply belV; (with_reducible assumption); exact (by first | omega | (simp; done) | (simp; omega) | (simp only [World.size_alloc, World.size_setCell, World.size_drew] at *; omega))))))
  have hnil := fun W => run_eql_slice_nil (P := Try.prog) W 42 3 (some ⟨b, off, none⟩) n c Try.underlying42
  simp only [Option.isNone_some] at hnil
  go_enter Try.func82, Try.ntmps82
  go_wp2_with (
    at_builtin
    refine wpList_append_own _ rfl (.tmp 5) (.tmp 6) 42 rfl w.heap.size 3 i0 (.int .i64 0) 1 8 Try.underlying42 hi0 hz0 hz1 hz2 rfl (by decide) (.slice (some ⟨w.heap.size, 0, none⟩) 0 0) 0 [] rfl own0.out ⟨b, off, none⟩ n c (xs.map (Value.int .i64)) rfl ?c0 (news_at HW.out) (one_ints xs) ?c3 ?c4 ?c5 ?_
    case c0 => rw [List.length_map, HL.out]; omega
    case c3 => unfold maxLen; omega
    case c4 => omega
    case c5 => simp
    intro v' w1 hown' hgrow _
    have O1 := Lib.hid hown'
    have G1 : Hid (Below w.heap.size w w1) := ((Below.refl w.heap.size w).alloc (Nat.le_refl _) _).grown hgrow (by simp) (fun j hj => by simp [Value.ownBlock] at hj; omega)
    clear hown' hgrow)
  go_ret
  exact SliceEnd.of_append (w0 := w) O1.out HL.out (Nat.le_refl _) HR.out (by rw [HL.out]; exact hn) G1.out
end Go.Proofs.Ytpcfnlffamgdaab
