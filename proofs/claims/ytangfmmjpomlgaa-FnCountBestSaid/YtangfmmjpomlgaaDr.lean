
/-
  The draws of lists of numbers out of the reader.
-/
import Derived.Test.YtangfmmjpomlgaaDq
set_option linter.unusedSimpArgs false
set_option linter.unusedVariables false
namespace Go.Proofs.Ytangfmmjpomlgaa
open Go.RowKit

/-- A list of n numbers between low and high was drawn. -/
def DrewSome (B rb P n : Nat) (low high : Int) (w : World) (e : Ending) (w' : World) : Prop :=
  ∃ (v : Value) (xs : List Int), xs.length = n ∧ (∀ x ∈ xs, low ≤ x ∧ x ≤ high) ∧ v ≠ .slice none 0 0 ∧ e = .returned v ∧ Grow w' w.heap.size 3 v xs ∧ Rd B w' rb P ∧ Only rb w w'

set_option maxHeartbeats 2000000 in
set_option maxRecDepth 100000 in
theorem some_any (B rb P n : Nat) (low high : Int) (w : World) (hr : Rd B w rb P) (hP : P + n ≤ 900000) (hn : n ≤ 1000) (b0 : -1000000 ≤ low) (b1 : low ≤ high) (b2 : high ≤ 1000000) :
    Calls Try.prog 66 #[.pointer (some ⟨rb, 0, none⟩), .int .i64 n, .int .i64 low, .int .i64 high] w (DrewSome B rb (P + n) n low high w) := by
  obtain ⟨i0, hi0, hz0, hz1, hz2⟩ := info_parts info_int
  have hrb := hr.2.1
  have hB := hr.1
  have HR := Lib.hid hr; clear hr
  go_enter Try.func66, Try.ntmps66
  go_wp2_with fail
  go_loopw [9, 10] (fun s9 s10 wr => ∃ (k : Nat) (v : Value) (xs : List Int), k ≤ n ∧ v = s9 ∧ s10 = .int .i64 k ∧ Hid (xs.length = k ∧ ∀ x ∈ xs, low ≤ x ∧ x ≤ high) ∧ Hid (v ≠ .slice none 0 0) ∧ Hid (Grow wr w.heap.size 3 v xs) ∧ Hid (Rd B wr rb (P + k)) ∧ Hid (Only rb w wr)) (fun _ s10 _ => n - (intOf s10).toNat)
  case atStart => exact ⟨0, _, [], by omega, rfl, rfl, Lib.hid ⟨rfl, by simp⟩, Lib.hid (by simp), Lib.hid (Grow.lit0 w (Nat.le_refl _) _), Lib.hid (HR.out.alloc _), Lib.hid ((Only.refl _ _).alloc _)⟩
  case round =>
    obtain ⟨k, v, xs, hk, rfl, rfl, hxs, hne, hgr, hrd, ho⟩ := hrel
    have zr := ho.out.size
    by_cases hlt : k < n
    · have hxl := hxs.out.1
      go_wp2_with fail
      refine (pick_any B rb (P + k) _ _ hrd.out (by omega) (by omega) (by omega)).mono ?_
      rintro e w1 ⟨u, u0, u1, rfl, hr1, ho1⟩
      have R1 := Lib.hid hr1
      have D1 := Lib.hid ho1
      have O1 := Lib.hid (ho.out.trans ho1)
      have zz := ho1.size
      have G1 : Hid (Grow w1 w.heap.size 3 v xs) := Grow.only D1 hrb hgr.out
      clear hr1 ho1
      have hwr : wrap64 (low + u) = low + u := IntWalk.wrap64_in _ ⟨by omega, by omega⟩
      go_wp2_with (
        at_builtin
        refine wpList_append_own _ rfl (.tmp 17) (.tmp 26) 23 rfl w.heap.size 3 i0 (.int .i64 0) 1 8 Try.underlying23 hi0 hz0 hz1 hz2 rfl (by decide) v _ _ rfl (G1.out.alloc _).own ⟨w1.heap.size, 0, none⟩ 1 1 [.int .i64 (low + u)] rfl rfl ?c1 ?c2 ?c3 ?c4 ?c5 ?_
        case c1 => intro j u hj; (rcases j with _ | j <;> simp at hj); subst hj; simp [go_sem, hwr]
        case c2 => intro u hu; simp at hu; subst hu; rfl
        case c3 => unfold maxLen; omega
        case c4 => omega
        case c5 => simp; omega
        intro v' w4 hown' hgrow hnil
        have G4 : Hid (Grow w4 w.heap.size 3 v' (xs ++ [low + u])) := Lib.hid (Grow.snoc hown')
        have N4 : Hid (v' ≠ .slice none 0 0) := Lib.hid (fun h => by have := hnil.1 h; omega)
        have hrow : ∀ j, v.ownBlock = some j → w.heap.size ≤ j := hgr.out.row
        have R4 : Hid (Rd B w4 rb (P + k + 1)) := Lib.hid ((R1.out.alloc _).grown hgrow (fun j hj => by have := hrow j hj; omega))
        have O4 : Hid (Only rb w w4) := Lib.hid ((O1.out.alloc _).grown hgrow hrow)
        clear hown' hgrow hnil hrow)
      go_roundw
      case rel => exact ⟨k + 1, _, _, by omega, rfl, by go_num, Lib.hid ⟨by simp [hxl], fun x hx => by
          rcases List.mem_append.1 hx with h | h
          · exact hxs.out.2 x h
          · simp at h; subst h; omega⟩, N4, G4, R4, O4⟩
      case measure => simp [intOf]; omega
    · have hke : k = n := by omega
      subst hke
      go_wp2_with fail
      go_ret
      exact ⟨v, xs, hxs.out.1, hxs.out.2, hne.out, rfl, hgr.out, hrd.out, ho.out⟩
end Go.Proofs.Ytangfmmjpomlgaa
