
/-
  The draws of rows that may be invalid.
-/
import Derived.Test.YtfidahpaidkhgaaDs
set_option linter.unusedSimpArgs false
set_option linter.unusedVariables false
namespace Go.Proofs.Ytfidahpaidkhgaa
open Go.RowKit

/-- A copy that can grow. -/
def CopyEnd (xs : List Int) (w : World) (e : Ending) (w' : World) : Prop :=
  ∃ v : Value, v ≠ .slice none 0 0 ∧ e = .returned v ∧ Grow w' w.heap.size 3 v xs ∧ Below w.heap.size w w'
set_option maxHeartbeats 1000000 in
theorem spec_copyIntsG (b off n c : Nat) (xs : List Int) (w : World) (hI : Ints w (some ⟨b, off, none⟩) n xs) (hn : n ≤ 1048576) : Calls Try.prog 78 #[.slice (some ⟨b, off, none⟩) n c] w (CopyEnd xs w) := by
  obtain ⟨i0, hi0, hz0, hz1, hz2⟩ := info_parts info_int
  have HI := Lib.hid hI
  have HL := Lib.hid hI.len
  have HR := Lib.hid hI.2.1
  clear hI
  have own0 := Lib.hid (World.ownsRow_made (base := w.heap.size) (e := 3) (size := 1) w #[] 0 (Nat.le_refl _) (Nat.zero_le _) rfl)
  have HW : Hid (Ints (w.alloc (.cells #[] 3)) (some ⟨b, off, none⟩) n xs) := HI.out.below (by (repeat' (first | (with_reducible exact Below.refl _ _) | (with_reducible refine belS ?_ (by first | omega | (simp; done) | (simp; omega) | (simp only [World.size_alloc, World.size_setCell, World.size_drew] at *; omega))) | (with_reducible refine belA ?_ (by first | omega | (simp; done) | (simp; omega) | (simp only [World.size_alloc, World.size_setCell, World.size_drew] at *; omega))) | (with_reducible refine bel_drewN ?_ _) | (with_reducible refine Below.drew ?_) | (with_reducible assumption) | (refine Hid.out ?_; with_reducible assumption) | (apply belV; (with_reducible assumption); exact (by first | omega | (simp; done) | (simp; omega) | (simp only [World.size_alloc, World.size_setCell, World.size_drew] at *; omega))))))
  go_enter Try.func78, Try.ntmps78
  go_wp2_with (
    at_builtin
    refine wpList_append_own _ rfl (.tmp 3) (.tmp 4) 22 rfl w.heap.size 3 i0 (.int .i64 0) 1 8 Try.underlying22 hi0 hz0 hz1 hz2 rfl (by decide) (.slice (some ⟨w.heap.size, 0, none⟩) 0 0) 0 [] rfl own0.out ⟨b, off, none⟩ n c (xs.map (Value.int .i64)) rfl ?c0 (news_at HW.out) (one_ints xs) ?c3 ?c4 ?c5 ?_
    case c0 => rw [List.length_map, HL.out]; omega
    case c3 => unfold maxLen; omega
    case c4 => omega
    case c5 => simp
    intro v' w1 hown' hgrow hnil
    have O1 : Hid (Grow w1 w.heap.size 3 v' xs) := Lib.hid (by
      unfold Grow
      have e := HL.out
      subst e
      simpa using hown')
    have N1 : Hid (v' ≠ .slice none 0 0) := Lib.hid (fun h => by have := (hnil.1 h).1; simp at this)
    have G1 : Hid (Below w.heap.size w w1) := ((Below.refl w.heap.size w).alloc (Nat.le_refl _) _).grown hgrow (by simp) (fun j hj => by simp [Value.ownBlock] at hj; omega)
    clear hown' hgrow hnil)
  go_ret
  exact ⟨v', N1.out, rfl, O1.out, G1.out⟩

theorem one_drew (B rb P : Nat) (l : List Int) (w0 : World) (t : TypeId) (lb cap : Nat) (hr : Rd B w0 rb P) (hP : P ≤ 1000000) (h1 : 1 ≤ l.length) (h2 : l.length ≤ 1000) (hlb : lb = w0.heap.size) :
    Calls Try.prog 74 #[.pointer (some ⟨rb, 0, none⟩), .slice (some ⟨lb, 0, none⟩) l.length cap] (w0.alloc (.cells (l.map (Value.int .i64)).toArray t)).drew (DrewOf B rb P l (w0.alloc (.cells (l.map (Value.int .i64)).toArray t)).drew) := by
  subst hlb
  have h0 := hr.2.1
  exact one_any B rb P _ cap l _ (hr.alloc _).drew hP h1 h2 (by omega) (by simp) (fun i hi => by rw [World.cell?_drew]; exact lit_cells i hi)
theorem DrewRow.mk2 {B rb P m g c : Nat} {xs : List Int} {s b : Int} {w w' : World} (hg : w.heap.size ≤ g) (ho : OwnI w' g xs) (hi : ∀ x ∈ xs, I64 x) (lc : xs.length ≤ c) (mc : c ≤ maxLen) (hm : xs.length ≤ m) (hs : I64 s) (hb : I64 b)
    (hr : Rd B w' rb P) (hO : Only rb w w') : DrewRow B rb P m w (.returned (.agg #[.slice (some ⟨g, 0, none⟩) xs.length c, .int .i64 s, .int .i64 b])) w' :=
  ⟨g, c, ⟨xs, s, b⟩, hg, rfl, ho, ⟨ho.ints hi, lc, mc, hs, hb⟩, hm, hr, hO⟩
theorem OwnI.head {w : World} {g : Nat} {x : Int} {xs : List Int} (h : OwnI w g (x :: xs)) (y : Int) : OwnI (w.setCell ⟨g, 0, none⟩ (.int .i64 y)) g (y :: xs) := h.set_ (k := 0) (x0 := x) rfl y
end Go.Proofs.Ytfidahpaidkhgaa
