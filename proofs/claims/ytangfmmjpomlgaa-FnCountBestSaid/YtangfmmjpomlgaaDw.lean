
/-
  The draws of the laws on rows: a row and a number, a row and a point.
-/
import Derived.Test.YtangfmmjpomlgaaDv
set_option linter.unusedSimpArgs false
set_option linter.unusedVariables false
namespace Go.Proofs.Ytangfmmjpomlgaa
open Go.RowKit

def RowIntDrawn (w : World) (e : Ending) (w' : World) : Prop :=
  ∃ (g c : Nat) (r : PRow) (m : Nat), w.heap.size ≤ g ∧ e = .returned (.tuple #[.agg #[.slice (some ⟨g, 0, none⟩) r.cs.length c, .int .i64 r.s, .int .i64 r.b], .int .i64 m]) ∧ OwnI w' g r.cs ∧ RowV w' (some ⟨g, 0, none⟩) c r ∧ r.cs.length ≤ 1000 ∧ m ≤ 10 ∧ Below w.heap.size w w'
theorem RowIntDrawn.mk {g c n m : Nat} {xs : List Int} {s b : Int} {A : Option Addr} {w w' w0 : World} (hg : w.heap.size ≤ g) (ho : OwnI w' g xs) (hi : Ints w0 A n xs) (lc : xs.length ≤ c) (mc : c ≤ maxLen) (hm : xs.length ≤ 1000) (hs : I64 s) (hb : I64 b) (h10 : m ≤ 10) (hO : Below w.heap.size w w') :
    RowIntDrawn w (.returned (.tuple #[.agg #[.slice (some ⟨g, 0, none⟩) xs.length c, .int .i64 s, .int .i64 b], .int .i64 m])) w' := by
  have e := hi.1
  subst e
  exact ⟨g, c, ⟨xs, s, b⟩, m, hg, rfl, ho, ⟨ho.ints_of hi, lc, mc, hs, hb⟩, hm, h10, hO⟩
def RowIntsDrawn (w : World) (e : Ending) (w' : World) : Prop :=
  ∃ (g c : Nat) (r : PRow) (A : Option Addr) (n d : Nat) (xs : List Int), w.heap.size ≤ g ∧ e = .returned (.tuple #[.agg #[.slice (some ⟨g, 0, none⟩) r.cs.length c, .int .i64 r.s, .int .i64 r.b], .slice A n d]) ∧ OwnI w' g r.cs ∧ RowV w' (some ⟨g, 0, none⟩) c r ∧ r.cs.length ≤ 1000 ∧
    Ints w' A n xs ∧ n ≤ d ∧ d ≤ maxLen ∧ n ≤ 1000 ∧ Below w.heap.size w w'

theorem RowIntsDrawn.mk {g c n n5 d5 : Nat} {xs ys : List Int} {s b : Int} {A A5 : Option Addr} {w w' w0 : World} (hg : w.heap.size ≤ g) (ho : OwnI w' g xs) (hi : Ints w0 A n xs) (lc : xs.length ≤ c) (mc : c ≤ maxLen) (hm : xs.length ≤ 1000) (hs : I64 s) (hb : I64 b)
    (h5 : IntsF w' w.heap.size A5 n5 ys) (lc5 : n5 ≤ d5) (mc5 : d5 ≤ maxLen) (hn5 : n5 ≤ 1000) (hO : Below w.heap.size w w') :
    RowIntsDrawn w (.returned (.tuple #[.agg #[.slice (some ⟨g, 0, none⟩) xs.length c, .int .i64 s, .int .i64 b], .slice A5 n5 d5])) w' := by
  have e := hi.1
  subst e
  exact ⟨g, c, ⟨xs, s, b⟩, A5, n5, d5, ys, hg, rfl, ho, ⟨ho.ints_of hi, lc, mc, hs, hb⟩, hm, h5.out, lc5, mc5, hn5, hO⟩
theorem IntsF.lower {w : World} {lo lo' n : Nat} {A : Option Addr} {xs : List Int} (h : IntsF w lo A n xs) (hl : lo' ≤ lo) : IntsF w lo' A n xs := ⟨h.1, fun hn => by obtain ⟨g, off, e, hg⟩ := h.2 hn; exact ⟨g, off, e, by omega⟩⟩
theorem anyRow_at (B rb P n : Nat) (k : Int) (w : World) (hr : Rd B w rb P) (hP : P + n ≤ 700000) (hn : n ≤ 1000) (hk : k = (n : Int)) :
    Calls Try.prog 53 #[.pointer (some ⟨rb, 0, none⟩), .int .i64 k] w (DrewRow B rb (P + n + 7) (n + 1) w) := by subst hk; exact anyRow_any B rb P n w hr hP hn
theorem some_at (B rb P n : Nat) (k low high : Int) (w : World) (hr : Rd B w rb P) (hP : P + n ≤ 900000) (hn : n ≤ 1000) (b0 : -1000000 ≤ low) (b1 : low ≤ high) (b2 : high ≤ 1000000) (hk : k = (n : Int)) :
    Calls Try.prog 66 #[.pointer (some ⟨rb, 0, none⟩), .int .i64 k, .int .i64 low, .int .i64 high] w (DrewSome B rb (P + n) n low high w) := by subst hk; exact some_any B rb P n low high w hr hP hn b0 b1 b2
end Go.Proofs.Ytangfmmjpomlgaa
