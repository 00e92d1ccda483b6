
/-
  The reader of the given laws: what a call that draws numbers out of it leaves.
-/
import Derived.Test.YtpcfnlffamgdaabRows
import Derived.WalkKit
import Derived.BigQuiet
import Derived.Deep.QuietTactic
import Derived.Lib.Hide
import Derived.RegionTactic
import Derived.ChangeAlike
set_option linter.unusedSimpArgs false
set_option linter.unusedVariables false
namespace Go.Proofs.Ytpcfnlffamgdaab
open Go.RowKit

/-- Only block rb, and what is new, has turned. -/
structure Only (rb : Nat) (w w' : World) : Prop where
  os : w'.os = w.os
  tape : w'.tape = w.tape
  output : w'.output = w.output
  size : w.heap.size ≤ w'.heap.size
  block : ∀ k, k < w.heap.size → k ≠ rb → w'.heap[k]? = w.heap[k]?
theorem Only.refl (rb : Nat) (w : World) : Only rb w w := ⟨rfl, rfl, rfl, Nat.le_refl _, fun _ _ _ => rfl⟩
theorem Only.trans {rb : Nat} {a b c : World} (h : Only rb a b) (k : Only rb b c) : Only rb a c :=
  ⟨k.os.trans h.os, k.tape.trans h.tape, k.output.trans h.output, Nat.le_trans h.size k.size, fun i hi hn => (k.block i (Nat.lt_of_lt_of_le hi h.size) hn).trans (h.block i hi hn)⟩
theorem Only.of_below {rb : Nat} {w w' : World} (h : Below w.heap.size w w') : Only rb w w' := ⟨h.os, h.tape, h.output, h.size, fun k hk _ => h.block k hk⟩
theorem Only.below {rb B : Nat} {w w' : World} (h : Only rb w w') (h1 : B ≤ rb) (h2 : B ≤ w.heap.size) : Below B w w' := ⟨h.os, h.tape, h.output, h.size, fun k hk => h.block k (by omega) (by omega)⟩
theorem Only.alloc {rb : Nat} {a w : World} (h : Only rb a w) (o : Obj) : Only rb a (w.alloc o) :=
  h.trans ⟨rfl, rfl, rfl, by simp, fun k hk _ => Below.heap_alloc _ _ _ hk⟩
theorem Only.setNew {rb : Nat} {a w : World} (h : Only rb a w) {b o : Nat} {v : Value} (hb : a.heap.size ≤ b) : Only rb a (w.setCell ⟨b, o, none⟩ v) :=
  ⟨h.os, h.tape, h.output, by simpa [World.setCell] using h.size, fun k hk hn => (Below.heap_setCell _ _ _ _ (by simp; omega)).trans (h.block k hk hn)⟩
theorem Only.setRb {rb : Nat} {a w : World} (h : Only rb a w) {o : Nat} {v : Value} : Only rb a (w.setCell ⟨rb, o, none⟩ v) :=
  ⟨h.os, h.tape, h.output, by simpa [World.setCell] using h.size, fun k hk hn => (Below.heap_setCell _ _ _ _ (by simp; omega)).trans (h.block k hk hn)⟩
theorem Only.drewN {rb : Nat} {a w : World} (h : Only rb a w) (n : Nat) : Only rb a (w.drewN n) := ⟨h.os, h.tape, h.output, h.size, h.block⟩
theorem Only.cell {rb : Nat} {w w' : World} (h : Only rb w w') {b o : Nat} (h1 : b < w.heap.size) (h2 : b ≠ rb) : w'.cell? ⟨b, o, none⟩ = w.cell? ⟨b, o, none⟩ := World.cell?_of_block (w := w) (h.block b h1 h2)
theorem Only.frozen {rb : Nat} {w w' : World} (h : Only rb w w') {b o : Nat} (h1 : b < w.heap.size) (h2 : b ≠ rb) : w'.frozen? ⟨b, o, none⟩ = w.frozen? ⟨b, o, none⟩ := World.frozen?_of_block (w := w) (h.block b h1 h2)

/-- Block rb is a reader: its bytes lie below B, and it has read at most P of them. -/
def Rd (B : Nat) (w : World) (rb P : Nat) : Prop :=
  B ≤ rb ∧ rb < w.heap.size ∧ ∃ (a : Option Addr) (len cap p : Nat), w.cell? ⟨rb, 0, none⟩ = some (.slice a len cap) ∧ w.cell? ⟨rb, 1, none⟩ = some (.int .i64 p) ∧ w.frozen? ⟨rb, 1, none⟩ = false ∧ p ≤ P ∧
    (len = 0 ∨ ∃ bb off : Nat, a = some ⟨bb, off, none⟩ ∧ bb < B ∧ 0 < len ∧ len ≤ 2000 ∧ ∀ i, i < len → ∃ v : Int, 0 ≤ v ∧ v ≤ 255 ∧ w.cell? ⟨bb, off + i, none⟩ = some (.int .u8 v))
theorem Rd.keep {B rb P : Nat} {w w' : World} (h : Rd B w rb P) (hs : w.heap.size ≤ w'.heap.size) (h1 : w'.heap[rb]? = w.heap[rb]?) (h2 : ∀ k, k < B → w'.heap[k]? = w.heap[k]?) : Rd B w' rb P := by
  obtain ⟨hB, hr, a, len, cap, p, c0, c1, f1, hp, hby⟩ := h
  refine ⟨hB, Nat.lt_of_lt_of_le hr hs, a, len, cap, p, ?_, ?_, ?_, hp, ?_⟩
  · rw [World.cell?_of_block (w := w) (w' := w') (a := ⟨rb, 0, none⟩) h1]; exact c0
  · rw [World.cell?_of_block (w := w) (w' := w') (a := ⟨rb, 1, none⟩) h1]; exact c1
  · rw [World.frozen?_of_block (w := w) (w' := w') (a := ⟨rb, 1, none⟩) h1]; exact f1
  · rcases hby with h0 | ⟨bb, off, ha, hbb, hl0, hl, hc⟩
    · exact .inl h0
    · refine .inr ⟨bb, off, ha, hbb, hl0, hl, fun i hi => ?_⟩
      obtain ⟨v, v0, v1, hv⟩ := hc i hi
      exact ⟨v, v0, v1, by rw [World.cell?_of_block (w := w) (w' := w') (a := ⟨bb, off + i, none⟩) (h2 bb hbb)]; exact hv⟩
theorem Rd.below {B rb P : Nat} {w w' : World} (h : Rd B w rb P) (hb : Below w.heap.size w w') : Rd B w' rb P :=
  h.keep hb.size (hb.block _ h.2.1) (fun k hk => hb.block _ (by have := h.1; have := h.2.1; omega))
theorem Rd.alloc {B rb P : Nat} {w : World} (h : Rd B w rb P) (o : Obj) : Rd B (w.alloc o) rb P := h.below ((Below.refl _ _).alloc (Nat.le_refl _) _)
theorem Rd.drewN {B rb P : Nat} {w : World} (h : Rd B w rb P) (n : Nat) : Rd B (w.drewN n) rb P := h.keep (Nat.le_refl _) rfl (fun _ _ => rfl)
theorem Rd.set {B rb P : Nat} {w : World} (h : Rd B w rb P) {b o : Nat} {v : Value} (h1 : B ≤ b) (h2 : b ≠ rb) : Rd B (w.setCell ⟨b, o, none⟩ v) rb P :=
  h.keep (by simp [World.setCell]) (Below.heap_setCell _ _ _ _ (by simp; omega)) (fun k hk => Below.heap_setCell _ _ _ _ (by simp; omega))
theorem Rd.mono {B rb P Q : Nat} {w : World} (h : Rd B w rb P) (hPQ : P ≤ Q) : Rd B w rb Q := by
  obtain ⟨hB, hr, a, len, cap, p, c0, c1, f1, hp, hby⟩ := h
  exact ⟨hB, hr, a, len, cap, p, c0, c1, f1, by omega, hby⟩

/-- What a draw of a number below n says. -/
def Drew (B rb P : Nat) (n : Int) (w : World) (e : Ending) (w' : World) : Prop :=
  ∃ v : Int, 0 ≤ v ∧ v < n ∧ e = .returned (.int .i64 v) ∧ Rd B w' rb (P + 1) ∧ Only rb w w'

theorem Drew.mk {B rb p P len cap : Nat} {a : Option Addr} {n v : Int} {w w' : World} (hr : Rd B w rb P) (c0 : w.cell? ⟨rb, 0, none⟩ = some (.slice a len cap)) (c1 : w.cell? ⟨rb, 1, none⟩ = some (.int .i64 p)) (f1 : w.frozen? ⟨rb, 1, none⟩ = false) (hp : p ≤ P)
    (k : Nat) (hw : w' = (w.setCell ⟨rb, 1, none⟩ (.int .i64 ((p : Int) + 1))).drewN k) (h0 : 0 ≤ v) (h1 : v < n) : Drew B rb P n w (.returned (.int .i64 v)) w' := by
  subst hw
  refine ⟨v, h0, h1, rfl, ?_, (Only.refl _ _).setRb.drewN _⟩
  refine Rd.drewN ?_ _
  obtain ⟨hB, hrb, a', len', cap', p', c0', c1', f1', hp', hby⟩ := hr
  rw [c0] at c0'
  obtain ⟨rfl, rfl, rfl⟩ := Value.slice.inj (Option.some.inj c0')
  refine ⟨hB, by simpa [World.setCell] using hrb, a, len, cap, p + 1, ?_, ?_, ?_, by omega, ?_⟩
  · simp [go_sem, c0]
  · simp [go_sem, c1]
  · simp [go_sem, f1]
  · rcases hby with h0 | ⟨bb, off, ha, hbb, hl0, hl, hc⟩
    · exact .inl h0
    · refine .inr ⟨bb, off, ha, hbb, hl0, hl, fun i hi => ?_⟩
      obtain ⟨v, v0, v1, hv⟩ := hc i hi
      refine ⟨v, v0, v1, ?_⟩
      rw [World.cell?_of_block (w := w) (a := ⟨bb, off + i, none⟩) (Below.heap_setCell _ _ _ _ (by simp; omega))]
      exact hv

theorem xor_i64 {x y : Int} (h0 : 0 ≤ x) (h1 : x ≤ 1000000000) (k0 : 0 ≤ y) (k1 : y ≤ 1000000000) : 0 ≤ bits .xor .i64 x y := by
  obtain ⟨a, rfl⟩ := Int.eq_ofNat_of_zero_le h0
  obtain ⟨b, rfl⟩ := Int.eq_ofNat_of_zero_le k0
  have hx : a ^^^ b < 2 ^ 62 := Nat.xor_lt_two_pow (by omega) (by omega)
  have e1 : (BitVec.ofInt 64 (a : Int)).toNat = a := by
    rw [BitVec.ofInt_natCast, BitVec.toNat_ofNat]; exact Nat.mod_eq_of_lt (by omega)
  have e2 : (BitVec.ofInt 64 (b : Int)).toNat = b := by
    rw [BitVec.ofInt_natCast, BitVec.toNat_ofNat]; exact Nat.mod_eq_of_lt (by omega)
  show 0 ≤ IntKind.i64.wrap ((BitVec.ofInt 64 (a : Int) ^^^ BitVec.ofInt 64 (b : Int)).toNat : Int)
  rw [BitVec.toNat_xor, e1, e2, IntWalk.i64_in _ ⟨by omega, by omega⟩]
  omega

set_option maxHeartbeats 2000000 in
theorem pick_any (B rb P : Nat) (n : Int) (w : World) (hr : Rd B w rb P) (hP : P ≤ 1000000) (h1 : 1 ≤ n) (h2 : n ≤ 1000000000) :
    Calls Try.prog 64 #[.pointer (some ⟨rb, 0, none⟩), .int .i64 n] w (Drew B rb P n w) := by
  have hr' := hr
  obtain ⟨hB, hrb, a, len, cap, p, c0, c1, f1, hp, hby⟩ := hr
  have HR := Lib.hid hr'; clear hr'
  have C0 := Lib.hid c0
  have C1 := Lib.hid c1
  have F1 := Lib.hid f1
  have hrb' : (rb == rb) = true := by simp
  rcases hby with rfl | ⟨bb, off, rfl, hbb, hl0, hl, hc⟩
  · go_enter Try.func64, Try.ntmps64
    go_wp2
    go_ret
    exact Drew.mk HR.out C0.out C1.out F1.out hp 0 rfl (by omega) (by omega)
  · have hne : bb ≠ rb := by omega
    have hlz : ((len : Int) == 0) = false := by simp; omega
    by_cases hk : p < len
    · obtain ⟨v, v0, v1, hv⟩ := hc p hk
      have m0 := Int.emod_nonneg v (show n ≠ 0 by omega)
      have m1 := Int.emod_lt_of_pos v (show 0 < n by omega)
      clear hc
      go_enter Try.func64, Try.ntmps64
      go_wp2
      go_ret
      exact Drew.mk HR.out C0.out C1.out F1.out hp 0 rfl m0 m1
    · have hlen : 0 < (len : Int) := by omega
      have e1 : ((p : Int) % (len : Int)) = ((p % len : Nat) : Int) := by simp
      have e2 : (((p : Int) * 7 + 3) % (len : Int)) = (((p * 7 + 3) % len : Nat) : Int) := by simp
      obtain ⟨v, v0, v1, hv⟩ := hc (p % len) (Nat.mod_lt _ hl0)
      obtain ⟨u, u0, u1, hu⟩ := hc ((p * 7 + 3) % len) (Nat.mod_lt _ hl0)
      have b1 := Int.emod_nonneg (p : Int) (show (len : Int) ≠ 0 by omega)
      have b2 := Int.emod_lt_of_pos (p : Int) hlen
      have b3 := Int.emod_nonneg ((p : Int) * 7 + 3) (show (len : Int) ≠ 0 by omega)
      have b4 := Int.emod_lt_of_pos ((p : Int) * 7 + 3) hlen
      obtain ⟨x, hx, x0, x1⟩ : ∃ x : Int, wrap64 (v * 131 + u * 1117 + (p : Int) * 29 + wrap64 (wrap64 ((p : Int) / (len : Int)) * 53)) = x ∧ 0 ≤ x ∧ x ≤ 1000000000 := by
        have q0 := Int.ediv_nonneg (show 0 ≤ (p : Int) by omega) (show 0 ≤ (len : Int) by omega)
        have q1 := Int.ediv_le_self (len : Int) (show 0 ≤ (p : Int) by omega)
        rw [IntWalk.wrap64_in ((p : Int) / (len : Int)) ⟨by omega, by omega⟩, IntWalk.wrap64_in ((p : Int) / (len : Int) * 53) ⟨by omega, by omega⟩]
        exact ⟨_, IntWalk.wrap64_in _ ⟨by omega, by omega⟩, by omega, by omega⟩
      have HX := Lib.hid hx; clear hx
      clear hc e1 e2
      go_enter Try.func64, Try.ntmps64
      go_wp2
      go_quiet (fail)
      rw [HX.out]
      go_wp2
      go_ret
      have y0 := xor_i64 (x := x) (y := x / 64) x0 x1 (by omega) (by omega)
      refine Drew.mk HR.out C0.out C1.out F1.out hp nq rfl ?_ ?_
      · rw [Int.tmod_eq_emod_of_nonneg y0]; exact Int.emod_nonneg _ (by omega)
      · rw [Int.tmod_eq_emod_of_nonneg y0]; exact Int.emod_lt_of_pos _ (by omega)

/-- What a draw out of a list says. -/
def DrewOf (B rb P : Nat) (l : List Int) (w : World) (e : Ending) (w' : World) : Prop :=
  ∃ v : Int, v ∈ l ∧ e = .returned (.int .i64 v) ∧ Rd B w' rb (P + 1) ∧ Only rb w w'
theorem one_any (B rb P lb cap : Nat) (l : List Int) (w : World) (hr : Rd B w rb P) (hP : P ≤ 1000000) (h1 : 1 ≤ l.length) (h2 : l.length ≤ 1000) (hlb : lb ≠ rb) (hlt : lb < w.heap.size)
    (hc : ∀ i, i < l.length → w.cell? ⟨lb, i, none⟩ = some (.int .i64 (l.getD i 0))) :
    Calls Try.prog 65 #[.pointer (some ⟨rb, 0, none⟩), .slice (some ⟨lb, 0, none⟩) l.length cap] w (DrewOf B rb P l w) := by
  have C := Lib.hid hc; clear hc
  have HR := Lib.hid hr; clear hr
  go_enter Try.func65, Try.ntmps65
  go_wp2_with fail
  refine (pick_any B rb P _ _ HR.out hP (by omega) (by omega)).mono ?_
  rintro e w1 ⟨v, v0, v1, rfl, hr1, ho⟩
  obtain ⟨k, rfl⟩ := Int.eq_ofNat_of_zero_le v0
  have hk : k < l.length := by omega
  have hcell : w1.cell? ⟨lb, k, none⟩ = some (.int .i64 (l.getD k 0)) := by rw [ho.cell hlt hlb]; exact C.out k hk
  have HR1 := Lib.hid hr1; clear hr1
  have HO := Lib.hid ho; clear ho
  go_wp2_with fail
  go_ret
  refine ⟨l.getD k 0, ?_, by simp [List.getElem?_eq_getElem hk], HR1.out, HO.out⟩
  rw [List.getD_eq_getElem?_getD, List.getElem?_eq_getElem hk]
  exact List.getElem_mem hk

/-- The bytes that came in: they lie below B. -/
def By (B : Nat) (w : World) (a : Option Addr) (len cap : Nat) : Prop :=
  len ≤ cap ∧ cap ≤ maxLen ∧ (len = 0 ∨ ∃ bb off : Nat, a = some ⟨bb, off, none⟩ ∧ bb < B ∧ ∀ i, i < len → ∃ v : Int, 0 ≤ v ∧ v ≤ 255 ∧ w.cell? ⟨bb, off + i, none⟩ = some (.int .u8 v))
theorem By.keep {B len cap : Nat} {a : Option Addr} {w w' : World} (h : By B w a len cap) (h2 : ∀ k, k < B → w'.heap[k]? = w.heap[k]?) : By B w' a len cap := by
  obtain ⟨h0, h1, hby⟩ := h
  refine ⟨h0, h1, ?_⟩
  rcases hby with hz | ⟨bb, off, ha, hbb, hc⟩
  · exact .inl hz
  · refine .inr ⟨bb, off, ha, hbb, fun i hi => ?_⟩
    obtain ⟨v, v0, v1, hv⟩ := hc i hi
    exact ⟨v, v0, v1, by rw [World.cell?_of_block (w := w) (w' := w') (a := ⟨bb, off + i, none⟩) (h2 bb hbb)]; exact hv⟩
theorem By.below {B len cap : Nat} {a : Option Addr} {w w' : World} (h : By B w a len cap) (hb : Below B w w') : By B w' a len cap := h.keep hb.block

/-- What laying a reader says. -/
def Laid (B : Nat) (w : World) (e : Ending) (w' : World) : Prop :=
  e = .returned (.pointer (some ⟨w.heap.size, 0, none⟩)) ∧ Rd B w' w.heap.size 0 ∧ Below w.heap.size w w'
theorem Laid.mk {B len cap : Nat} {a : Option Addr} {w w' : World} {t : TypeId} (h : By B w a len cap) (hB : B ≤ w.heap.size) (hl : len ≤ 2000) (hw : w' = w.alloc (.cells #[.slice a len cap, .int .i64 0] t)) :
    Laid B w (.returned (.pointer (some ⟨w.heap.size, 0, none⟩))) w' := by
  subst hw
  have hbel := (Below.refl w.heap.size w).alloc (Nat.le_refl _) (.cells #[.slice a len cap, .int .i64 0] t)
  refine ⟨rfl, ⟨hB, by simp, a, len, cap, 0, by simp [World.cell?_alloc_new], by simp [World.cell?_alloc_new], by simp [go_sem], Nat.le_refl _, ?_⟩, hbel⟩
  obtain ⟨h0, h1, hby⟩ := h.below (hbel.mono hB)
  rcases hby with hz | ⟨bb, off, ha, hbb, hc⟩
  · exact .inl hz
  · rcases Nat.eq_zero_or_pos len with hz | hp
    · exact .inl hz
    · exact .inr ⟨bb, off, ha, hbb, hp, hl, hc⟩
theorem newReader_any (B len cap : Nat) (a : Option Addr) (w : World) (h : By B w a len cap) (hB : B ≤ w.heap.size) :
    Calls Try.prog 62 #[.slice a len cap] w (Laid B w) := by
  have h' := h
  obtain ⟨h0, h1, hby⟩ := h'
  unfold maxLen at h1
  by_cases hl : 2000 < len
  · rcases hby with hz | ⟨bb, off, rfl, hbb, hc⟩
    · omega
    · have h2 : By B w (some ⟨bb, off, none⟩) 2000 cap := ⟨by omega, h.2.1, .inr ⟨bb, off, rfl, hbb, fun i hi => hc i (by omega)⟩⟩
      have H2 := Lib.hid h2; clear h2
      clear hc h
      go_enter Try.func62, Try.ntmps62
      go_wp2
      go_ret
      exact Laid.mk H2.out hB (Nat.le_refl _) rfl
  · clear hby
    have H := Lib.hid h; clear h
    go_enter Try.func62, Try.ntmps62
    go_wp2
    go_ret
    exact Laid.mk H.out hB (by omega) rfl
end Go.Proofs.Ytpcfnlffamgdaab
