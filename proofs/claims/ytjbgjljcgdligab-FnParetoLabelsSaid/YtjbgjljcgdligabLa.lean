
/-
  Labels: plain facts; sets of small numbers as bits.
-/
import Derived.Test.YtjbgjljcgdligabRw
import Derived.Test.YtjbgjljcgdligabM2
import Derived.Laws.BitsAllLaws
import Derived.Laws.BitsLemmas
set_option linter.unusedSimpArgs false
set_option linter.unusedVariables false
namespace Go.Proofs.Ytjbgjljcgdligab
open Go.RowKit

theorem Box.facts5 {w : World} {b : Nat} {x y z u v : Value} (h : Box w b #[x, y, z, u, v]) : w.cell? ⟨b, 0, none⟩ = some x ∧ w.cell? ⟨b, 1, none⟩ = some y ∧ w.cell? ⟨b, 2, none⟩ = some z ∧ w.cell? ⟨b, 3, none⟩ = some u ∧ w.cell? ⟨b, 4, none⟩ = some v := ⟨h.at 0 rfl, h.at 1 rfl, h.at 2 rfl, h.at 3 rfl, h.at 4 rfl⟩

theorem Box.put5_0 {w : World} {b : Nat} {x y z u v q : Value} (h : Box w b #[x, y, z, u, v]) : Box (w.setCell ⟨b, 0, none⟩ q) b #[q, y, z, u, v] := h.put (i := 0) (by simp) q
theorem Box.put5_1 {w : World} {b : Nat} {x y z u v q : Value} (h : Box w b #[x, y, z, u, v]) : Box (w.setCell ⟨b, 1, none⟩ q) b #[x, q, z, u, v] := h.put (i := 1) (by simp) q
theorem Box.put5_2 {w : World} {b : Nat} {x y z u v q : Value} (h : Box w b #[x, y, z, u, v]) : Box (w.setCell ⟨b, 2, none⟩ q) b #[x, y, q, u, v] := h.put (i := 2) (by simp) q
theorem Box.put5_3 {w : World} {b : Nat} {x y z u v q : Value} (h : Box w b #[x, y, z, u, v]) : Box (w.setCell ⟨b, 3, none⟩ q) b #[x, y, z, q, v] := h.put (i := 3) (by simp) q
theorem Box.put5_4 {w : World} {b : Nat} {x y z u v q : Value} (h : Box w b #[x, y, z, u, v]) : Box (w.setCell ⟨b, 4, none⟩ q) b #[x, y, z, u, q] := h.put (i := 4) (by simp) q
/-- A label: place, mask, time, load, cost. -/
structure PLab where
  a : Int
  m : Int
  t : Int
  o : Int
  c : Int
def PLab.ok (x : PLab) : Prop := I64 x.a ∧ I64 x.m ∧ I64 x.t ∧ I64 x.o ∧ I64 x.c
/-- All numbers of the set A are in the set B. -/
def partB (A B : Int) : Bool := decide (A.toNat ||| B.toNat = B.toNat)
def domB (x y : PLab) : Bool := decide (x.a = y.a) && (inB x.m 0 31 && (inB y.m 0 31 && (partB x.m y.m && (decide (x.t ≤ y.t) && (decide (x.o ≤ y.o) && decide (x.c ≤ y.c))))))

theorem sub_or {A B : Nat} (hA : A < 18446744073709551616) (hB : B < 18446744073709551616) : A &&& (18446744073709551615 - B) = 0 ↔ A ||| B = B := by
  have e : 18446744073709551615 - B = 2 ^ 64 - (B + 1) := by omega
  have hB' : B < 2 ^ 64 := by omega
  rw [e]
  constructor
  · intro h
    apply Nat.eq_of_testBit_eq
    intro i
    have := congrArg (fun n => n.testBit i) h
    simp only [Nat.testBit_and, Nat.testBit_two_pow_sub_succ hB', Nat.zero_testBit] at this
    rw [Nat.testBit_or]
    by_cases hi : i < 64
    · cases ha : A.testBit i <;> cases hb : B.testBit i <;> simp_all
    · have : A.testBit i = false := Nat.testBit_lt_two_pow (Nat.lt_of_lt_of_le (show A < 2 ^ 64 by omega) (Nat.pow_le_pow_right (by omega) (by omega)))
      simp [this]
  · intro h
    apply Nat.eq_of_testBit_eq
    intro i
    have := congrArg (fun n => n.testBit i) h
    simp only [Nat.testBit_or] at this
    simp only [Nat.testBit_and, Nat.testBit_two_pow_sub_succ hB', Nat.zero_testBit]
    cases ha : A.testBit i <;> cases hb : B.testBit i <;> simp_all
theorem or_ge (A B : Nat) : A ≤ A ||| B := Nat.left_le_or
/-- s &^ other == 0, of two numbers that were made sets. -/
theorem part_in {m b : Int} (hm : I64 m) (hb : inB b 0 31 = true) : (bits .andNot .u64 (IntKind.u64.wrap m) (IntKind.u64.wrap b) == 0) = (inB m 0 31 && partB m b) := by
  obtain ⟨b0, b1⟩ := inB_iff.1 hb
  obtain ⟨m0, m1⟩ := hm
  have eb : IntKind.u64.wrap b = b := by rw [IntKind.wrap_u64]; omega
  obtain ⟨B, rfl⟩ := Int.eq_ofNat_of_zero_le b0
  rw [eb]
  by_cases hn : m < 0
  · have em : IntKind.u64.wrap m = ((m + 18446744073709551616).toNat : Int) := by rw [IntKind.wrap_u64]; omega
    obtain ⟨A, hA⟩ : ∃ A : Nat, A = (m + 18446744073709551616).toNat := ⟨_, rfl⟩
    rw [em, ← hA, u64_andNot_nat A B (by omega) (by omega)]
    have e1 : inB m 0 31 = false := inB_not.2 (by omega)
    rw [e1, Bool.false_and]
    have hne : ¬ A &&& (18446744073709551615 - B) = 0 := by
      rw [sub_or (by omega) (by omega)]
      intro h
      have := or_ge A B
      omega
    simpa using hne
  · obtain ⟨A, rfl⟩ := Int.eq_ofNat_of_zero_le (show 0 ≤ m by omega)
    have em : IntKind.u64.wrap (A : Int) = (A : Int) := by rw [IntKind.wrap_u64]; omega
    rw [em, u64_andNot_nat A B (by omega) (by omega)]
    by_cases h31 : A ≤ 31
    · have e1 : inB (A : Int) 0 31 = true := inB_iff.2 ⟨by omega, by omega⟩
      rw [e1, Bool.true_and]
      unfold partB
      simp only [Int.toNat_natCast]
      by_cases h : A ||| B = B
      · rw [(sub_or (by omega) (by omega)).2 h]; simp [h]
      · have : ¬ A &&& (18446744073709551615 - B) = 0 := by rw [sub_or (by omega) (by omega)]; exact h
        simp [h, this]
    · have e1 : inB (A : Int) 0 31 = false := inB_not.2 (by omega)
      rw [e1, Bool.false_and]
      have hne : ¬ A &&& (18446744073709551615 - B) = 0 := by
        rw [sub_or (by omega) (by omega)]
        intro h
        have := or_ge A B
        omega
      simpa using hne
/-- a | b == b, of two small numbers. -/
theorem or_in {a b : Int} (ha : inB a 0 31 = true) (hb : inB b 0 31 = true) : (bits .or .i64 a b == b) = partB a b := by
  obtain ⟨a0, a1⟩ := inB_iff.1 ha
  obtain ⟨b0, b1⟩ := inB_iff.1 hb
  obtain ⟨A, rfl⟩ := Int.eq_ofNat_of_zero_le a0
  obtain ⟨B, rfl⟩ := Int.eq_ofNat_of_zero_le b0
  have hx : A ||| B < 2 ^ 5 := Nat.or_lt_two_pow (by omega) (by omega)
  have e1 : (BitVec.ofInt 64 (A : Int)).toNat = A := by
    rw [BitVec.ofInt_natCast, BitVec.toNat_ofNat]; exact Nat.mod_eq_of_lt (by omega)
  have e2 : (BitVec.ofInt 64 (B : Int)).toNat = B := by
    rw [BitVec.ofInt_natCast, BitVec.toNat_ofNat]; exact Nat.mod_eq_of_lt (by omega)
  have e : bits .or .i64 (A : Int) (B : Int) = ((A ||| B : Nat) : Int) := by
    show IntKind.i64.wrap ((BitVec.ofInt 64 (A : Int) ||| BitVec.ofInt 64 (B : Int)).toNat : Int) = _
    rw [BitVec.toNat_or, e1, e2, IntWalk.i64_in _ ⟨by omega, by omega⟩]
  rw [e]
  unfold partB
  simp only [Int.toNat_natCast]
  by_cases h : A ||| B = B
  · simp [h]
  · have : ¬ ((A ||| B : Nat) : Int) = (B : Int) := by omega
    simp [h]
    exact this
theorem partB_refl (a : Int) : partB a a = true := by simp [partB, Nat.or_self]
theorem partB_zero (a : Int) : partB 0 a = true := by simp [partB]
theorem domB_1 {x y : PLab} (h : ¬ x.a = y.a) : domB x y = false := by simp [domB, h]
theorem domB_2 {x y : PLab} (h : inB x.m 0 31 = false) : domB x y = false := by simp [domB, h]
theorem domB_3 {x y : PLab} (h : inB y.m 0 31 = false) : domB x y = false := by simp [domB, h]
theorem domB_4 {x y : PLab} (h : partB x.m y.m = false) : domB x y = false := by simp [domB, h]
theorem domB_5 {x y : PLab} (h : ¬ x.t ≤ y.t) : domB x y = false := by simp [domB]; omega
theorem domB_6 {x y : PLab} (h : ¬ x.o ≤ y.o) : domB x y = false := by simp [domB]; omega
theorem domB_7 {x y : PLab} (h : ¬ x.c ≤ y.c) : domB x y = false := by simp [domB]; omega
theorem domB_8 {x y : PLab} (h1 : x.a = y.a) (h2 : inB x.m 0 31 = true) (h3 : inB y.m 0 31 = true) (h4 : partB x.m y.m = true) (h5 : x.t ≤ y.t) (h6 : x.o ≤ y.o) (h7 : x.c ≤ y.c) : domB x y = true := by simp [domB, h1, h2, h3, h4, h5, h6, h7]
theorem domB_iff {x y : PLab} : domB x y = true ↔ x.a = y.a ∧ (0 ≤ x.m ∧ x.m ≤ 31) ∧ (0 ≤ y.m ∧ y.m ≤ 31) ∧ partB x.m y.m = true ∧ x.t ≤ y.t ∧ x.o ≤ y.o ∧ x.c ≤ y.c := by
  simp [domB, inB]
theorem dom_self (x : PLab) : domB x x = inB x.m 0 31 := by
  simp [domB, partB_refl]
theorem part_anti {a b : Int} (ha : 0 ≤ a) (hb : 0 ≤ b) (h1 : partB a b = true) (h2 : partB b a = true) : a = b := by
  simp [partB] at h1 h2
  rw [Nat.or_comm] at h2
  have := h1.symm.trans h2
  omega
theorem dom_anti {x y : PLab} (h1 : domB x y = true) (h2 : domB y x = true) : x = y := by
  obtain ⟨a1, a2, a3, a4, a5, a6, a7⟩ := domB_iff.1 h1
  obtain ⟨b1, b2, b3, b4, b5, b6, b7⟩ := domB_iff.1 h2
  have hm := part_anti a2.1 a3.1 a4 b4
  obtain ⟨xa, xm, xt, xo, xc⟩ := x
  obtain ⟨ya, ym, yt, yo, yc⟩ := y
  simp at *
  omega
end Go.Proofs.Ytjbgjljcgdligab
