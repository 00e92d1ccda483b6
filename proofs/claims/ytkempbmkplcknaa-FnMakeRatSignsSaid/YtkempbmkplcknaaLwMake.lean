/-
  The walks of the laws FnMakeRat and FnMakeRatSigns.
-/
import Derived.Test.YtkempbmkplcknaaDrawRatB
namespace Go.Proofs.Ytkempbmkplcknaa
open Go.RowKit

theorem Q.mul_bd2 {x y M K : Int} (h1 : -M ≤ x) (h2 : x ≤ M) (h3 : -K ≤ y) (h4 : y ≤ K) : -(M * K) ≤ x * y ∧ x * y ≤ M * K := by
  have e : (x * y).natAbs ≤ (M * K).natAbs := by
    rw [Int.natAbs_mul, Int.natAbs_mul]
    exact Nat.mul_le_mul (by omega) (by omega)
  have hp : 0 ≤ M * K := Int.mul_nonneg (by omega) (by omega)
  omega

set_option maxHeartbeats 2000000 in
theorem FnMakeRat_walk (a : Option Addr) (len cap : Nat) (w : World) (h : By w.heap.size w a len cap) :
    Calls Try.prog 3 #[.slice a len cap] w fun e w' => e = .returned (.bool true) ∧ Below w.heap.size w w' := by
  have hl := h.1
  have hl2 := h.2.1
  unfold maxLen at hl2
  have H := Lib.hid h; clear h
  by_cases hbig : 1048576 < len
  · go_enter Try.func3, Try.ntmps3
    go_wp2_with fail
    go_ret
    exact ⟨rfl, Below.refl _ _⟩
  · go_enter Try.func3, Try.ntmps3
    go_wp2_with fail
    refine (DrawMakeRat_any w.heap.size _ _ _ _ H.out (Nat.le_refl _)).mono ?_
    rintro e w1 ⟨n, d, bn, bd, rfl, hb1⟩
    clear H
    have q1 := hb1.size
    by_cases hs : Q.mkB n d = true ∧ (-1000 ≤ n ∧ n ≤ 1000) ∧ -1000 ≤ d ∧ d ≤ 1000
    · obtain ⟨hk, ⟨n1, n2⟩, d1, d2⟩ := hs
      obtain ⟨t1, t2, t3⟩ := Q.mk_three hk n1 n2 d1 d2
      obtain ⟨ev, hv⟩ := Q.mk_val hk
      obtain ⟨v1, v2, v3, v4, _⟩ := Q.vr_iff.1 hv
      have p1 := Q.mul_bd2 v3 v4 d1 d2
      have p2 := Q.mul_bd2 n1 n2 (show -10000000 ≤ Q.mkD n d by omega) v2
      have ev' : (Q.mkN n d * d == n * Q.mkD n d) = true := by simp [ev]
      have EV := Lib.hid ev; clear ev
      go_wp2_with fail
      refine (impl_MakeRat _ _ _).mono ?_
      rintro e w2 ⟨rfl, hb2⟩
      go_wp2_with fail
      refine (spec_MakeRat _ _ _).mono ?_
      rintro e w3 ⟨rfl, hb3⟩
      obtain ⟨hc3, hf3⟩ := bcell hb3
      have q3 : w2.heap.size < w3.heap.size := by have := hb3.size; simp at this; omega
      go_wp2_with fail
      refine (impl_MakeRat _ _ _).mono ?_
      rintro e w4 ⟨rfl, hb4⟩
      rw [t1, t2, t3]
      obtain ⟨hc4, hf4⟩ := bcell hb4
      have q4 : w2.heap.size < w4.heap.size ∧ w3.heap.size < w4.heap.size := by have := hb4.size; simp at this; omega
      obtain ⟨q4a, q4b⟩ := q4
      go_wp2_with fail
      refine (impl_ValidRat _ _ _).mono ?_
      rintro e w5 ⟨rfl, hb5⟩
      obtain ⟨hc5, hf5⟩ := bcell hb5
      have q5 : w2.heap.size < w5.heap.size ∧ w3.heap.size < w5.heap.size ∧ w4.heap.size < w5.heap.size := by have := hb5.size; simp at this; omega
      obtain ⟨q5a, q5b, q5c⟩ := q5
      go_wp2_with fail
      go_ret
      have h2 := belT hb1 hb2
      exact ⟨rfl, belTA (belTA (belTA h2 hb3) hb4) hb5⟩
    · go_wp2_with fail
      refine (impl_MakeRat _ _ _).mono ?_
      rintro e w2 ⟨rfl, hb2⟩
      go_wp2_with fail
      refine (spec_MakeRat _ _ _).mono ?_
      rintro e w3 ⟨rfl, hb3⟩
      obtain ⟨hc3, hf3⟩ := bcell hb3
      have q3 : w2.heap.size < w3.heap.size := by have := hb3.size; simp at this; omega
      have h2 := belT hb1 hb2
      have h3 := belTA h2 hb3
      go_wp2_with fail
      all_goals first
        | (go_ret; exact ⟨rfl, belAA h3⟩)
        | exact absurd ⟨by assumption, ⟨by assumption, by assumption⟩, by assumption, by assumption⟩ hs
        | exact absurd ⟨by assumption, ⟨by omega, by omega⟩, by omega, by omega⟩ hs

set_option maxHeartbeats 2000000 in
theorem FnMakeRatSigns_walk (a : Option Addr) (len cap : Nat) (w : World) (h : By w.heap.size w a len cap) :
    Calls Try.prog 4 #[.slice a len cap] w fun e w' => e = .returned (.bool true) ∧ Below w.heap.size w w' := by
  have hl := h.1
  have hl2 := h.2.1
  unfold maxLen at hl2
  have H := Lib.hid h; clear h
  by_cases hbig : 1048576 < len
  · go_enter Try.func4, Try.ntmps4
    go_wp2_with fail
    go_ret
    exact ⟨rfl, Below.refl _ _⟩
  · go_enter Try.func4, Try.ntmps4
    go_wp2_with fail
    refine (DrawMakeRat_any w.heap.size _ _ _ _ H.out (Nat.le_refl _)).mono ?_
    rintro e w1 ⟨n, d, ⟨bn1, bn2⟩, ⟨bd1, bd2⟩, rfl, hb1⟩
    clear H
    obtain ⟨t1, t2, t3⟩ := Q.mk_neg n d
    have hv : Q.mkB n d = true → 0 < Q.mkD n d := fun hk => by
      obtain ⟨_, hv⟩ := Q.mk_val hk
      obtain ⟨v1, -⟩ := Q.vr_iff.1 hv
      omega
    have HV := Lib.hid hv; clear hv
    go_wp2_with fail
    refine (impl_MakeRat _ _ _).mono ?_
    rintro e w2 ⟨rfl, hb2⟩
    go_wp2_with fail
    refine (spec_MakeRat _ _ _).mono ?_
    rintro e w3 ⟨rfl, hb3⟩
    obtain ⟨hc3, hf3⟩ := bcell hb3
    have q3 : w2.heap.size < w3.heap.size := by have := hb3.size; simp at this; omega
    have h3 := belTA (belT hb1 hb2) hb3
    go_wp2_with fail
    refine (impl_MakeRat _ _ _).mono ?_
    rintro e w4 ⟨rfl, hb4⟩
    rw [t1, t2, t3]
    obtain ⟨hc4, hf4⟩ := bcell hb4
    obtain ⟨q4a, q4b⟩ : w2.heap.size < w4.heap.size ∧ w3.heap.size < w4.heap.size := by have := hb4.size; simp at this; omega
    have h4 := belTA h3 hb4
    cases hk : Q.mkB n d
    · go_wp2_with fail
      go_ret
      exact ⟨rfl, belAA h4⟩
    · have hp := HV.out hk
      go_wp2_with fail
      go_ret
      exact ⟨rfl, belAA h4⟩
end Go.Proofs.Ytkempbmkplcknaa
