
/-
  Capacities of cuts: sets of nodes as bits; the program's function and the model's.
-/
import Derived.Test.YtjbgjljcgdligaaIb
import Derived.Test.YtjbgjljcgdligaaWb
import Derived.Test.YtjbgjljcgdligaaWc
import Derived.Test.YtjbgjljcgdligaaLa
set_option linter.unusedSimpArgs false
set_option linter.unusedVariables false
namespace Go.Proofs.Ytjbgjljcgdligaa
open Go.RowKit

/-- The numbers of a list as bits. -/
def stN (xs : List Int) : Nat := xs.foldl (fun S x => S ||| 2 ^ x.toNat) 0
theorem stN_step {xs : List Int} {k : Nat} {x : Int} (h : xs[k]? = some x) : stN (xs.take (k + 1)) = stN (xs.take k) ||| 2 ^ x.toNat := by
  unfold stN; rw [List.take_add_one, h, List.foldl_append]; rfl
theorem bits_foldl : ∀ (xs : List Int) (S j : Nat), (∀ x ∈ xs, 0 ≤ x) → (xs.foldl (fun S x => S ||| 2 ^ x.toNat) S).testBit j = (S.testBit j || decide ((j : Int) ∈ xs))
  | [], S, j, _ => by simp
  | x :: t, S, j, h => by
    have hx := h x (List.mem_cons_self ..)
    rw [List.foldl_cons, bits_foldl t _ j (fun y hy => h y (List.mem_cons_of_mem _ hy)), Nat.testBit_or, Nat.testBit_two_pow, Bool.or_assoc]
    congr 1
    rw [Bool.eq_iff_iff]
    simp only [Bool.or_eq_true, decide_eq_true_eq, List.mem_cons]
    constructor
    · rintro (h1 | h1)
      · exact .inl (by omega)
      · exact .inr h1
    · rintro (h1 | h1)
      · exact .inl (by omega)
      · exact .inr h1
theorem stN_bit {xs : List Int} {x : Int} (h : ∀ y ∈ xs, 0 ≤ y) (hx : 0 ≤ x) : (stN xs).testBit x.toNat = decide (x ∈ xs) := by
  unfold stN
  rw [bits_foldl xs 0 _ h, Nat.zero_testBit, Bool.false_or, Int.toNat_of_nonneg hx]
theorem foldl_lt : ∀ (xs : List Int) (S : Nat), S < 256 → (∀ x ∈ xs, 0 ≤ x ∧ x ≤ 7) → xs.foldl (fun S x => S ||| 2 ^ x.toNat) S < 256
  | [], S, hS, _ => hS
  | x :: t, S, hS, h => by
    rw [List.foldl_cons]
    refine foldl_lt t _ (Nat.or_lt_two_pow (n := 8) hS ?_) fun y hy => h y (List.mem_cons_of_mem _ hy)
    have := h x (List.mem_cons_self ..)
    exact Nat.pow_lt_pow_right (by omega) (by omega)
theorem stN_lt {xs : List Int} (h : ∀ x ∈ xs, 0 ≤ x ∧ x ≤ 7) : stN xs < 256 := foldl_lt xs 0 (by omega) h
theorem and_pow (S j : Nat) : S &&& 2 ^ j = if S.testBit j = true then 2 ^ j else 0 := by
  refine Nat.eq_of_testBit_eq fun i => ?_
  rw [Nat.testBit_and, Nat.testBit_two_pow]
  by_cases e : j = i
  · subst e
    cases h : S.testBit j
    · simp
    · simp [Nat.testBit_two_pow]
  · split
    · simp [Nat.testBit_two_pow, e]
    · simp [e]
theorem and_bit {S j : Nat} : (((S &&& 2 ^ j : Nat) : Int) != 0) = S.testBit j := by
  rw [and_pow]
  cases h : S.testBit j
  · simp
  · have : 0 < 2 ^ j := Nat.pow_pos (by omega)
    have h2 : ¬ ((2 ^ j : Nat) : Int) = 0 := by omega
    rw [if_pos rfl, bne, beq_eq_false_iff_ne.2 h2]
    rfl
set_option maxHeartbeats 2000000 in
theorem impl_with7 (S : Nat) (x : Int) (w : World) (hS : S < 256) (h0 : 0 ≤ x) (h4 : x ≤ 7) : Calls Try.prog 119 #[.int .u64 S, .int .i64 x] w fun e w' => e = .returned (.int .u64 ((S ||| 2 ^ x.toNat : Nat) : Int)) ∧ w = w' := by
  have hb : ∀ y : Nat, y < 256 → bits .or .u64 (S : Int) (y : Int) = ((S ||| y : Nat) : Int) := fun y hy => by
    have := u64_or (S : Int) (y : Int) (by omega) (by omega) (by omega) (by omega)
    simpa using this
  have b1 := hb 1 (by omega)
  have b2 := hb 2 (by omega)
  have b4 := hb 4 (by omega)
  have b8 := hb 8 (by omega)
  have b16 := hb 16 (by omega)
  have b32 := hb 32 (by omega)
  have b64 := hb 64 (by omega)
  have b128 := hb 128 (by omega)
  simp only [Int.cast_ofNat_Int] at b1 b2 b4 b8 b16 b32 b64 b128
  clear hb
  rcases (by omega : x = 0 ∨ x = 1 ∨ x = 2 ∨ x = 3 ∨ x = 4 ∨ x = 5 ∨ x = 6 ∨ x = 7) with rfl | rfl | rfl | rfl | rfl | rfl | rfl | rfl
  all_goals
    go_enter Try.func119, Try.ntmps119
    go_wp2
    go_ret
    exact ⟨by first | rfl | (simp; done), rfl⟩
set_option maxHeartbeats 2000000 in
theorem impl_has7 (S : Nat) (x : Int) (w : World) (hS : S < 256) (h0 : 0 ≤ x) (h4 : x ≤ 7) : Calls Try.prog 97 #[.int .u64 S, .int .i64 x] w fun e w' => e = .returned (.bool (S.testBit x.toNat)) ∧ w = w' := by
  have hb : ∀ y : Nat, y < 256 → bits .and .u64 (S : Int) (y : Int) = ((S &&& y : Nat) : Int) := fun y hy => by
    have := u64_and (S : Int) (y : Int) (by omega) (by omega) (by omega) (by omega)
    simpa using this
  have c0 : (bits .and .u64 (S : Int) 1 != 0) = S.testBit 0 := by have := hb 1 (by omega); simp only [Int.cast_ofNat_Int] at this; rw [this]; exact and_bit (j := 0)
  have c1 : (bits .and .u64 (S : Int) 2 != 0) = S.testBit 1 := by have := hb 2 (by omega); simp only [Int.cast_ofNat_Int] at this; rw [this]; exact and_bit (j := 1)
  have c2 : (bits .and .u64 (S : Int) 4 != 0) = S.testBit 2 := by have := hb 4 (by omega); simp only [Int.cast_ofNat_Int] at this; rw [this]; exact and_bit (j := 2)
  have c3 : (bits .and .u64 (S : Int) 8 != 0) = S.testBit 3 := by have := hb 8 (by omega); simp only [Int.cast_ofNat_Int] at this; rw [this]; exact and_bit (j := 3)
  have c4 : (bits .and .u64 (S : Int) 16 != 0) = S.testBit 4 := by have := hb 16 (by omega); simp only [Int.cast_ofNat_Int] at this; rw [this]; exact and_bit (j := 4)
  have c5 : (bits .and .u64 (S : Int) 32 != 0) = S.testBit 5 := by have := hb 32 (by omega); simp only [Int.cast_ofNat_Int] at this; rw [this]; exact and_bit (j := 5)
  have c6 : (bits .and .u64 (S : Int) 64 != 0) = S.testBit 6 := by have := hb 64 (by omega); simp only [Int.cast_ofNat_Int] at this; rw [this]; exact and_bit (j := 6)
  have c7 : (bits .and .u64 (S : Int) 128 != 0) = S.testBit 7 := by have := hb 128 (by omega); simp only [Int.cast_ofNat_Int] at this; rw [this]; exact and_bit (j := 7)
  clear hb
  rcases (by omega : x = 0 ∨ x = 1 ∨ x = 2 ∨ x = 3 ∨ x = 4 ∨ x = 5 ∨ x = 6 ∨ x = 7) with rfl | rfl | rfl | rfl | rfl | rfl | rfl | rfl
  all_goals
    go_enter Try.func97, Try.ntmps97
    go_wp2
    go_ret
    exact ⟨by first | rfl | exact ret_b c0 | exact ret_b c1 | exact ret_b c2 | exact ret_b c3 | exact ret_b c4 | exact ret_b c5 | exact ret_b c6 | exact ret_b c7 | (simp; done), rfl⟩
set_option maxHeartbeats 2000000 in
theorem impl_setOf7 (A : Option Addr) (n c : Nat) (xs : List Int) (w : World) (hI : Ints w A n xs) (hn : n ≤ maxLen) (hx : ∀ x ∈ xs, 0 ≤ x ∧ x ≤ 7) :
    Calls Try.prog 96 #[.slice A n c] w fun e w' => e = .returned (.int .u64 (stN xs : Nat)) ∧ w = w' := by
  unfold maxLen at hn
  have HI := Lib.hid hI; clear hI
  have HX := Lib.hid hx; clear hx
  go_enter Try.func96, Try.ntmps96
  go_wp2
  go_loop [3, 5, 8] (fun s3 s5 s8 => ∃ (k S : Nat) (u5 : Value), k ≤ n ∧ s3 = .int .u64 (S : Nat) ∧ u5 = s5 ∧ s8 = .int .i64 k ∧ Hid (S = stN (xs.take k))) (fun _ _ s8 => n - (intOf s8).toNat)
  case atStart => exact ⟨0, 0, _, by omega, rfl, rfl, rfl, Lib.hid (by simp [stN])⟩
  case round =>
    obtain ⟨k, S, u5, hk, rfl, rfl, rfl, hS⟩ := hrel
    by_cases hlt : k < n
    · obtain ⟨b, off, x, rfl, hb, hxk, hlo, hhi, hc⟩ := HI.out.at_ hlt
      obtain ⟨x0, x4⟩ := HX.out x (List.mem_of_getElem? hxk)
      have NX := Lib.hid (stN_step hxk); clear hxk
      have S32 : S < 256 := by rw [hS.out]; exact stN_lt (fun y hy => HX.out y (List.mem_of_mem_take hy))
      go_wp2_with (go_at_call 119; ((with_reducible refine (impl_with7 _ _ _ S32 x0 x4).mono ?_); rintro e w' ⟨rfl, rfl⟩))
      go_round
      case rel => exact ⟨k + 1, _, _, by omega, rfl, rfl, by go_num, Lib.hid (by rw [NX.out, hS.out])⟩
      case measure => simp [intOf]; omega
    · have hke : xs.take k = xs := List.take_of_length_le (by rw [HI.out.len]; omega)
      have HK := Lib.hid hke; clear hke
      go_wp2
      go_ret
      exact ⟨by rw [hS.out, HK.out]; rfl, rfl⟩

/-! ### Capacities -/
def cutS (ts : List (Int × Int × Int)) (xs : List Int) : Nat → Int
  | 0 => 0
  | k + 1 => match ts[k]? with
    | some (x, y, z) => if x ∈ xs ∧ ¬ y ∈ xs then cutS ts xs k + z else cutS ts xs k
    | none => cutS ts xs k
theorem cutS_yes {ts : List (Int × Int × Int)} {xs : List Int} {k : Nat} {x y z : Int} (h : ts[k]? = some (x, y, z)) (h1 : decide (x ∈ xs) = true) (h2 : decide (y ∈ xs) = false) : cutS ts xs (k + 1) = cutS ts xs k + z := by
  rw [cutS, h]; simp only; rw [if_pos ⟨by simpa using h1, by simpa using h2⟩]
theorem cutS_no1 {ts : List (Int × Int × Int)} {xs : List Int} {k : Nat} {x y z : Int} (h : ts[k]? = some (x, y, z)) (h1 : decide (x ∈ xs) = false) : cutS ts xs (k + 1) = cutS ts xs k := by
  rw [cutS, h]; simp only; rw [if_neg (fun hc => by simp [hc.1] at h1)]
theorem cutS_no2 {ts : List (Int × Int × Int)} {xs : List Int} {k : Nat} {x y z : Int} (h : ts[k]? = some (x, y, z)) (h1 : decide (y ∈ xs) = true) : cutS ts xs (k + 1) = cutS ts xs k := by
  rw [cutS, h]; simp only; rw [if_neg (fun hc => hc.2 (by simpa using h1))]
theorem cutS_bd {n s t : Int} {ts : List (Int × Int × Int)} (h : netB n ts s t = true) (xs : List Int) : ∀ k, k ≤ ts.length → 0 ≤ cutS ts xs k ∧ cutS ts xs k ≤ 99 * k
  | 0, _ => by simp [cutS]
  | k + 1, hk => by
    have ih := cutS_bd h xs k (by omega)
    obtain ⟨⟨x, y, z⟩, hp⟩ : ∃ p, ts[k]? = some p := ⟨_, List.getElem?_eq_getElem (by omega)⟩
    have := (netB_facts h).2.2.2 k x y z hp
    rw [cutS, hp]
    simp only
    split <;> omega
def cutV (n : Int) (ts : List (Int × Int × Int)) (s t : Int) (xs : List Int) : Int := if netB n ts s t && (ascB xs n && (decide (s ∈ xs) && !decide (t ∈ xs))) then cutS ts xs ts.length else -1
theorem cutV_1 {n s t : Int} {ts : List (Int × Int × Int)} {xs : List Int} (h : netB n ts s t = false) : cutV n ts s t xs = -1 := by simp [cutV, h]
theorem cutV_2 {n s t : Int} {ts : List (Int × Int × Int)} {xs : List Int} (h : ascB xs n = false) : cutV n ts s t xs = -1 := by simp [cutV, h]
theorem cutV_3 {n s t : Int} {ts : List (Int × Int × Int)} {xs : List Int} (h : decide (s ∈ xs) = false) : cutV n ts s t xs = -1 := by unfold cutV; rw [h]; simp
theorem cutV_4 {n s t : Int} {ts : List (Int × Int × Int)} {xs : List Int} (h : decide (t ∈ xs) = true) : cutV n ts s t xs = -1 := by unfold cutV; rw [h]; simp
theorem cutV_5 {n s t : Int} {ts : List (Int × Int × Int)} {xs : List Int} (h1 : netB n ts s t = true) (h2 : ascB xs n = true) (h3 : decide (s ∈ xs) = true) (h4 : decide (t ∈ xs) = false) : cutV n ts s t xs = cutS ts xs ts.length := by unfold cutV; rw [h1, h2, h3, h4]; rfl
end Go.Proofs.Ytjbgjljcgdligaa
