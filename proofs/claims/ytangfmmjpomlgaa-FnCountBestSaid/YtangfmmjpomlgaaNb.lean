
/-
  The points of a box from 0 on, in lexicographic order, plainly.
-/
import Derived.Test.YtangfmmjpomlgaaPd
set_option linter.unusedSimpArgs false
set_option linter.unusedVariables false
namespace Go.Proofs.Ytangfmmjpomlgaa
open Go.RowKit

/-- The next point, and whether there is one. -/
def adv : List Int → List Int → List Int × Bool
  | u :: us, x :: xs =>
    match adv us xs with
    | (ys, true) => (x :: ys, true)
    | (ys, false) => if x < u then ((x + 1) :: ys, true) else (0 :: ys, false)
  | _, xs => (xs, false)

/-- From the point x on, the points T follow one another, and there are no more. -/
def runs (us : List Int) : List Int → List (List Int) → Prop
  | x, [] => (adv us x).2 = false
  | x, y :: T => adv us x = (y, true) ∧ runs us y T

def blocks (L : List (List Int)) : Nat → Int → List (List Int)
  | 0, v => L.map (v :: ·)
  | k + 1, v => L.map (v :: ·) ++ blocks L k (v + 1)
/-- All points below the upper bounds us, in order. -/
def pts : List Int → List (List Int)
  | [] => [[]]
  | u :: us => blocks (pts us) u.toNat 0

theorem blocks_len (L : List (List Int)) : ∀ k v, (blocks L k v).length = (k + 1) * L.length := by
  intro k
  induction k with
  | zero => intro v; simp [blocks]
  | succ k ih => intro v; simp only [blocks, List.length_append, List.length_map, ih]; rw [Nat.add_mul (k + 1)]; omega
theorem mem_blocks {L : List (List Int)} {x : List Int} : ∀ {k v}, x ∈ blocks L k v ↔ ∃ a y, x = a :: y ∧ y ∈ L ∧ v ≤ a ∧ a ≤ v + k := by
  intro k
  induction k with
  | zero =>
    intro v
    simp only [blocks, List.mem_map]
    constructor
    · rintro ⟨y, hy, rfl⟩; exact ⟨v, y, rfl, hy, by omega, by omega⟩
    · rintro ⟨a, y, rfl, hy, h1, h2⟩
      obtain rfl : a = v := by omega
      exact ⟨y, hy, rfl⟩
  | succ k ih =>
    intro v
    simp only [blocks, List.mem_append, List.mem_map, ih]
    constructor
    · rintro (⟨y, hy, rfl⟩ | ⟨a, y, rfl, hy, h1, h2⟩)
      · exact ⟨v, y, rfl, hy, by omega, by omega⟩
      · exact ⟨a, y, rfl, hy, by omega, by omega⟩
    · rintro ⟨a, y, rfl, hy, h1, h2⟩
      by_cases e : a = v
      · subst e; exact .inl ⟨y, hy, rfl⟩
      · exact .inr ⟨a, y, rfl, hy, by omega, by omega⟩

/-- The values of x are from 0 up to us. -/
def under : List Int → List Int → Prop
  | [], [] => True
  | u :: us, x :: xs => (0 ≤ x ∧ x ≤ u) ∧ under us xs
  | _, _ => False
theorem mem_pts {us : List Int} (hu : ∀ u ∈ us, 0 ≤ u) : ∀ {x}, x ∈ pts us ↔ under us x := by
  induction us with
  | nil => intro x; cases x <;> simp [pts, under]
  | cons u us ih =>
    intro x
    have h0 := hu u (by simp)
    simp only [pts, mem_blocks]
    have ih' := fun {x} => @ih (fun v hv => hu v (by simp [hv])) x
    constructor
    · rintro ⟨a, y, rfl, hy, h1, h2⟩
      exact ⟨⟨h1, by omega⟩, ih'.1 hy⟩
    · intro h
      cases x with
      | nil => exact h.elim
      | cons a y => exact ⟨a, y, rfl, ih'.2 h.2, h.1.1, by have := h.1.2; omega⟩
theorem under_len {us : List Int} : ∀ {x}, under us x → x.length = us.length := by
  induction us with
  | nil => intro x h; cases x <;> simp_all [under]
  | cons u us ih =>
    intro x h
    cases x with
    | nil => exact h.elim
    | cons a y => simp [ih h.2]
theorem under_at {us : List Int} : ∀ {x}, under us x → ∀ i, i < us.length → 0 ≤ x.getD i 0 ∧ x.getD i 0 ≤ us.getD i 0 := by
  induction us with
  | nil => intro x h i hi; simp at hi
  | cons u us ih =>
    intro x h i hi
    cases x with
    | nil => exact h.elim
    | cons a y =>
      cases i with
      | zero => exact h.1
      | succ i => exact ih h.2 i (by simpa using hi)
theorem under_of {us : List Int} : ∀ {x : List Int}, x.length = us.length → (∀ i, i < us.length → 0 ≤ x.getD i 0 ∧ x.getD i 0 ≤ us.getD i 0) → under us x := by
  induction us with
  | nil => intro x h _; cases x <;> simp_all [under]
  | cons u us ih =>
    intro x h hi
    cases x with
    | nil => simp at h
    | cons a y => exact ⟨hi 0 (by simp), ih (by simpa using h) fun i hlt => hi (i + 1) (by simp; omega)⟩
theorem isPt_under {us x : List Int} : isPt us x = true ↔ under us x := by
  simp only [isPt, Bool.and_eq_true, decide_eq_true_eq, List.all_eq_true, List.mem_range, inB_iff]
  constructor
  · rintro ⟨h1, h2⟩; exact under_of h1 fun i hi => h2 i (by omega)
  · intro h; exact ⟨under_len h, fun i hi => under_at h i (by have := under_len h; omega)⟩

/-- Where no point follows, the next one is 0. -/
theorem adv_zero {us : List Int} : ∀ {x}, under us x → (adv us x).2 = false → (adv us x).1 = List.replicate us.length 0 := by
  induction us with
  | nil => intro x h _; cases x <;> simp_all [under, adv]
  | cons u us ih =>
    intro x h
    cases x with
    | nil => exact h.elim
    | cons a y =>
      intro hf
      have ih' := @ih y h.2
      unfold adv at hf ⊢
      rcases hq : adv us y with ⟨ys, _ | _⟩
      · rw [hq] at ih'
        have := ih' rfl
        simp only at this
        subst this
        simp only [hq] at hf ⊢
        by_cases e : a < u
        · simp [e] at hf
        · simp [e, List.replicate_succ]
      · simp [hq] at hf
theorem adv_under {us : List Int} : ∀ {x}, under us x → under us (adv us x).1 := by
  induction us with
  | nil => intro x h; cases x <;> simp_all [under, adv]
  | cons u us ih =>
    intro x h
    cases x with
    | nil => exact h.elim
    | cons a y =>
      have ih' := @ih y h.2
      have h1 := h.1
      unfold adv
      rcases hq : adv us y with ⟨ys, _ | _⟩
      · rw [hq] at ih'
        simp only [hq]
        by_cases e : a < u
        · simp only [e, if_true]; exact ⟨⟨by omega, by omega⟩, ih'⟩
        · simp only [e, if_false]; exact ⟨⟨by omega, by omega⟩, ih'⟩
      · rw [hq] at ih'
        simp only [hq]
        exact ⟨h1, ih'⟩

theorem runs_last {u : Int} {us z : List Int} {v : Int} : ∀ {T x}, runs us x T → under us x → (∀ y, under us y → (adv us y).2 = false → (adv us y).1 = z) → ¬ v < u → runs (u :: us) (v :: x) (T.map (v :: ·)) := by
  intro T
  induction T with
  | nil =>
    intro x h hx hz hv
    rcases hq : adv us x with ⟨ys, _ | _⟩
    · show (adv (u :: us) (v :: x)).2 = false
      unfold adv; simp [hq, hv]
    · simp [runs, hq] at h
  | cons y T ih =>
    intro x h hx hz hv
    refine ⟨?_, ih h.2 (by have := adv_under hx; rwa [h.1] at this) hz hv⟩
    unfold adv; simp [h.1]
theorem runs_more {u : Int} {us z : List Int} {v : Int} {R : List (List Int)} : ∀ {T x}, runs us x T → under us x → (∀ y, under us y → (adv us y).2 = false → (adv us y).1 = z) → v < u → runs (u :: us) ((v + 1) :: z) R → runs (u :: us) (v :: x) (T.map (v :: ·) ++ ((v + 1) :: z) :: R) := by
  intro T
  induction T with
  | nil =>
    intro x h hx hz hv hR
    refine ⟨?_, hR⟩
    rcases hq : adv us x with ⟨ys, _ | _⟩
    · have := hz x hx (by rw [hq])
      rw [hq] at this
      simp only at this
      subst this
      unfold adv; simp [hq, hv]
    · simp [runs, hq] at h
  | cons y T ih =>
    intro x h hx hz hv hR
    refine ⟨?_, ih h.2 (by have := adv_under hx; rwa [h.1] at this) hz hv hR⟩
    unfold adv; simp [h.1]
theorem under_zero {us : List Int} (hu : ∀ u ∈ us, 0 ≤ u) : under us (List.replicate us.length 0) := by
  induction us with
  | nil => exact trivial
  | cons u us ih => exact ⟨⟨Int.le_refl _, hu u (by simp)⟩, ih fun v hv => hu v (by simp [hv])⟩
theorem pts_runs {us : List Int} (hu : ∀ u ∈ us, 0 ≤ u) : ∃ T, pts us = List.replicate us.length 0 :: T ∧ runs us (List.replicate us.length 0) T := by
  induction us with
  | nil => exact ⟨[], rfl, rfl⟩
  | cons u us ih =>
    have hu' : ∀ v ∈ us, 0 ≤ v := fun v hv => hu v (by simp [hv])
    have h0 := hu u (by simp)
    obtain ⟨T, e, hr⟩ := ih hu'
    have hz := under_zero hu'
    have key : ∀ (k : Nat) (v : Int), v + (k : Int) = u → ∃ S, blocks (pts us) k v = (v :: List.replicate us.length 0) :: S ∧ runs (u :: us) (v :: List.replicate us.length 0) S := by
      intro k
      induction k with
      | zero =>
        intro v hv
        refine ⟨T.map (v :: ·), by simp [blocks, e], runs_last hr hz (fun y hy => adv_zero hy) (by omega)⟩
      | succ k ihk =>
        intro v hv
        obtain ⟨S, e1, h1⟩ := ihk (v + 1) (by omega)
        refine ⟨T.map (v :: ·) ++ ((v + 1) :: List.replicate us.length 0) :: S, by rw [blocks, e1, e]; simp, runs_more hr hz (fun y hy => adv_zero hy) (by omega) h1⟩
    obtain ⟨S, e1, h1⟩ := key u.toNat 0 (by omega)
    exact ⟨S, by simpa [pts, List.replicate_succ] using e1, by simpa [List.replicate_succ] using h1⟩
theorem runs_split {us : List Int} : ∀ {pre : List (List Int)} {x0 x : List Int} {T rest}, runs us x0 T → x0 :: T = pre ++ x :: rest → runs us x rest := by
  intro pre
  induction pre with
  | nil =>
    intro x0 x T rest h e
    simp only [List.nil_append, List.cons.injEq] at e
    rw [← e.1, ← e.2]; exact h
  | cons a pre ih =>
    intro x0 x T rest h e
    simp only [List.cons_append, List.cons.injEq] at e
    cases T with
    | nil => have := e.2; simp at this
    | cons y T => exact ih h.2 e.2
theorem pts_split {us : List Int} (hu : ∀ u ∈ us, 0 ≤ u) {pre rest : List (List Int)} {x : List Int} (h : pts us = pre ++ x :: rest) : runs us x rest := by
  obtain ⟨T, e, hr⟩ := pts_runs hu
  exact runs_split hr (by rw [← e, h])
theorem pts_first {us : List Int} (hu : ∀ u ∈ us, 0 ≤ u) : ∃ T, pts us = List.replicate us.length 0 :: T := by
  obtain ⟨T, e, _⟩ := pts_runs hu
  exact ⟨T, e⟩

/-- The machine's way: from the back. -/
def back (us : List Int) : Nat → List Int → List Int × Bool
  | 0, x => (x, false)
  | k + 1, x => if x.getD k 0 < us.getD k 0 then (x.set k (x.getD k 0 + 1), true) else back us k (x.set k 0)
theorem adv_cons (u x : Int) (us xs : List Int) : adv (u :: us) (x :: xs) = if (adv us xs).2 then (x :: (adv us xs).1, true) else if x < u then ((x + 1) :: (adv us xs).1, true) else (0 :: (adv us xs).1, false) := by
  rw [adv]
  rcases adv us xs with ⟨ys, _ | _⟩ <;> rfl
/-- What is behind k is done: it was the last, and is 0 now. -/
theorem back_cons {u x : Int} {us xs : List Int} : ∀ {k}, k ≤ xs.length → back (u :: us) (k + 1) (x :: xs) = if (back us k xs).2 then (x :: (back us k xs).1, true) else if x < u then ((x + 1) :: (back us k xs).1, true) else (0 :: (back us k xs).1, false) := by
  intro k
  induction k generalizing xs with
  | zero =>
    intro _
    simp only [back, List.getD_cons_zero, List.set_cons_zero]
    by_cases h : x < u <;> simp [h]
  | succ k ih =>
    intro hk
    rw [back]
    simp only [List.getD_cons_succ, List.set_cons_succ]
    by_cases h : xs.getD k 0 < us.getD k 0
    · rw [if_pos h, back, if_pos h]; simp
    · have e : back us (k + 1) xs = back us k (xs.set k 0) := by simp only [back, h, if_false]
      rw [if_neg h, ih (xs := xs.set k 0) (by simp; omega), e]
theorem back_adv {us : List Int} : ∀ {x : List Int}, x.length = us.length → back us us.length x = adv us x := by
  induction us with
  | nil => intro x h; cases x <;> simp_all [back, adv]
  | cons u us ih =>
    intro x h
    cases x with
    | nil => simp at h
    | cons a y =>
      have hl : y.length = us.length := by simpa using h
      rw [List.length_cons, back_cons (by omega), ih hl, adv_cons]
theorem back_yes {us x : List Int} {k : Nat} (h : x.getD k 0 < us.getD k 0) : back us (k + 1) x = (x.set k (x.getD k 0 + 1), true) := by simp only [back, h, if_true]
theorem back_no {us x : List Int} {k : Nat} (h : ¬ x.getD k 0 < us.getD k 0) : back us (k + 1) x = back us k (x.set k 0) := by simp only [back, h, if_false]
theorem runs_yes {us x y : List Int} {T : List (List Int)} (h : runs us x (y :: T)) : adv us x = (y, true) := h.1
theorem runs_no {us x : List Int} (h : runs us x []) : (adv us x).2 = false := h

/-- How many of the points have the property. -/
def cnt (f : List Int → Bool) (L : List (List Int)) : Nat := (L.filter f).length
theorem cnt_yes {f : List Int → Bool} {L : List (List Int)} {x : List Int} (h : f x = true) : cnt f (L ++ [x]) = cnt f L + 1 := by simp [cnt, List.filter_append, h]
theorem cnt_no {f : List Int → Bool} {L : List (List Int)} {x : List Int} (h : f x = false) : cnt f (L ++ [x]) = cnt f L := by simp [cnt, List.filter_append, h]
theorem cnt_le {f : List Int → Bool} {L : List (List Int)} : cnt f L ≤ L.length := List.length_filter_le _ _
/-- At most 10 values each, at most 5 variables. -/
theorem pts_few {us : List Int} (hu : ∀ u ∈ us, 0 ≤ u ∧ u ≤ 9) : (pts us).length ≤ 10 ^ us.length := by
  induction us with
  | nil => simp [pts]
  | cons u us ih =>
    have h1 := ih fun v hv => hu v (by simp [hv])
    have h2 := hu u (by simp)
    simp only [pts, blocks_len, List.length_cons, Nat.pow_succ]
    rw [Nat.mul_comm (10 ^ _)]
    exact Nat.mul_le_mul (by omega) h1
theorem pts_small {us : List Int} (hu : ∀ u ∈ us, 0 ≤ u ∧ u ≤ 9) (hl : us.length ≤ 5) : (pts us).length ≤ 100000 := by
  have := pts_few hu
  have h2 : 10 ^ us.length ≤ 10 ^ 5 := Nat.pow_le_pow_right (by omega) hl
  omega

/-! ### Each point comes once -/
theorem blocks_nodup {L : List (List Int)} (h : L.Nodup) : ∀ k v, (blocks L k v).Nodup := by
  have hm : ∀ v : Int, (L.map (v :: ·)).Nodup := fun v => by
    unfold List.Nodup at h ⊢
    rw [List.pairwise_map]
    exact h.imp fun hne e => hne (List.cons.inj e).2
  intro k
  induction k with
  | zero => intro v; exact hm v
  | succ k ih =>
    intro v
    have h2 := ih (v + 1)
    unfold List.Nodup at h2 ⊢
    rw [blocks, List.pairwise_append]
    refine ⟨hm v, h2, fun a ha b hb => ?_⟩
    obtain ⟨y, hy, rfl⟩ := List.mem_map.1 ha
    obtain ⟨c, z, rfl, _, h3, _⟩ := mem_blocks.1 hb
    intro e
    have := (List.cons.inj e).1
    omega
theorem pts_nodup : ∀ us : List Int, (pts us).Nodup
  | [] => by simp [pts]
  | u :: us => blocks_nodup (pts_nodup us) _ _
/-- How many points are left from x on. -/
def restN (us x : List Int) : Nat := ((pts us).dropWhile fun y => decide (y ≠ x)).length
theorem drop_to {x : List Int} : ∀ {pre rest : List (List Int)}, x ∉ pre → (pre ++ x :: rest).dropWhile (fun y => decide (y ≠ x)) = x :: rest := by
  intro pre
  induction pre with
  | nil => intro rest _; simp
  | cons a pre ih =>
    intro rest h
    have h1 : a ≠ x := fun e => h (by simp [e])
    simp only [List.cons_append, List.dropWhile_cons, h1, ne_eq, not_false_eq_true, decide_true, if_true]
    exact ih fun hm => h (by simp [hm])
theorem restN_at {us x : List Int} {pre rest : List (List Int)} (h : pts us = pre ++ x :: rest) : restN us x = rest.length + 1 := by
  have hn := pts_nodup us
  rw [h] at hn
  unfold List.Nodup at hn
  rw [List.pairwise_append] at hn
  unfold restN
  rw [h, drop_to fun hm => hn.2.2 x hm x (by simp) rfl]
  simp
end Go.Proofs.Ytangfmmjpomlgaa
