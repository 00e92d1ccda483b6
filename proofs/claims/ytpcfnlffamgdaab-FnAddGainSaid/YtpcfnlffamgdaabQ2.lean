
/-
  Plain arithmetic on lists of numbers, rows, problems and boxes.
-/
import Derived.Test.YtpcfnlffamgdaabM
set_option linter.unusedSimpArgs false
set_option linter.unusedVariables false
namespace Go.Proofs.Ytpcfnlffamgdaab
open Go.RowKit

theorem all_step {α : Type} {p : α → Bool} {xs : List α} {k : Nat} {x : α} (hx : xs[k]? = some x) (h : (xs.take k).all p = true) (hp : p x = true) : (xs.take (k + 1)).all p = true := by
  rw [List.take_add_one, hx]; simp only [List.all_append, h, Bool.true_and]; simp [hp]
theorem all_no {α : Type} {p : α → Bool} {xs : List α} {k : Nat} {x : α} (hx : xs[k]? = some x) (hp : p x = false) : xs.all p = false := by
  rw [List.all_eq_false]
  exact ⟨x, List.mem_of_getElem? hx, by simp [hp]⟩
theorem all_end {α : Type} {p : α → Bool} {xs : List α} {k : Nat} (hk : xs.length ≤ k) (h : (xs.take k).all p = true) : xs.all p = true := by
  rwa [List.take_of_length_le hk] at h
theorem all_zero {α : Type} {p : α → Bool} {xs : List α} : (xs.take 0).all p = true := by simp

def inB (a lo hi : Int) : Bool := decide (lo ≤ a ∧ a ≤ hi)
theorem inB_iff {a lo hi : Int} : inB a lo hi = true ↔ lo ≤ a ∧ a ≤ hi := by simp [inB]
theorem inB_not {a lo hi : Int} : inB a lo hi = false ↔ ¬ (lo ≤ a ∧ a ≤ hi) := by simp only [inB, decide_eq_false_iff_not]
def vInts (xs : List Int) (lo hi : Int) : Bool := xs.all fun x => inB x lo hi
def vRow (r : PRow) (n : Int) : Bool := inB n 1 5 && (decide ((r.cs.length : Int) = n) && (vInts r.cs (-9) 9 && (inB r.s 1 3 && inB r.b (-99) 99)))

/-- A sum that is made step by step. -/
def fold (f : Nat → Int → Int) : Nat → Int
  | 0 => 0
  | k + 1 => f k (fold f k)
/-- The sum of products, step by step, as the machine adds. -/
def mac (xs ys : List Int) (k : Nat) (n : Int) : Int := wrap64 (n + wrap64 (xs.getD k 0 * ys.getD k 0))
def dotW (xs ys : List Int) : Int := fold (mac xs ys) xs.length
theorem getD_of {xs : List Int} {k : Nat} {x : Int} (h : xs[k]? = some x) : xs.getD k 0 = x := by simp [List.getD_eq_getElem?_getD, h]

def cmpW (n s b : Int) : Bool := if s = 1 then decide (n ≤ b) else if s = 2 then decide (b ≤ n) else decide (n = b)
def holdsW (r : PRow) (x : List Int) : Bool := cmpW (dotW r.cs x) r.s r.b

def vProb (p : PProb) : Bool :=
  inB p.costs.length 1 5 && (decide (p.uppers.length = p.costs.length) && (decide (p.rows.length ≤ 6) && ((vInts p.costs 0 99 && vInts p.uppers 0 9) && p.rows.all fun r => vRow r p.costs.length)))
/-- x is a point under the upper bounds us. -/
def isPt (us x : List Int) : Bool := decide (x.length = us.length) && (List.range x.length).all fun i => inB (x.getD i 0) 0 (us.getD i 0)
def feas (p : PProb) (x : List Int) : Bool := vProb p && (isPt p.uppers x && p.rows.all fun r => holdsW r x)
def costW (p : PProb) (x : List Int) : Int := if vProb p && isPt p.uppers x then dotW p.costs x else -1
def vBox (p : PProb) (b : PBox) : Bool := vProb p && (isPt p.uppers b.low && (isPt p.uppers b.high && (List.range b.low.length).all fun i => decide (b.low.getD i 0 ≤ b.high.getD i 0)))
end Go.Proofs.Ytpcfnlffamgdaab
