
/-
  Plain arithmetic of quotients in lowest terms: no program is named here. What the functions of rational numbers compute, and what the promises P1 to P11 ask of it.
-/
import Derived.Below
set_option linter.unusedSimpArgs false
set_option linter.unusedVariables false
namespace Go.Proofs.Ytpcfnlffamgdaab.Rat1.Q
def inR (a lo hi : Int) : Bool := decide (lo ≤ a ∧ a ≤ hi)
def gc (a b : Int) : Int := (Int.gcd a b : Nat)
def vr (n d : Int) : Bool := decide (1 ≤ d ∧ d ≤ 10000000 ∧ -100000000000 ≤ n ∧ n ≤ 100000000000 ∧ Int.gcd n d = 1)
def qn (n d : Int) : Int := if d < 0 then (-n) / gc n d else n / gc n d
def qd (n d : Int) : Int := if d < 0 then (-d) / gc n d else d / gc n d
def sel (b : Bool) (x : Int) : Int := if b then x else 0

theorem gc_pos (n d : Int) (h : d ≠ 0) : 0 < gc n d := by
  unfold gc
  have : Int.gcd n d ≠ 0 := by rw [Ne, Int.gcd_eq_zero_iff]; omega
  omega
theorem gc_dl (n d : Int) : gc n d ∣ n := Int.gcd_dvd_left n d
theorem gc_dr (n d : Int) : gc n d ∣ d := Int.gcd_dvd_right n d
theorem pos_uniq {x y x' y' : Int} (hy : 0 < y) (hy' : 0 < y') (g : Int.gcd x y = 1) (g' : Int.gcd x' y' = 1) (h : x * y' = x' * y) : x = x' ∧ y = y' := by
  have h1 : y.natAbs ∣ y'.natAbs := by
    refine Nat.Coprime.dvd_of_dvd_mul_left (m := x.natAbs) ?_ ?_
    · show Nat.gcd _ _ = 1
      rw [Nat.gcd_comm]; exact g
    · rw [← Int.natAbs_mul, h, Int.natAbs_mul]; exact Nat.dvd_mul_left _ _
  have h2 : y'.natAbs ∣ y.natAbs := by
    refine Nat.Coprime.dvd_of_dvd_mul_left (m := x'.natAbs) ?_ ?_
    · show Nat.gcd _ _ = 1
      rw [Nat.gcd_comm]; exact g'
    · rw [← Int.natAbs_mul, ← h, Int.natAbs_mul]; exact Nat.dvd_mul_left _ _
  have h3 := Nat.dvd_antisymm h1 h2
  have e : y = y' := by omega
  subst e
  exact ⟨Int.eq_of_mul_eq_mul_right (by omega) h, rfl⟩
theorem q_ex (n d : Int) (h : d ≠ 0) : ∃ x y g : Int, 0 < g ∧ n = g * x ∧ d = g * y ∧ Int.gcd x y = 1 ∧ qn n d = (if d < 0 then -x else x) ∧ qd n d = (if d < 0 then -y else y) := by
  have hg := gc_pos n d h
  obtain ⟨x, hx⟩ := gc_dl n d
  obtain ⟨y, hy⟩ := gc_dr n d
  have hgn : Int.gcd n d = (gc n d).natAbs := by unfold gc; simp
  refine ⟨x, y, gc n d, hg, hx, hy, ?_, ?_, ?_⟩
  · have : Int.gcd n d = (gc n d).natAbs * Int.gcd x y := by
      rw [← Int.gcd_mul_left, ← hx, ← hy]
    rw [hgn] at this
    have hp : 0 < (gc n d).natAbs := by omega
    exact (Nat.eq_of_mul_eq_mul_left hp (by rw [Nat.mul_one]; exact this)).symm
  · unfold qn
    generalize gc n d = g at *
    subst hx
    have hgne : g ≠ 0 := by omega
    split
    · rw [show -(g * x) = g * (-x) by rw [Int.mul_neg], Int.mul_ediv_cancel_left _ hgne]
    · rw [Int.mul_ediv_cancel_left _ hgne]
  · unfold qd
    generalize gc n d = g at *
    have hgne : g ≠ 0 := by omega
    split
    · rw [show -d = g * (-y) by rw [Int.mul_neg, hy], Int.mul_ediv_cancel_left _ hgne]
    · conv => lhs; rw [hy]
      rw [Int.mul_ediv_cancel_left _ hgne]
theorem q_nd (n d : Int) (h : d ≠ 0) : 0 < qd n d ∧ qn n d * d = n * qd n d ∧ Int.gcd (qn n d) (qd n d) = 1 := by
  obtain ⟨x, y, g, hg, rfl, rfl, hco, e1, e2⟩ := q_ex n d h
  rw [e1, e2]
  by_cases hd : g * y < 0
  · rw [if_pos hd, if_pos hd]
    refine ⟨?_, ?_, by rw [Int.neg_gcd, Int.gcd_neg]; exact hco⟩
    · rcases Int.lt_or_le y 0 with h0 | h0
      · omega
      · have := Int.mul_nonneg (Int.le_of_lt hg) h0; omega
    · rw [Int.neg_mul, Int.mul_neg]; congr 1
      rw [← Int.mul_assoc, Int.mul_comm x g]
  · rw [if_neg hd, if_neg hd]
    refine ⟨?_, ?_, hco⟩
    · rcases Int.lt_or_le 0 y with h0 | h0
      · exact h0
      · have h1 := Int.mul_nonneg (Int.le_of_lt hg) (show 0 ≤ -y by omega)
        rw [Int.mul_neg] at h1; omega
    · rw [← Int.mul_assoc, Int.mul_comm x g]
/-- The quotient of what is proportional to a fraction in lowest terms. -/
theorem q_of {n d x y : Int} (hd : d ≠ 0) (hy : 0 < y) (g : Int.gcd x y = 1) (h : x * d = n * y) : qn n d = x ∧ qd n d = y := by
  obtain ⟨h1, h2, h3⟩ := q_nd n d hd
  refine pos_uniq h1 hy h3 g ?_
  have : (qn n d * y) * d = (x * qd n d) * d := by
    calc qn n d * y * d = (qn n d * d) * y := by rw [Int.mul_assoc, Int.mul_comm y d, Int.mul_assoc]
      _ = n * qd n d * y := by rw [h2]
      _ = (n * y) * qd n d := by rw [Int.mul_assoc, Int.mul_comm (qd n d) y, Int.mul_assoc]
      _ = x * d * qd n d := by rw [h]
      _ = x * qd n d * d := by rw [Int.mul_assoc, Int.mul_comm d, Int.mul_assoc]
  exact Int.eq_of_mul_eq_mul_right hd this
theorem q_self {x y : Int} (hy : 0 < y) (g : Int.gcd x y = 1) : qn x y = x ∧ qd x y = y := q_of (by omega) hy g rfl
theorem q_mul (k n d : Int) (hk : k ≠ 0) (hd : d ≠ 0) : qn (k * n) (k * d) = qn n d ∧ qd (k * n) (k * d) = qd n d := by
  obtain ⟨h1, h2, h3⟩ := q_nd n d hd
  refine q_of (Int.mul_ne_zero hk hd) h1 h3 ?_
  calc qn n d * (k * d) = k * (qn n d * d) := by rw [Int.mul_left_comm]
    _ = k * (n * qd n d) := by rw [h2]
    _ = k * n * qd n d := by rw [Int.mul_assoc]
theorem q_neg (n d : Int) (hd : d ≠ 0) : qn (-n) (-d) = qn n d ∧ qd (-n) (-d) = qd n d := by
  have := q_mul (-1) n d (by decide) hd
  rwa [show -1 * n = -n by omega, show -1 * d = -d by omega] at this

theorem vr_iff {n d : Int} : vr n d = true ↔ 1 ≤ d ∧ d ≤ 10000000 ∧ -100000000000 ≤ n ∧ n ≤ 100000000000 ∧ Int.gcd n d = 1 := by simp [vr]
theorem vr_neg (n d : Int) : vr (-n) d = vr n d := by
  rw [Bool.eq_iff_iff, vr_iff, vr_iff, Int.neg_gcd]; omega
def mkB (n d : Int) : Bool := inR n (-100000000000) 100000000000 && inR d (-100000000000) 100000000000 && d != 0 && vr (qn n d) (qd n d)
theorem mkB_iff {n d : Int} : mkB n d = true ↔ (-100000000000 ≤ n ∧ n ≤ 100000000000) ∧ (-100000000000 ≤ d ∧ d ≤ 100000000000) ∧ d ≠ 0 ∧ vr (qn n d) (qd n d) = true := by
  simp [mkB, inR, and_assoc]
def mkN (n d : Int) : Int := sel (mkB n d) (qn n d)
def mkD (n d : Int) : Int := sel (mkB n d) (qd n d)
theorem mk_neg (n d : Int) : mkB (-n) (-d) = mkB n d ∧ mkN (-n) (-d) = mkN n d ∧ mkD (-n) (-d) = mkD n d := by
  have hb : mkB (-n) (-d) = mkB n d := by
    rw [Bool.eq_iff_iff, mkB_iff, mkB_iff]
    by_cases hd : d = 0
    · subst hd; simp
    · obtain ⟨h1, h2⟩ := q_neg n d hd
      rw [h1, h2]
      exact ⟨fun ⟨a, b, c, e⟩ => ⟨by omega, by omega, by omega, e⟩, fun ⟨a, b, c, e⟩ => ⟨by omega, by omega, by omega, e⟩⟩
  refine ⟨hb, ?_, ?_⟩
  · unfold mkN
    rw [hb]
    cases h : mkB n d
    · rfl
    · exact (q_neg n d (mkB_iff.1 h).2.2.1).1
  · unfold mkD
    rw [hb]
    cases h : mkB n d
    · rfl
    · exact (q_neg n d (mkB_iff.1 h).2.2.1).2
theorem mk_three {n d : Int} (h : mkB n d = true) (h1 : -1000 ≤ n) (h2 : n ≤ 1000) (h3 : -1000 ≤ d) (h4 : d ≤ 1000) : mkB (3 * n) (3 * d) = true ∧ mkN (3 * n) (3 * d) = mkN n d ∧ mkD (3 * n) (3 * d) = mkD n d := by
  obtain ⟨_, _, hd, hv⟩ := mkB_iff.1 h
  obtain ⟨e1, e2⟩ := q_mul 3 n d (by decide) hd
  have hb : mkB (3 * n) (3 * d) = true := mkB_iff.2 ⟨by omega, by omega, by omega, by rw [e1, e2]; exact hv⟩
  refine ⟨hb, ?_, ?_⟩
  · unfold mkN; rw [hb, h]; exact e1
  · unfold mkD; rw [hb, h]; exact e2
theorem mk_val {n d : Int} (h : mkB n d = true) : mkN n d * d = n * mkD n d ∧ vr (mkN n d) (mkD n d) = true := by
  obtain ⟨_, _, hd, hv⟩ := mkB_iff.1 h
  unfold mkN mkD; rw [h]
  exact ⟨(q_nd n d hd).2.1, hv⟩
theorem mk_self {n d : Int} (h1 : 1 ≤ d) (h2 : d ≤ 10000000) : vr n d = (mkB n d && (mkN n d == n) && (mkD n d == d)) := by
  rw [Bool.eq_iff_iff]
  constructor
  · intro h
    have h' := h
    obtain ⟨a1, a2, a3, a4, a5⟩ := vr_iff.1 h
    obtain ⟨e1, e2⟩ := q_self (by omega) a5
    have hb : mkB n d = true := mkB_iff.2 ⟨by omega, by omega, by omega, by rw [e1, e2]; exact h⟩
    simp [mkN, mkD, hb, sel, e1, e2]
  · intro h
    simp only [Bool.and_eq_true, beq_iff_eq] at h
    obtain ⟨⟨hb, e1⟩, e2⟩ := h
    obtain ⟨_, hv⟩ := mk_val hb
    rwa [e1, e2] at hv
theorem mk_of {n d : Int} (hv : vr n d = true) : mkB n d = true ∧ mkN n d = n ∧ mkD n d = d := by
  obtain ⟨a1, a2, a3, a4, a5⟩ := vr_iff.1 hv
  have := (mk_self a1 a2).symm.trans hv
  simp only [Bool.and_eq_true, beq_iff_eq] at this
  exact ⟨this.1.1, this.1.2, this.2⟩

def addB (an ad bn bd : Int) : Bool := vr an ad && vr bn bd && vr (qn (an * bd + bn * ad) (ad * bd)) (qd (an * bd + bn * ad) (ad * bd))
theorem addB_iff {an ad bn bd : Int} : addB an ad bn bd = true ↔ vr an ad = true ∧ vr bn bd = true ∧ vr (qn (an * bd + bn * ad) (ad * bd)) (qd (an * bd + bn * ad) (ad * bd)) = true := by
  simp [addB, and_assoc]
def addN (an ad bn bd : Int) : Int := sel (addB an ad bn bd) (qn (an * bd + bn * ad) (ad * bd))
def addD (an ad bn bd : Int) : Int := sel (addB an ad bn bd) (qd (an * bd + bn * ad) (ad * bd))
theorem add_comm (an ad bn bd : Int) : addB bn bd an ad = addB an ad bn bd ∧ addN bn bd an ad = addN an ad bn bd ∧ addD bn bd an ad = addD an ad bn bd := by
  have e1 : bn * ad + an * bd = an * bd + bn * ad := Int.add_comm _ _
  have e2 : bd * ad = ad * bd := Int.mul_comm _ _
  have hb : addB bn bd an ad = addB an ad bn bd := by
    unfold addB; rw [e1, e2, Bool.and_comm (vr bn bd)]
  refine ⟨hb, ?_, ?_⟩
  · unfold addN; rw [hb, e1, e2]
  · unfold addD; rw [hb, e1, e2]
theorem add_val {an ad bn bd : Int} (h : addB an ad bn bd = true) : addN an ad bn bd * (ad * bd) = (an * bd + bn * ad) * addD an ad bn bd ∧ vr (addN an ad bn bd) (addD an ad bn bd) = true := by
  obtain ⟨ha, hb, hv⟩ := addB_iff.1 h
  obtain ⟨a1, -⟩ := vr_iff.1 ha
  obtain ⟨b1, -⟩ := vr_iff.1 hb
  unfold addN addD; rw [h]
  exact ⟨(q_nd _ _ (Int.mul_ne_zero (by omega) (by omega))).2.1, hv⟩
theorem add_of {an ad bn bd x y : Int} (ha : vr an ad = true) (hb : vr bn bd = true) (hx : vr x y = true) (h : x * (ad * bd) = (an * bd + bn * ad) * y) : addB an ad bn bd = true ∧ addN an ad bn bd = x ∧ addD an ad bn bd = y := by
  obtain ⟨a1, -⟩ := vr_iff.1 ha
  obtain ⟨b1, -⟩ := vr_iff.1 hb
  obtain ⟨y1, _, _, _, yg⟩ := vr_iff.1 hx
  obtain ⟨e1, e2⟩ := q_of (Int.mul_ne_zero (show ad ≠ 0 by omega) (show bd ≠ 0 by omega)) (by omega) yg h
  have hB : addB an ad bn bd = true := addB_iff.2 ⟨ha, hb, by rw [e1, e2]; exact hx⟩
  refine ⟨hB, ?_, ?_⟩
  · unfold addN; rw [hB]; exact e1
  · unfold addD; rw [hB]; exact e2
theorem add_back {an ad bn bd : Int} (h : addB an ad bn bd = true) :
    addB (addN an ad bn bd) (addD an ad bn bd) (-bn) bd = true ∧ addN (addN an ad bn bd) (addD an ad bn bd) (-bn) bd = an ∧ addD (addN an ad bn bd) (addD an ad bn bd) (-bn) bd = ad := by
  obtain ⟨ha, hb, -⟩ := addB_iff.1 h
  obtain ⟨e, hv⟩ := add_val h
  generalize addN an ad bn bd = cn at *
  generalize addD an ad bn bd = cd at *
  obtain ⟨a1, -⟩ := vr_iff.1 ha
  refine add_of hv (by rw [vr_neg]; exact hb) ha ?_
  grind
theorem vr_01 : vr 0 1 = true := by decide
theorem vr_11 : vr 1 1 = true := by decide
theorem add_zero {an ad : Int} : addB an ad 0 1 = vr an ad ∧ (vr an ad = true → addN an ad 0 1 = an ∧ addD an ad 0 1 = ad) := by
  cases h : vr an ad
  · exact ⟨by simp [addB, h], by simp⟩
  · obtain ⟨h1, h2, h3⟩ := add_of (x := an) (y := ad) h vr_01 h (by grind)
    exact ⟨h1, fun _ => ⟨h2, h3⟩⟩

def mulB (an ad bn bd : Int) : Bool := vr an ad && vr bn bd && vr (qn (an * bn) (ad * bd)) (qd (an * bn) (ad * bd))
theorem mulB_iff {an ad bn bd : Int} : mulB an ad bn bd = true ↔ vr an ad = true ∧ vr bn bd = true ∧ vr (qn (an * bn) (ad * bd)) (qd (an * bn) (ad * bd)) = true := by
  simp [mulB, and_assoc]
def mulN (an ad bn bd : Int) : Int := sel (mulB an ad bn bd) (qn (an * bn) (ad * bd))
def mulD (an ad bn bd : Int) : Int := sel (mulB an ad bn bd) (qd (an * bn) (ad * bd))
theorem mul_comm (an ad bn bd : Int) : mulB bn bd an ad = mulB an ad bn bd ∧ mulN bn bd an ad = mulN an ad bn bd ∧ mulD bn bd an ad = mulD an ad bn bd := by
  have e1 : bn * an = an * bn := Int.mul_comm _ _
  have e2 : bd * ad = ad * bd := Int.mul_comm _ _
  have hb : mulB bn bd an ad = mulB an ad bn bd := by
    unfold mulB; rw [e1, e2, Bool.and_comm (vr bn bd)]
  refine ⟨hb, ?_, ?_⟩
  · unfold mulN; rw [hb, e1, e2]
  · unfold mulD; rw [hb, e1, e2]
theorem mul_val {an ad bn bd : Int} (h : mulB an ad bn bd = true) : mulN an ad bn bd * (ad * bd) = (an * bn) * mulD an ad bn bd ∧ vr (mulN an ad bn bd) (mulD an ad bn bd) = true := by
  obtain ⟨ha, hb, hv⟩ := mulB_iff.1 h
  obtain ⟨a1, -⟩ := vr_iff.1 ha
  obtain ⟨b1, -⟩ := vr_iff.1 hb
  unfold mulN mulD; rw [h]
  exact ⟨(q_nd _ _ (Int.mul_ne_zero (by omega) (by omega))).2.1, hv⟩
theorem mul_of {an ad bn bd x y : Int} (ha : vr an ad = true) (hb : vr bn bd = true) (hx : vr x y = true) (h : x * (ad * bd) = (an * bn) * y) : mulB an ad bn bd = true ∧ mulN an ad bn bd = x ∧ mulD an ad bn bd = y := by
  obtain ⟨a1, -⟩ := vr_iff.1 ha
  obtain ⟨b1, -⟩ := vr_iff.1 hb
  obtain ⟨y1, _, _, _, yg⟩ := vr_iff.1 hx
  obtain ⟨e1, e2⟩ := q_of (Int.mul_ne_zero (show ad ≠ 0 by omega) (show bd ≠ 0 by omega)) (by omega) yg h
  have hB : mulB an ad bn bd = true := mulB_iff.2 ⟨ha, hb, by rw [e1, e2]; exact hx⟩
  refine ⟨hB, ?_, ?_⟩
  · unfold mulN; rw [hB]; exact e1
  · unfold mulD; rw [hB]; exact e2
theorem mul_one {an ad : Int} : mulB an ad 1 1 = vr an ad ∧ (vr an ad = true → mulN an ad 1 1 = an ∧ mulD an ad 1 1 = ad) := by
  cases h : vr an ad
  · exact ⟨by simp [mulB, h], by simp⟩
  · obtain ⟨h1, h2, h3⟩ := mul_of (x := an) (y := ad) h vr_11 h (by grind)
    exact ⟨h1, fun _ => ⟨h2, h3⟩⟩
theorem mul_zero {an ad : Int} : mulB an ad 0 1 = vr an ad ∧ (vr an ad = true → mulN an ad 0 1 = 0 ∧ mulD an ad 0 1 = 1) := by
  cases h : vr an ad
  · exact ⟨by simp [mulB, h], by simp⟩
  · obtain ⟨h1, h2, h3⟩ := mul_of (x := 0) (y := 1) h vr_01 vr_01 (by grind)
    exact ⟨h1, fun _ => ⟨h2, h3⟩⟩
theorem mul_inv {an ad : Int} (ha : vr an ad = true) (hf : mkB ad an = true) :
    mulB an ad (mkN ad an) (mkD ad an) = true ∧ mulN an ad (mkN ad an) (mkD ad an) = 1 ∧ mulD an ad (mkN ad an) (mkD ad an) = 1 := by
  obtain ⟨e, hv⟩ := mk_val hf
  refine mul_of ha hv vr_11 ?_
  grind
theorem mul_adds {an ad bn bd : Int} (h : mulB an ad bn bd = true) (h1 : addB bn bd 1 1 = true) (h2 : mulB an ad (addN bn bd 1 1) (addD bn bd 1 1) = true) (h3 : addB (mulN an ad bn bd) (mulD an ad bn bd) an ad = true) :
    mulN an ad (addN bn bd 1 1) (addD bn bd 1 1) = addN (mulN an ad bn bd) (mulD an ad bn bd) an ad ∧ mulD an ad (addN bn bd 1 1) (addD bn bd 1 1) = addD (mulN an ad bn bd) (mulD an ad bn bd) an ad := by
  obtain ⟨e, hv⟩ := mul_val h
  obtain ⟨e1, hv1⟩ := add_val h1
  obtain ⟨e2, hv2⟩ := mul_val h2
  obtain ⟨e3, hv3⟩ := add_val h3
  obtain ⟨ha, hb, -⟩ := mulB_iff.1 h
  generalize mulN an ad (addN bn bd 1 1) (addD bn bd 1 1) = ln at *
  generalize mulD an ad (addN bn bd 1 1) (addD bn bd 1 1) = ld at *
  generalize addN (mulN an ad bn bd) (mulD an ad bn bd) an ad = rn at *
  generalize addD (mulN an ad bn bd) (mulD an ad bn bd) an ad = rd at *
  generalize mulN an ad bn bd = cn at *
  generalize mulD an ad bn bd = cd at *
  generalize addN bn bd 1 1 = sn at *
  generalize addD bn bd 1 1 = sd at *
  obtain ⟨a1, _, _, _, ag⟩ := vr_iff.1 ha
  obtain ⟨b1, _, _, _, bg⟩ := vr_iff.1 hb
  obtain ⟨c1, _, _, _, cg⟩ := vr_iff.1 hv
  obtain ⟨s1, _, _, _, sg⟩ := vr_iff.1 hv1
  obtain ⟨l1, _, _, _, lg⟩ := vr_iff.1 hv2
  obtain ⟨r1, _, _, _, rg⟩ := vr_iff.1 hv3
  refine pos_uniq (by omega) (by omega) lg rg ?_
  have hz : ad * ad * sd * bd * cd ≠ 0 := by
    refine Int.mul_ne_zero (Int.mul_ne_zero (Int.mul_ne_zero (Int.mul_ne_zero ?_ ?_) ?_) ?_) ?_ <;> omega
  refine Int.eq_of_mul_eq_mul_right hz ?_
  clear hz ag bg cg sg lg rg
  grind

def sg (x : Int) : Int := if x < 0 then -1 else if 0 < x then 1 else 0
def cmpR (an ad bn bd : Int) : Int := if vr an ad && vr bn bd then sg (an * bd - bn * ad) else 2
theorem cmp_two {an ad bn bd : Int} : (cmpR an ad bn bd = 2) ↔ ¬ (vr an ad = true ∧ vr bn bd = true) := by
  unfold cmpR sg
  cases vr an ad <;> cases vr bn bd <;> simp
  split <;> (try split) <;> omega
theorem cmp_eq {an ad bn bd : Int} (ha : vr an ad = true) (hb : vr bn bd = true) : an * bd = bn * ad ↔ (an = bn ∧ ad = bd) := by
  obtain ⟨a1, _, _, _, ag⟩ := vr_iff.1 ha
  obtain ⟨b1, _, _, _, bg⟩ := vr_iff.1 hb
  exact ⟨fun h => pos_uniq (by omega) (by omega) ag bg h, fun ⟨h1, h2⟩ => by rw [h1, h2]⟩
theorem cmp_swap {an ad bn bd : Int} (ha : vr an ad = true) (hb : vr bn bd = true) : cmpR bn bd an ad = - cmpR an ad bn bd := by
  unfold cmpR sg
  simp only [ha, hb, Bool.and_self, if_true]
  generalize an * bd = x
  generalize bn * ad = y
  (repeat' split) <;> omega
theorem cmp_zero {an ad bn bd : Int} (ha : vr an ad = true) (hb : vr bn bd = true) : (cmpR an ad bn bd == 0) = ((an == bn) && (ad == bd)) := by
  rw [Bool.eq_iff_iff]
  simp only [beq_iff_eq, Bool.and_eq_true]
  rw [← cmp_eq ha hb]
  unfold cmpR sg
  simp only [ha, hb, Bool.and_self, if_true]
  generalize an * bd = x
  generalize bn * ad = y
  (repeat' split) <;> omega
theorem cmp_diff {an ad bn bd : Int} (h : addB an ad (-bn) bd = true) : cmpR an ad bn bd = sg (addN an ad (-bn) bd) := by
  obtain ⟨e, hv⟩ := add_val h
  obtain ⟨ha, hb, -⟩ := addB_iff.1 h
  rw [vr_neg] at hb
  generalize addN an ad (-bn) bd = x at *
  generalize addD an ad (-bn) bd = y at *
  obtain ⟨a1, -⟩ := vr_iff.1 ha
  obtain ⟨b1, -⟩ := vr_iff.1 hb
  obtain ⟨y1, -⟩ := vr_iff.1 hv
  unfold cmpR
  simp only [ha, hb, Bool.and_self, if_true]
  have e' : x * (ad * bd) = (an * bd - bn * ad) * y := by rw [e]; grind
  have hp : 0 < ad * bd := Int.mul_pos (by omega) (by omega)
  have hy : 0 < y := by omega
  generalize an * bd - bn * ad = z at *
  generalize ad * bd = p at *
  clear e
  unfold sg
  rcases Int.lt_trichotomy z 0 with hz | hz | hz
  · have := Int.mul_neg_of_neg_of_pos hz hy
    have hx : x < 0 := by
      rcases Int.lt_or_le x 0 with h0 | h0
      · exact h0
      · have := Int.mul_nonneg h0 (Int.le_of_lt hp); omega
    rw [if_pos hz, if_pos hx]
  · subst hz
    have hx : x = 0 := by
      rw [Int.zero_mul] at e'
      rcases Int.mul_eq_zero.1 e' with h0 | h0
      · exact h0
      · omega
    rw [hx]
  · have := Int.mul_pos hz hy
    have hx : 0 < x := by
      rcases Int.lt_or_le 0 x with h0 | h0
      · exact h0
      · have := Int.mul_nonneg (show 0 ≤ -x by omega) (Int.le_of_lt hp)
        rw [Int.neg_mul] at this; omega
    rw [if_neg (by omega), if_pos hz, if_neg (by omega), if_pos hx]
def flr (n d : Int) : Int := if vr n d then n / d else 0
theorem flr_of {n d : Int} (h : vr n d = true) : 0 ≤ n - flr n d * d ∧ n - flr n d * d < d := by
  obtain ⟨h1, -⟩ := vr_iff.1 h
  unfold flr
  rw [if_pos h, Int.mul_comm]
  have := Int.emod_nonneg n (show d ≠ 0 by omega)
  have := Int.emod_lt_of_pos n (show 0 < d by omega)
  have := Int.mul_ediv_add_emod n d
  omega
/-- Go's quotient and remainder, and rounding down. -/
theorem floor_go {n d : Int} (h : 1 ≤ d) : n / d = (if n.tmod d < 0 then n.tdiv d - 1 else n.tdiv d) := by
  rw [Int.tdiv_eq_ediv, Int.tmod_eq_emod]
  have h0 := Int.emod_nonneg n (show d ≠ 0 by omega)
  have h1 := Int.emod_lt_of_pos n (show 0 < d by omega)
  by_cases hc : 0 ≤ n ∨ d ∣ n
  · rw [if_pos hc, if_pos hc, if_neg (by simp; omega)]; omega
  · rw [if_neg hc, if_neg hc]
    have : Int.sign d = 1 := Int.sign_eq_one_of_pos (by omega)
    rw [if_pos (by omega)]; omega
/-- The cross-cancelled product is in lowest terms and is the product. -/
theorem mul_cross {an ad bn bd : Int} (ha : vr an ad = true) (hb : vr bn bd = true) :
    qn (an * bn) (ad * bd) = qn an bd * qn bn ad ∧ qd (an * bn) (ad * bd) = qd an bd * qd bn ad ∧ Int.gcd (qn an bd * qn bn ad) (qd an bd * qd bn ad) = 1 := by
  obtain ⟨a1, _, _, _, ag⟩ := vr_iff.1 ha
  obtain ⟨b1, _, _, _, bg⟩ := vr_iff.1 hb
  obtain ⟨x, y, g, hg, ex, ey, hxy, e1, e2⟩ := q_ex an bd (by omega)
  obtain ⟨u, v, k, hk, eu, ev, huv, e3, e4⟩ := q_ex bn ad (by omega)
  obtain ⟨p1, -, -⟩ := q_nd an bd (by omega)
  obtain ⟨p2, -, -⟩ := q_nd bn ad (by omega)
  rw [if_neg (by omega)] at e1 e2 e3 e4
  rw [e2] at p1
  rw [e4] at p2
  rw [e1, e2, e3, e4]
  subst ex ey eu ev
  have hco : Int.gcd (x * u) (y * v) = 1 := by
    have c1 : Nat.Coprime x.natAbs y.natAbs := hxy
    have c2 : Nat.Coprime u.natAbs v.natAbs := huv
    have c3 : Nat.Coprime x.natAbs v.natAbs := by
      have : Nat.Coprime (g * x).natAbs (k * v).natAbs := ag
      rw [Int.natAbs_mul, Int.natAbs_mul] at this
      exact Nat.Coprime.coprime_mul_left (Nat.Coprime.coprime_mul_left_right this)
    have c4 : Nat.Coprime u.natAbs y.natAbs := by
      have : Nat.Coprime (k * u).natAbs (g * y).natAbs := bg
      rw [Int.natAbs_mul, Int.natAbs_mul] at this
      exact Nat.Coprime.coprime_mul_left (Nat.Coprime.coprime_mul_left_right this)
    show Nat.gcd _ _ = 1
    rw [Int.natAbs_mul, Int.natAbs_mul]
    exact Nat.Coprime.mul_left (Nat.Coprime.mul_right c1 c3) (Nat.Coprime.mul_right c4 c2)
  obtain ⟨r1, r2⟩ := q_of (n := (g * x) * (k * u)) (d := (k * v) * (g * y)) (x := x * u) (y := y * v) (Int.mul_ne_zero (by omega) (by omega)) (Int.mul_pos p1 p2) hco (by grind)
  exact ⟨r1, r2, hco⟩
end Go.Proofs.Ytpcfnlffamgdaab.Rat1.Q
