
/-
  The draw of a point of a problem.
-/
import Derived.Test.YtpcfnlffamgdaabDy
import Derived.Test.YtpcfnlffamgdaabNl
set_option linter.unusedSimpArgs false
set_option linter.unusedVariables false
namespace Go.Proofs.Ytpcfnlffamgdaab
open Go.RowKit

/-- A drawn problem: its numbers lie from block lo on, its rows from block lr on. -/
def ProbF (w : World) (lo lr : Nat) (A0 A1 A2 : Option Addr) (d0 d1 d2 : Nat) (p : PProb) : Prop :=
  IntsF w lo A0 p.costs.length p.costs ∧ IntsF w lo A1 p.uppers.length p.uppers ∧ GrowR w lr lr 73 (.slice A2 p.rows.length d2) p.rows ∧ p.costs.length ≤ d0 ∧ p.uppers.length ≤ d1 ∧ p.rows.length ≤ d2 ∧ d0 ≤ maxLen ∧ d1 ≤ maxLen ∧ d2 ≤ maxLen
section
variable {w w' : World} {lo lr rb : Nat} {A0 A1 A2 : Option Addr} {d0 d1 d2 : Nat} {p : PProb}
theorem ProbF.probV (h : ProbF w lo lr A0 A1 A2 d0 d1 d2 p) : ProbV w A0 A1 A2 d0 d1 d2 p := by
  obtain ⟨h0, h1, h2, h3⟩ := h
  obtain ⟨A6, d6, e6, l6, m6, h6⟩ := h2.rows
  injection e6 with a1 a2 a3
  subst a1 a3
  exact ⟨h0.out, h1.out, h6, h3⟩
theorem ProbF.below (h : ProbF w lo lr A0 A1 A2 d0 d1 d2 p) (hb : Below w.heap.size w w') : ProbF w' lo lr A0 A1 A2 d0 d1 d2 p := ⟨h.1.below hb, h.2.1.below hb, h.2.2.1.below hb, h.2.2.2⟩
theorem ProbF.only (h : ProbF w lo lr A0 A1 A2 d0 d1 d2 p) (k : Only rb w w') (h1 : rb < lo) (h2 : rb < lr) : ProbF w' lo lr A0 A1 A2 d0 d1 d2 p := ⟨IntsF.only (Lib.hid k) h1 h.1, IntsF.only (Lib.hid k) h1 h.2.1, GrowR.keep h.2.2.1 k.size (fun j hj hs => k.block j hs (by omega)), h.2.2.2⟩
end

def DrewPt (B rb P : Nat) (w : World) (e : Ending) (w' : World) : Prop :=
  ∃ (A : Option Addr) (n c : Nat) (xs : List Int), e = .returned (.slice A n c) ∧ IntsF w' w.heap.size A n xs ∧ n ≤ c ∧ c ≤ maxLen ∧ n ≤ 8 ∧ Rd B w' rb P ∧ Only rb w w'

theorem IntsF.lower3 {w : World} {lo lo' n : Nat} {A : Option Addr} {xs : List Int} (h : IntsF w lo A n xs) (hl : lo' ≤ lo) : IntsF w lo' A n xs := ⟨h.1, fun hn => by obtain ⟨g, off, e, hg⟩ := h.2 hn; exact ⟨g, off, e, by omega⟩⟩
theorem sol_pos' {p : PProb} (hv : vProb p = true) (h : 0 ≤ solC p) : solL p ∈ pts p.uppers ∧ allB p.rows (solL p) = true ∧ solC p = dotW p.costs (solL p) := by
  rw [solC_2 hv] at h
  have := slv_mem (pre_cost hv (List.prefix_refl _)) h
  rw [solL_2 hv, solC_2 hv]
  exact this

set_option maxHeartbeats 4000000 in
set_option maxRecDepth 100000 in
theorem anyPoint_any (B rb P lo lr : Nat) (A0 A1 A2 : Option Addr) (d0 d1 d2 : Nat) (p : PProb) (w : World) (hr : Rd B w rb P) (hP : P ≤ 600000) (hp : ProbF w lo lr A0 A1 A2 d0 d1 d2 p) (hlo : rb < lo) (hlr : rb < lr) (hu5 : p.uppers.length ≤ 5) (hu : ∀ x ∈ p.uppers, -1 ≤ x ∧ x ≤ 10) :
    Calls Try.prog 93 #[.pointer (some ⟨rb, 0, none⟩), .agg #[.slice A0 p.costs.length d0, .slice A1 p.uppers.length d1, .slice A2 p.rows.length d2]] w (DrewPt B rb (P + 20) w) := by
  obtain ⟨i0, hi0, hz0, hz1, hz2⟩ := info_parts info_int
  have hrb := hr.2.1
  have hB := hr.1
  have HR := Lib.hid hr; clear hr
  have HP := Lib.hid hp; clear hp
  have HU := Lib.hid hu; clear hu
  go_enter Try.func93, Try.ntmps93
  go_wp2_with fail
  go_loopw [5, 6] (fun s5 s6 wr => ∃ (k : Nat) (v : Value) (xs : List Int), k ≤ p.uppers.length ∧ v = s5 ∧ s6 = .int .i64 k ∧ Hid (xs.length = k ∧ ∀ x ∈ xs, I64 x) ∧ Hid (v ≠ .slice none 0 0) ∧ Hid (Grow wr (w.heap.size + 1) 3 v xs) ∧ Hid (Box wr w.heap.size #[.slice A0 p.costs.length d0, .slice A1 p.uppers.length d1, .slice A2 p.rows.length d2]) ∧ Hid (Rd B wr rb (P + k)) ∧ Hid (Only rb w wr)) (fun _ s6 _ => p.uppers.length - (intOf s6).toNat)
  case atStart => exact ⟨0, _, [], by omega, rfl, rfl, Lib.hid ⟨rfl, by simp⟩, Lib.hid (by simp), Lib.hid (Grow.lit0_at (w.alloc _) (by simp) (by simp) _), Lib.hid (by (repeat' (first | (with_reducible exact Box.new _ _ _ (by first | omega | (simp; done) | (simp; omega) | (simp only [World.size_alloc, World.size_setCell, World.size_drew] at *; omega))) | (with_reducible refine Box.far ?_ (by first | omega | (simp; done) | (simp; omega) | (simp only [World.size_alloc, World.size_setCell, World.size_drew] at *; omega)) _) | (apply Box.put3_0) | (apply Box.put3_1) | (apply Box.put3_2) | (apply Box.put2_0) | (apply Box.put2_1) | (with_reducible refine Box.alloc ?_ _) | (with_reducible refine Box.drewN ?_ _) | (with_reducible refine Box.drew ?_) | (with_reducible assumption) | (refine Hid.out ?_; with_reducible assumption) | (apply Box.only; (with_reducible assumption); exact (by first | omega | (simp; done) | (simp; omega) | (simp only [World.size_alloc, World.size_setCell, World.size_drew] at *; omega))) | (apply Box.belowD; (with_reducible assumption))))), Lib.hid ((HR.out.alloc _).alloc _), Lib.hid (((Only.refl _ _).alloc _).alloc _)⟩
  case round =>
    obtain ⟨k, v, xs, hk, rfl, rfl, hxs, hne, hgr, hX, hrd, ho⟩ := hrel
    have zr := ho.out.size
    have y0 := hX.out.1
    obtain ⟨x0, x1, x2⟩ := Box.facts3 hX.out
    by_cases hlt : k < p.uppers.length
    · have hxl := hxs.out.1
      obtain ⟨bb, off, u, rfl, hbb, hx, hlo', hhi', hc⟩ := (HP.out.only ho.out hlo hlr).probV.i1.at_ hlt
      have hub := HU.out u (List.mem_of_getElem? hx)
      clear hx
      obtain ⟨m, hmx⟩ : ∃ m, (if u < 0 then (0 : Int) else u) = m := ⟨_, rfl⟩
      have hmb : 0 ≤ m ∧ m ≤ 10 := by rw [← hmx]; split <;> omega
      have hwm : IntKind.i64.wrap (m + 1) = m + 1 := IntWalk.i64_in _ ⟨by omega, by omega⟩
      go_wp2_with fail
      refine (pick_any B rb (P + k) _ _ hrd.out (by omega) (by omega) (by omega)).mono ?_
      rintro e w1 ⟨t, t0, t1, rfl, hr1, ho1⟩
      have R1 := Lib.hid hr1
      have D1 := Lib.hid ho1
      have O1 := Lib.hid (ho.out.trans ho1)
      have zz := ho1.size
      have G1 : Hid (Grow w1 (w.heap.size + 1) 3 v xs) := Lib.hid (Grow.only D1 (by omega) hgr.out)
      have X1 : Hid (Box w1 w.heap.size #[.slice A0 p.costs.length d0, .slice (some ⟨bb, off, none⟩) p.uppers.length d1, .slice A2 p.rows.length d2]) := Lib.hid (Box.only D1 (by omega) hX.out)
      clear hr1 ho1
      go_wp2_with (
        at_builtin
        refine wpList_append_own _ rfl (.tmp 17) (.tmp 27) 42 rfl (w.heap.size + 1) 3 i0 (.int .i64 0) 1 8 Try.underlying42 hi0 hz0 hz1 hz2 rfl (by decide) v _ _ rfl (G1.out.alloc _).own ⟨w1.heap.size, 0, none⟩ 1 1 [.int .i64 t] rfl rfl ?c1 ?c2 ?c3 ?c4 ?c5 ?_
        case c1 => intro j u hj; (rcases j with _ | j <;> simp at hj); subst hj; simp [go_sem]
        case c2 => intro u hu; simp at hu; subst hu; rfl
        case c3 => unfold maxLen; omega
        case c4 => omega
        case c5 => simp; omega
        intro v' w4 hown' hgrow hnil
        have G4 : Hid (Grow w4 (w.heap.size + 1) 3 v' (xs ++ [t])) := Lib.hid (Grow.snoc hown')
        have N4 : Hid (v' ≠ .slice none 0 0) := Lib.hid (fun h => by have := hnil.1 h; omega)
        have hrow : ∀ j, v.ownBlock = some j → w.heap.size + 1 ≤ j := hgr.out.row
        have R4 : Hid (Rd B w4 rb (P + k + 1)) := Lib.hid ((R1.out.alloc _).grown hgrow (fun j hj => by have := hrow j hj; omega))
        have O4 : Hid (Only rb w w4) := Lib.hid ((O1.out.alloc _).grown hgrow (fun j hj => by have := hrow j hj; omega))
        have X4 : Hid (Box w4 w.heap.size #[.slice A0 p.costs.length d0, .slice (some ⟨bb, off, none⟩) p.uppers.length d1, .slice A2 p.rows.length d2]) := Lib.hid ((X1.out.alloc _).grown hgrow (fun j hj => by have := hrow j hj; omega))
        clear hown' hgrow hnil hrow)
      go_roundw
      case rel => exact ⟨k + 1, _, _, by omega, rfl, by go_num, Lib.hid ⟨by simp [hxl], fun x hx => by
          rcases List.mem_append.1 hx with h | h
          · exact hxs.out.2 x h
          · simp at h; subst h; unfold I64; omega⟩, N4, G4, X4, R4, O4⟩
      case measure => simp [intOf]; omega
    · have hke : k = p.uppers.length := by omega
      subst hke
      have hxl := hxs.out.1
      obtain ⟨g, cg, rfl, hg1, og, lc, mc, ig⟩ := Grow.block hgr.out hne.out hxs.out.2
      have OG := Lib.hid og
      have IG := Lib.hid ig
      clear og ig
      go_wp2_with fail
      refine (pick_any B rb (P + p.uppers.length) _ _ hrd.out (by omega) (by omega) (by omega)).mono ?_
      rintro e w1 ⟨t, t0, t1, rfl, hr1, ho1⟩
      have R1 := Lib.hid hr1
      have D1 := Lib.hid ho1
      have O1 := Lib.hid (ho.out.trans ho1)
      have zz := ho1.size
      have X1 : Hid (Box w1 w.heap.size #[.slice A0 p.costs.length d0, .slice A1 p.uppers.length d1, .slice A2 p.rows.length d2]) := Lib.hid (Box.only D1 (by omega) hX.out)
      have I1 : Hid (Ints w1 (some ⟨g, 0, none⟩) xs.length xs) := Lib.hid ((OwnI.only D1 (by omega) OG.out).ints hxs.out.2)
      obtain ⟨k0, k1, k2⟩ := Box.facts3 X1.out
      have y1 := X1.out.1
      have hx5 : xs.length ≤ 5 := by omega
      clear hxl
      have P1 := Lib.hid (HP.out.only O1.out hlo hlr)
      clear hr1 ho1
      by_cases ht : t = 0
      · subst ht
        go_wp2_with fail
        refine (spec_SolveExact _ _ _ _ _ _ p _ P1.out.probV).mono ?_
        rintro e w2 ⟨A2', c2', rfl, hos, hb2⟩
        have W2 := Lib.hid hos
        have D2 := Lib.hid hb2
        have z2 := hb2.size
        have O2 : Hid (Only rb w w2) := Lib.hid (O1.out.trans (Only.of_below hb2))
        have R2 : Hid (Rd B w2 rb (P + p.uppers.length + 1)) := Lib.hid (Rd.below R1.out hb2)
        have I2 : Hid (Ints w2 (some ⟨g, 0, none⟩) xs.length xs) := Lib.hid (I1.out.below hb2)
        clear hb2 hos
        by_cases hneg : 0 ≤ solC p
        · have hv : vProb p = true := by
            cases h : vProb p
            · rw [solC_1 h] at hneg; exact absurd hneg (by decide)
            · rfl
          obtain ⟨hm, _, _⟩ := sol_pos' hv hneg
          have hsl := pts_len (vProb_us hv) hm
          have h1N := (vProb_N5 hv).2
          obtain ⟨g2, rfl, hg2, hg3, hog2⟩ := OwnS.getJ W2.out (by rw [hsl]; exact h1N)
          have I3 : Hid (Ints w2 (some ⟨g2, 0, none⟩) (solL p).length (solL p)) := Lib.hid (hog2.ints W2.out.2.1)
          have hs5 : (solL p).length ≤ 5 := by rw [hsl]; exact hu5
          clear hv hm hsl h1N
          go_wp2_with fail
          refine (spoil_any B rb (P + p.uppers.length + 1) g2 0 _ _ _ 4 _ R2.out I3.out (by omega) (by omega) (by omega)).mono ?_
          rintro e w5 ⟨A, n, c, ys, rfl, hf, h1, h2, h3, hr5, ho5⟩
          go_wp2_with fail
          go_ret
          exact ⟨A, n, c, ys, rfl, hf.lower3 (by omega), h1, h2, by omega, hr5.mono (by omega), O2.out.trans ho5⟩
        · go_wp2_with fail
          refine (spoil_any B rb (P + p.uppers.length + 1) g 0 _ _ _ 4 _ R2.out I2.out (by omega) (by omega) (by omega)).mono ?_
          rintro e w5 ⟨A, n, c, ys, rfl, hf, h1, h2, h3, hr5, ho5⟩
          go_wp2_with fail
          go_ret
          exact ⟨A, n, c, ys, rfl, hf.lower3 (by omega), h1, h2, by omega, hr5.mono (by omega), O2.out.trans ho5⟩
      · have htb : (t == 0) = false := by simp [ht]
        go_wp2_with fail
        refine (spoil_any B rb (P + p.uppers.length + 1) g 0 _ _ _ 4 _ R1.out I1.out (by omega) (by omega) (by omega)).mono ?_
        rintro e w5 ⟨A, n, c, ys, rfl, hf, h1, h2, h3, hr5, ho5⟩
        go_wp2_with fail
        go_ret
        exact ⟨A, n, c, ys, rfl, hf.lower3 (by omega), h1, h2, by omega, hr5.mono (by omega), O1.out.trans ho5⟩
end Go.Proofs.Ytpcfnlffamgdaab
