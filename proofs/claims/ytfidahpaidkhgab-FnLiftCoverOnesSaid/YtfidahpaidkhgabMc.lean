
/-
  Minimal covers: lists without a number; what the model's minimalCover answers.
-/
import Derived.Test.YtfidahpaidkhgabDe
import Derived.Test.YtfidahpaidkhgabDt
import Derived.Deep.AppendLies
set_option linter.unusedSimpArgs false
set_option linter.unusedVariables false
namespace Go.Proofs.Ytfidahpaidkhgab
open Go.RowKit

/-! ### Plain -/
theorem outAt_at {xs : List Int} {i j : Nat} (hi : i < xs.length) : (outAt xs i).getD j 0 = if j < i then xs.getD j 0 else xs.getD (j + 1) 0 := by
  unfold outAt
  have hl : (xs.take i).length = i := by rw [List.length_take]; omega
  simp only [List.getD_eq_getElem?_getD]
  by_cases h : j < i
  · rw [if_pos h, List.getElem?_append_left (by omega), List.getElem?_take, if_pos h]
  · rw [if_neg h, List.getElem?_append_right (by omega), hl, List.getElem?_drop, show i + 1 + (j - i) = j + 1 by omega]
theorem asc_out {xs : List Int} {n : Int} {i : Nat} (h : ascB xs n = true) (hi : i < xs.length) : ascB (outAt xs i) n = true := by
  simp only [ascB, Bool.and_eq_true] at h ⊢
  refine ⟨?_, List.all_eq_true.2 fun x hx => List.all_eq_true.1 h.2 x (outAt_mem x hx)⟩
  rw [outAt_len hi]
  unfold incP
  rw [List.all_eq_true]
  intro j hj
  have hj := List.mem_range.1 hj
  rw [decide_eq_true_eq]
  by_cases h0 : j = 0
  · exact .inl h0
  · refine .inr ?_
    rw [outAt_at hi, outAt_at hi]
    have a := incP_at h.1 (show j < xs.length by omega)
    have b := incP_at h.1 (show j + 1 < xs.length by omega)
    simp only [Nat.add_sub_cancel] at b
    by_cases h1 : j < i
    · rw [if_pos (by omega), if_pos h1]; omega
    · rw [if_neg h1]
      by_cases h2 : j - 1 < i
      · rw [if_pos h2]; omega
      · rw [if_neg h2, show j - 1 + 1 = j by omega]; omega
/-- The numbers are examined from place i on; f of them are left. -/
def mcov (ws : List Int) (a : Int) : Nat → Nat → List Int → List Int
  | 0, _, out => out
  | f + 1, i, out => if a < sumW ws (outAt out i) then mcov ws a f i (outAt out i) else mcov ws a f (i + 1) out
def mCov (ws : List Int) (a : Int) (ps : List Int) : List Int := mcov ws a ps.length 0 ps
theorem mcov_yes {ws out MC : List Int} {a : Int} {i : Nat} (hi : i < out.length) (h : mcov ws a (out.length - i) i out = MC) (h2 : a < sumW ws (outAt out i)) : mcov ws a ((outAt out i).length - i) i (outAt out i) = MC := by
  rw [outAt_len hi]
  rw [show out.length - i = (out.length - 1 - i) + 1 by omega] at h
  simp only [mcov] at h
  rwa [if_pos h2] at h
theorem mcov_no {ws out MC : List Int} {a : Int} {i : Nat} (hi : i < out.length) (h : mcov ws a (out.length - i) i out = MC) (h2 : ¬ a < sumW ws (outAt out i)) : mcov ws a (out.length - (i + 1)) (i + 1) out = MC := by
  rw [show out.length - i = (out.length - (i + 1)) + 1 by omega] at h
  simp only [mcov] at h
  rwa [if_neg h2] at h
theorem mcov_end {ws out MC : List Int} {a : Int} {i : Nat} (hi : i = out.length) (h : mcov ws a (out.length - i) i out = MC) : out = MC := by
  subst hi
  rw [Nat.sub_self] at h
  exact h
def kMin (ws : List Int) (a : Int) (ps : List Int) : List Int := if isCov ws a ps then mCov ws a ps else []
theorem kMin_1 {ws ps : List Int} {a : Int} (h : isCov ws a ps = false) : kMin ws a ps = [] := by simp [kMin, h]
theorem kMin_2 {ws ps : List Int} {a : Int} (h : isCov ws a ps = true) : kMin ws a ps = mCov ws a ps := by simp [kMin, h]
def lenV : Value → Nat
  | .slice _ n _ => n
  | _ => 0

theorem Ints.takeN {w : World} {A : Option Addr} {n k : Nat} {xs : List Int} (h : Ints w A n xs) (hk : k ≤ n) : Ints w A k (xs.take k) := by
  refine ⟨by rw [List.length_take, h.1]; omega, fun x hx => h.2.1 x (List.mem_of_mem_take hx), fun hn => ?_⟩
  obtain ⟨b, off, e, hc⟩ := h.2.2 (by omega)
  refine ⟨b, off, e, fun i x hx => hc i x ?_⟩
  rw [List.getElem?_take] at hx
  by_cases hi : i < k
  · rwa [if_pos hi] at hx
  · rw [if_neg hi] at hx; cases hx

/-! ### An append at a step of a region that draws -/
theorem step_append_own {P : Program} (w : World) {ops : Array Oper} {o : Oper} {a : Act} {K : Act → World → Prop} {Q : Exit → Act → World → Prop} {E : Prop} (hgd : o.guard = none) (s x : Operand) (t : TypeId)
    (ho : o.op = .call { callee := .builtin .append, args := #[s, x], argTypes := #[t, t] })
    (base : Nat) (e : TypeId) (i : TypeInfo) (z : Value) (size bytes : Nat) (ht : P.underlying t = some (.slice e)) (hi : P.info? e = some i) (hz : i.zero = some z)
    (hsize : i.size = size) (hby : i.bytes = bytes) (hzs : z.cells.size = size) (hsz : 0 < size)
    (v : Value) (n : Nat) (xs : List Value) (hs : a.eval s = v) (hown : w.ownsRow base e size v n xs)
    (ad : Addr) (m c : Nat) (news : List Value) (hx : a.eval x = .slice (some ad) m c) (hl : news.length = m * size) (hnews : ∀ j u, news[j]? = some u → w.cell? (ad.add j) = some u) (h1 : ∀ u ∈ news, u.oneCell' = true)
    (h63 : n + m ≤ maxLen) (hbytes : (n + m) * bytes ≤ 140737488355328) (hbase : base ≤ w.heap.size)
    (h : ∀ v' w', w'.ownsRow base e size v' (n + m) (xs ++ news) → w.grownBy w' v.ownBlock → (v' = .slice none 0 0 ↔ v = .slice none 0 0 ∧ m = 0) → K (a.put o.dst v') w') :
    if Region.wanted o (yielded ops a.tmps) = true then Oper.wp P o a w K Q else E := by
  rw [if_pos (by simp [Region.wanted, hgd])]
  exact wp_append_own w s x t ho base e i z size bytes ht hi hz hsize hby hzs hsz v n xs hs hown ad m c news hx hl hnews h1 h63 hbytes hbase h

theorem news_any {w : World} {A : Addr} {b off n k : Nat} {xs : List Int} (h : Ints w (some ⟨b, off, none⟩) n xs) (hk : k ≤ n) (hA : A = ⟨b, off + k, none⟩ ∨ k = n) : ∀ j u, ((xs.drop k).map (Value.int .i64))[j]? = some u → w.cell? (A.add j) = some u := by
  rcases hA with rfl | rfl
  · exact news_at (h.dropN hk)
  · intro j u hu
    rw [← h.1, List.drop_length] at hu
    simp at hu

theorem step_out {w : World} {ops : Array Oper} {o : Oper} {a : Act} {K : Act → World → Prop} {Q : Exit → Act → World → Prop} {E : Prop} (hgd : o.guard = none) (s x : Operand)
    (ho : o.op = .call { callee := .builtin .append, args := #[s, x], argTypes := #[23, 23] }) {v : Value} {B b off n c i : Nat} {A : Addr} {xs : List Int} (hs : a.eval s = v) (hx : a.eval x = .slice (some A) (n - (i + 1)) c)
    (gr : Grow w B 3 v (xs.take i)) (hne : v ≠ .slice none 0 0) (hI : Ints w (some ⟨b, off, none⟩) n xs) (hi : i < n) (hn : n ≤ 1000) (hA : A = ⟨b, off + (i + 1), none⟩ ∨ i + 1 = n) (hB : B ≤ w.heap.size)
    (h : ∀ v9 w9, Grow w9 B 3 v9 (outAt xs i) → v9 ≠ .slice none 0 0 → w.grownBy w9 v.ownBlock → K (a.put o.dst v9) w9) :
    if Region.wanted o (yielded ops a.tmps) = true then Oper.wp Try.prog o a w K Q else E := by
  obtain ⟨i0, hi0, hz0, hz1, hz2⟩ := info_parts info_int
  have hti : (xs.take i).length = i := by rw [List.length_take, hI.1]; omega
  have own := gr.own
  rw [hti] at own
  refine step_append_own w hgd s x 23 ho B 3 i0 (.int .i64 0) 1 8 Try.underlying23 hi0 hz0 hz1 hz2 rfl (by decide) v i ((xs.take i).map (Value.int .i64)) hs own A (n - (i + 1)) c ((xs.drop (i + 1)).map (Value.int .i64)) hx ?_ (news_any hI (by omega) hA) (one_ints _) ?_ (by omega) hB ?_
  · rw [List.length_map, List.length_drop, hI.1, Nat.mul_one]
  · unfold maxLen; omega
  · intro v9 w9 hown9 hgrow9 hnil9
    refine h v9 w9 ?_ (fun h => hne (hnil9.1 h).1) hgrow9
    unfold Grow outAt
    have e : (xs.take i ++ xs.drop (i + 1)).length = i + (n - (i + 1)) := by rw [List.length_append, hti, List.length_drop, hI.1]
    rw [e, List.map_append]
    exact hown9

set_option maxHeartbeats 4000000 in
set_option maxRecDepth 100000 in
theorem spec_without (b off n c i : Nat) (a : Int) (xs : List Int) (w : World) (hI : Ints w (some ⟨b, off, none⟩) n xs) (hc : n ≤ c) (hn : n ≤ 1000) (hi : i < n) (ha : a = (i : Int)) :
    Calls Try.prog 88 #[.slice (some ⟨b, off, none⟩) n c, .int .i64 a] w (CopyEnd (outAt xs i) w) := by
  obtain ⟨i0, hi0, hz0, hz1, hz2⟩ := info_parts info_int
  subst ha
  have HL := Lib.hid hI.len
  have HI := Lib.hid hI; clear hI
  have hwk : IntKind.i64.wrap ((i : Int) + 1) = (i : Int) + 1 := IntWalk.i64_in _ ⟨by omega, by omega⟩
  have k0 : (0 : Int) ≤ (i : Int) + 1 := by omega
  have k1 : (i : Int) + 1 ≤ (n : Int) := by omega
  have k3 : ((i : Int) + 1).toNat = i + 1 := by omega
  have k4 : (0 : Int) ≤ (i : Int) := by omega
  have k5 : (i : Int) ≤ (c : Int) := by omega
  have k6 : ¬ c = 0 := by omega
  have hti : (xs.take i).length = i := by rw [List.length_take, HL.out]; omega
  have HTI := Lib.hid hti; clear hti
  rcases capParts (k := i) hc (by omega) with ⟨d1', X1⟩ | ⟨d1', X1⟩
  all_goals
    go_enter Try.func88, Try.ntmps88
    go_wp2_with fail
    go_region_held3 (fun w' => True) (exact trivial)
      ((first
        | (go_at_call 87; refine (spec_copyIntsG _ _ i _ (xs.take i) _ ((HI.out.below (by (repeat' (first | (with_reducible exact Below.refl _ _) | (with_reducible refine belS ?_ (by first | omega | (simp; done) | (simp; omega) | (simp only [World.size_alloc, World.size_setCell, World.size_drew] at *; omega))) | (with_reducible refine belA ?_ (by first | omega | (simp; done) | (simp; omega) | (simp only [World.size_alloc, World.size_setCell, World.size_drew] at *; omega))) | (with_reducible refine bel_drewN ?_ _) | (with_reducible refine Below.drew ?_) | (with_reducible assumption) | (refine Hid.out ?_; with_reducible assumption) | (apply belV; (with_reducible assumption); exact (by first | omega | (simp; done) | (simp; omega) | (simp only [World.size_alloc, World.size_setCell, World.size_drew] at *; omega))))))).takeN (by omega)) (by omega)).mono ?_; rintro e w1 ⟨v, hne, rfl, hgr, hb⟩; have G1 : Hid (Below w.heap.size w w1) := belU hb (by (repeat' (first | (with_reducible exact Below.refl _ _) | (with_reducible refine belS ?_ (by first | omega | (simp; done) | (simp; omega) | (simp only [World.size_alloc, World.size_setCell, World.size_drew] at *; omega))) | (with_reducible refine belA ?_ (by first | omega | (simp; done) | (simp; omega) | (simp only [World.size_alloc, World.size_setCell, World.size_drew] at *; omega))) | (with_reducible refine bel_drewN ?_ _) | (with_reducible refine Below.drew ?_) | (with_reducible assumption) | (refine Hid.out ?_; with_reducible assumption) | (apply belV; (with_reducible assumption); exact (by first | omega | (simp; done) | (simp; omega) | (simp only [World.size_alloc, World.size_setCell, World.size_drew] at *; omega)))))) (by first | omega | (simp; done) | (simp; omega) | (simp only [World.size_alloc, World.size_setCell, World.size_drew] at *; omega)); have NE := Lib.hid hne; clear hne; (try simp only [World.size_alloc, World.size_setCell, World.size_drew, World.heap_drewN] at hgr); have GR := Lib.hid hgr; clear hgr; have z1 := hb.size; (try simp at z1); obtain ⟨hc1, hf1⟩ := bcell hb; have D1 := Lib.hid hb; clear hb)
        | (refine step_out rfl (.tmp 8) (.tmp 12) rfl rfl rfl GR.out NE.out (HI.out.below (by (repeat' (first | (with_reducible exact Below.refl _ _) | (with_reducible refine belS ?_ (by first | omega | (simp; done) | (simp; omega) | (simp only [World.size_alloc, World.size_setCell, World.size_drew] at *; omega))) | (with_reducible refine belA ?_ (by first | omega | (simp; done) | (simp; omega) | (simp only [World.size_alloc, World.size_setCell, World.size_drew] at *; omega))) | (with_reducible refine bel_drewN ?_ _) | (with_reducible refine Below.drew ?_) | (with_reducible assumption) | (refine Hid.out ?_; with_reducible assumption) | (apply belV; (with_reducible assumption); exact (by first | omega | (simp; done) | (simp; omega) | (simp only [World.size_alloc, World.size_setCell, World.size_drew] at *; omega))))))) hi hn (by first | exact .inl rfl | exact .inr X1.out) (by first | omega | (simp; done) | (simp; omega) | (simp only [World.size_alloc, World.size_setCell, World.size_drew] at *; omega)) ?_; intro v9 w9 hr9 hn9 hg9)))
    have R9 := Lib.hid hr9
    have N9 := Lib.hid hn9
    have G9 : Hid (Below w.heap.size w w9) := Lib.hid (Below.grown (by (repeat' (first | (with_reducible exact Below.refl _ _) | (with_reducible refine belS ?_ (by first | omega | (simp; done) | (simp; omega) | (simp only [World.size_alloc, World.size_setCell, World.size_drew] at *; omega))) | (with_reducible refine belA ?_ (by first | omega | (simp; done) | (simp; omega) | (simp only [World.size_alloc, World.size_setCell, World.size_drew] at *; omega))) | (with_reducible refine bel_drewN ?_ _) | (with_reducible refine Below.drew ?_) | (with_reducible assumption) | (refine Hid.out ?_; with_reducible assumption) | (apply belV; (with_reducible assumption); exact (by first | omega | (simp; done) | (simp; omega) | (simp only [World.size_alloc, World.size_setCell, World.size_drew] at *; omega)))))) hg9 (by first | omega | (simp; done) | (simp; omega) | (simp only [World.size_alloc, World.size_setCell, World.size_drew] at *; omega)) (fun j hj => GR.out.row j hj))
    clear hr9 hn9 hg9
    go_wp2_with fail
    go_ret
    exact ⟨v9, N9.out, rfl, R9.out, G9.out⟩

/-! ### The model's minimalCover -/
set_option maxHeartbeats 8000000 in
set_option maxRecDepth 100000 in
theorem spec_minimalCover (A' : Option Addr) (b off n' c' q d : Nat) (a : Int) (ws ps : List Int) (w : World) (hJ : Ints w A' n' ws) (hK : Ints w (some ⟨b, off, none⟩) q ps) (hn' : n' ≤ maxLen) (hq : q ≤ 1000) (hp : ∀ p ∈ ps, 0 ≤ p ∧ p < n') :
    Calls Try.prog 57 #[.slice A' n' c', .int .i64 a, .slice (some ⟨b, off, none⟩) q d] w (SliceEnd (mCov ws a ps) w) := by
  have HQ := Lib.hid hK.len
  have hpb := hK.2.1
  have HJ := Lib.hid hJ; clear hJ
  have HK := Lib.hid hK; clear hK
  have HP := Lib.hid hp; clear hp
  have HPB := Lib.hid hpb; clear hpb
  go_enter Try.func57, Try.ntmps57
  go_wp2_with fail
  refine (spec_copyIntsG _ _ _ _ ps _ HK.out (by omega)).mono ?_
  rintro e w1 ⟨v, hne, rfl, hgr, hb⟩
  obtain ⟨g, cg, rfl, hg1, og, lc, mc, ig⟩ := Grow.block hgr hne HPB.out
  have OG := Lib.hid og
  have G1 := Lib.hid hb
  clear hb hgr hne ig og
  go_wp2_with fail
  go_loopw [7, 8] (fun s7 s8 wr => ∃ (i g c : Nat) (out : List Int), s7 = .slice (some ⟨g, 0, none⟩) out.length c ∧ out.length ≤ c ∧ c ≤ maxLen ∧ s8 = .int .i64 i ∧ i ≤ out.length ∧ out.length ≤ 1000 ∧ w.heap.size ≤ g ∧ Hid (OwnI wr g out) ∧ Hid (∀ x ∈ out, x ∈ ps) ∧ Hid (mcov ws a (out.length - i) i out = mCov ws a ps) ∧ Hid (Below w.heap.size w wr)) (fun s7 s8 _ => lenV s7 - (intOf s8).toNat)
  case atStart => exact ⟨0, g, cg, ps, rfl, lc, mc, rfl, by omega, by rw [HQ.out]; exact hq, hg1, OG, Lib.hid (fun x hx => hx), Lib.hid rfl, G1⟩
  case round =>
    obtain ⟨i, g, c, out, rfl, hlc, hmc, rfl, hi, hl, hg, hown, hmem, hmcv, hbel⟩ := hrel
    have hmc' := hmc
    unfold maxLen at hmc'
    have hOI : ∀ x ∈ out, I64 x := fun x hx => HPB.out x (hmem.out x hx)
    by_cases hlt : i < out.length
    · have IO : Hid (Ints wr (some ⟨g, 0, none⟩) out.length out) := Lib.hid (hown.out.ints hOI)
      have ol := outAt_len hlt
      have HOM : Hid (∀ p ∈ outAt out i, 0 ≤ p ∧ p < n') := Lib.hid (fun p hp => HP.out p (hmem.out p (outAt_mem p hp)))
      have HOI : Hid (∀ x ∈ outAt out i, I64 x) := Lib.hid (fun x hx => hOI x (outAt_mem x hx))
      have HOL := Lib.hid ol; clear ol
      clear hOI
      have JR : Hid (Ints wr A' n' ws) := Lib.hid (HJ.out.below hbel.out)
      go_wp2_with fail
      refine (spec_without _ _ _ _ i _ out _ IO.out hlc hl hlt rfl).mono ?_
      rintro e w2 ⟨v2, hne2, rfl, hgr2, hb2⟩
      obtain ⟨g2, c2, rfl, hg2, og2, lc2, mc2, ig2⟩ := Grow.block hgr2 hne2 HOI.out
      have z2 := hb2.size
      have D2 := Lib.hid hb2
      have I2 := Lib.hid ig2
      have hlm : (outAt out i).length ≤ maxLen := by rw [HOL.out]; unfold maxLen; omega
      have HLM := Lib.hid hlm; clear hlm
      clear hb2 hgr2 hne2 ig2 og2
      go_wp2_with fail
      refine (spec_isCover _ _ _ _ _ _ a ws (outAt out i) _ (JR.out.below D2.out) I2.out hn' HLM.out HOM.out).mono ?_
      rintro e w3 ⟨rfl, rfl⟩
      by_cases hcv : a < sumW ws (outAt out i)
      · have ecv : decide (a < sumW ws (outAt out i)) = true := by simp [hcv]
        have NX := Lib.hid (mcov_yes hlt hmcv.out hcv)
        rw [ecv]
        clear hcv ecv
        go_wp2_with fail
        refine (spec_without _ _ _ _ i _ out _ (IO.out.below D2.out) hlc hl hlt rfl).mono ?_
        rintro e w4 ⟨v4, hne4, rfl, hgr4, hb4⟩
        obtain ⟨g4, c4, rfl, hg4, og4, lc4, mc4, ig4⟩ := Grow.block hgr4 hne4 HOI.out
        have O4 := Lib.hid og4
        have G4 : Hid (Below w.heap.size w w4) := Lib.hid (belT (belT hbel.out D2.out) hb4)
        have zr := hbel.out.size
        clear hb4 hgr4 hne4 ig4 og4
        go_wp2_with fail
        go_roundw
        case rel => exact ⟨i, g4, c4, outAt out i, rfl, lc4, mc4, rfl, by have := HOL.out; omega, by have := HOL.out; omega, by omega, O4, Lib.hid (fun x hx => hmem.out x (outAt_mem x hx)), NX, G4⟩
        case measure => have := HOL.out; simp [intOf, lenV]; omega
      · have ecv : decide (a < sumW ws (outAt out i)) = false := by simp [hcv]
        have NX := Lib.hid (mcov_no hlt hmcv.out hcv)
        rw [ecv]
        clear hcv ecv
        have G3 : Hid (Below w.heap.size w w2) := Lib.hid (belT hbel.out D2.out)
        go_wp2_with fail
        go_roundw
        case rel => exact ⟨i + 1, g, c, out, rfl, hlc, hmc, by go_num, by omega, hl, hg, Lib.hid (hown.out.below D2.out), hmem, NX, G3⟩
        case measure => simp [intOf, lenV]; omega
    · have E := Lib.hid (mcov_end (by omega) hmcv.out)
      go_wp2_with fail
      go_ret
      exact SliceEnd.pass E.out.symm (OwnS.of_own (hi := wr.heap.size) hown.out hg hown.out.1 hOI (by omega)) (Nat.le_refl _) (Nat.le_refl _) hbel.out

theorem cov_some {w : World} {A : Option Addr} {q : Nat} {ws ps : List Int} {a : Int} (h : isCov ws a ps = true) (hK : Ints w A q ps) : 0 < q := by
  simp only [isCov, Bool.and_eq_true, decide_eq_true_eq] at h
  have f := vWts_facts h.1
  rw [← hK.1]
  cases ps with
  | nil => have := h.2.2; rw [sumW_nil] at this; omega
  | cons p ps => simp
theorem cov_len {ws ps : List Int} {a : Int} (h : isCov ws a ps = true) : ps.length ≤ 10 ∧ ws.length ≤ 10 := by
  simp only [isCov, Bool.and_eq_true, decide_eq_true_eq] at h
  have f := vWts_facts h.1
  have := asc_len (asc_of h.2.1) (by omega)
  omega

set_option maxHeartbeats 4000000 in
set_option maxRecDepth 100000 in
theorem spec_MinimalCover (A' Q : Option Addr) (n' q c' d : Nat) (a : Int) (ws ps : List Int) (w : World) (hJ : Ints w A' n' ws) (hK : Ints w Q q ps) (hn' : n' ≤ maxLen) (hq : q ≤ maxLen) :
    Calls Try.prog 21 #[.slice A' n' c', .int .i64 a, .slice Q q d] w (SliceEnd (kMin ws a ps) w) := by
  have HJL := Lib.hid hJ.len
  have HKL := Lib.hid hK.len
  have HJ := Lib.hid hJ; clear hJ
  have HK := Lib.hid hK; clear hK
  cases h1 : isCov ws a ps
  · have E := Lib.hid (kMin_1 h1)
    go_enter Try.func21, Try.ntmps21
    go_wp2_with fail
    refine (spec_IsCover _ _ _ _ _ _ a ws ps _ (HJ.out.below (by (repeat' (first | (with_reducible exact Below.refl _ _) | (with_reducible refine belS ?_ (by first | omega | (simp; done) | (simp; omega) | (simp only [World.size_alloc, World.size_setCell, World.size_drew] at *; omega))) | (with_reducible refine belA ?_ (by first | omega | (simp; done) | (simp; omega) | (simp only [World.size_alloc, World.size_setCell, World.size_drew] at *; omega))) | (with_reducible refine bel_drewN ?_ _) | (with_reducible refine Below.drew ?_) | (with_reducible assumption) | (refine Hid.out ?_; with_reducible assumption) | (apply belV; (with_reducible assumption); exact (by first | omega | (simp; done) | (simp; omega) | (simp only [World.size_alloc, World.size_setCell, World.size_drew] at *; omega))))))) (HK.out.below (by (repeat' (first | (with_reducible exact Below.refl _ _) | (with_reducible refine belS ?_ (by first | omega | (simp; done) | (simp; omega) | (simp only [World.size_alloc, World.size_setCell, World.size_drew] at *; omega))) | (with_reducible refine belA ?_ (by first | omega | (simp; done) | (simp; omega) | (simp only [World.size_alloc, World.size_setCell, World.size_drew] at *; omega))) | (with_reducible refine bel_drewN ?_ _) | (with_reducible refine Below.drew ?_) | (with_reducible assumption) | (refine Hid.out ?_; with_reducible assumption) | (apply belV; (with_reducible assumption); exact (by first | omega | (simp; done) | (simp; omega) | (simp only [World.size_alloc, World.size_setCell, World.size_drew] at *; omega))))))) hn' hq).mono ?_
    rintro e w1 ⟨rfl, hb⟩
    have G1 : Hid (Below w.heap.size w w1) := belU hb (by (repeat' (first | (with_reducible exact Below.refl _ _) | (with_reducible refine belS ?_ (by first | omega | (simp; done) | (simp; omega) | (simp only [World.size_alloc, World.size_setCell, World.size_drew] at *; omega))) | (with_reducible refine belA ?_ (by first | omega | (simp; done) | (simp; omega) | (simp only [World.size_alloc, World.size_setCell, World.size_drew] at *; omega))) | (with_reducible refine bel_drewN ?_ _) | (with_reducible refine Below.drew ?_) | (with_reducible assumption) | (refine Hid.out ?_; with_reducible assumption) | (apply belV; (with_reducible assumption); exact (by first | omega | (simp; done) | (simp; omega) | (simp only [World.size_alloc, World.size_setCell, World.size_drew] at *; omega)))))) (by first | omega | (simp; done) | (simp; omega) | (simp only [World.size_alloc, World.size_setCell, World.size_drew] at *; omega))
    have z1 := hb.size
    (try simp at z1)
    have D1 := Lib.hid hb; clear hb
    go_wp2_with fail
    go_ret
    exact SliceEnd.nil E.out (by (repeat' (first | (with_reducible exact Below.refl _ _) | (with_reducible refine belS ?_ (by first | omega | (simp; done) | (simp; omega) | (simp only [World.size_alloc, World.size_setCell, World.size_drew] at *; omega))) | (with_reducible refine belA ?_ (by first | omega | (simp; done) | (simp; omega) | (simp only [World.size_alloc, World.size_setCell, World.size_drew] at *; omega))) | (with_reducible refine bel_drewN ?_ _) | (with_reducible refine Below.drew ?_) | (with_reducible assumption) | (refine Hid.out ?_; with_reducible assumption) | (apply belV; (with_reducible assumption); exact (by first | omega | (simp; done) | (simp; omega) | (simp only [World.size_alloc, World.size_setCell, World.size_drew] at *; omega))))))
  · have E := Lib.hid (kMin_2 h1)
    have hq0 := cov_some h1 HK.out
    obtain ⟨b, off, _, rfl, -, -, -, -, -⟩ := HK.out.at_ hq0
    have hql : q ≤ 1000 := by have := (cov_len h1).1; rw [HKL.out] at this; omega
    have HP : Hid (∀ p ∈ ps, 0 ≤ p ∧ p < n') := Lib.hid (fun p hp => by
      have h2 := h1
      simp only [isCov, Bool.and_eq_true] at h2
      have := asc_in h2.2.1 p hp
      rw [HJL.out] at this
      exact this)
    go_enter Try.func21, Try.ntmps21
    go_wp2_with fail
    refine (spec_IsCover _ _ _ _ _ _ a ws ps _ (HJ.out.below (by (repeat' (first | (with_reducible exact Below.refl _ _) | (with_reducible refine belS ?_ (by first | omega | (simp; done) | (simp; omega) | (simp only [World.size_alloc, World.size_setCell, World.size_drew] at *; omega))) | (with_reducible refine belA ?_ (by first | omega | (simp; done) | (simp; omega) | (simp only [World.size_alloc, World.size_setCell, World.size_drew] at *; omega))) | (with_reducible refine bel_drewN ?_ _) | (with_reducible refine Below.drew ?_) | (with_reducible assumption) | (refine Hid.out ?_; with_reducible assumption) | (apply belV; (with_reducible assumption); exact (by first | omega | (simp; done) | (simp; omega) | (simp only [World.size_alloc, World.size_setCell, World.size_drew] at *; omega))))))) (HK.out.below (by (repeat' (first | (with_reducible exact Below.refl _ _) | (with_reducible refine belS ?_ (by first | omega | (simp; done) | (simp; omega) | (simp only [World.size_alloc, World.size_setCell, World.size_drew] at *; omega))) | (with_reducible refine belA ?_ (by first | omega | (simp; done) | (simp; omega) | (simp only [World.size_alloc, World.size_setCell, World.size_drew] at *; omega))) | (with_reducible refine bel_drewN ?_ _) | (with_reducible refine Below.drew ?_) | (with_reducible assumption) | (refine Hid.out ?_; with_reducible assumption) | (apply belV; (with_reducible assumption); exact (by first | omega | (simp; done) | (simp; omega) | (simp only [World.size_alloc, World.size_setCell, World.size_drew] at *; omega))))))) hn' hq).mono ?_
    rintro e w1 ⟨rfl, hb⟩
    have G1 : Hid (Below w.heap.size w w1) := belU hb (by (repeat' (first | (with_reducible exact Below.refl _ _) | (with_reducible refine belS ?_ (by first | omega | (simp; done) | (simp; omega) | (simp only [World.size_alloc, World.size_setCell, World.size_drew] at *; omega))) | (with_reducible refine belA ?_ (by first | omega | (simp; done) | (simp; omega) | (simp only [World.size_alloc, World.size_setCell, World.size_drew] at *; omega))) | (with_reducible refine bel_drewN ?_ _) | (with_reducible refine Below.drew ?_) | (with_reducible assumption) | (refine Hid.out ?_; with_reducible assumption) | (apply belV; (with_reducible assumption); exact (by first | omega | (simp; done) | (simp; omega) | (simp only [World.size_alloc, World.size_setCell, World.size_drew] at *; omega)))))) (by first | omega | (simp; done) | (simp; omega) | (simp only [World.size_alloc, World.size_setCell, World.size_drew] at *; omega))
    have z1 := hb.size
    (try simp at z1)
    have D1 := Lib.hid hb; clear hb
    go_wp2_with fail
    refine (spec_minimalCover _ _ _ _ _ _ _ a ws ps _ (HJ.out.below (by (repeat' (first | (with_reducible exact Below.refl _ _) | (with_reducible refine belS ?_ (by first | omega | (simp; done) | (simp; omega) | (simp only [World.size_alloc, World.size_setCell, World.size_drew] at *; omega))) | (with_reducible refine belA ?_ (by first | omega | (simp; done) | (simp; omega) | (simp only [World.size_alloc, World.size_setCell, World.size_drew] at *; omega))) | (with_reducible refine bel_drewN ?_ _) | (with_reducible refine Below.drew ?_) | (with_reducible assumption) | (refine Hid.out ?_; with_reducible assumption) | (apply belV; (with_reducible assumption); exact (by first | omega | (simp; done) | (simp; omega) | (simp only [World.size_alloc, World.size_setCell, World.size_drew] at *; omega))))))) (HK.out.below (by (repeat' (first | (with_reducible exact Below.refl _ _) | (with_reducible refine belS ?_ (by first | omega | (simp; done) | (simp; omega) | (simp only [World.size_alloc, World.size_setCell, World.size_drew] at *; omega))) | (with_reducible refine belA ?_ (by first | omega | (simp; done) | (simp; omega) | (simp only [World.size_alloc, World.size_setCell, World.size_drew] at *; omega))) | (with_reducible refine bel_drewN ?_ _) | (with_reducible refine Below.drew ?_) | (with_reducible assumption) | (refine Hid.out ?_; with_reducible assumption) | (apply belV; (with_reducible assumption); exact (by first | omega | (simp; done) | (simp; omega) | (simp only [World.size_alloc, World.size_setCell, World.size_drew] at *; omega))))))) hn' hql HP.out).mono ?_
    rintro e w2 ⟨A1, c1, rfl, ho, hb⟩
    have G2 : Hid (Below w.heap.size w w2) := belU hb (by (repeat' (first | (with_reducible exact Below.refl _ _) | (with_reducible refine belS ?_ (by first | omega | (simp; done) | (simp; omega) | (simp only [World.size_alloc, World.size_setCell, World.size_drew] at *; omega))) | (with_reducible refine belA ?_ (by first | omega | (simp; done) | (simp; omega) | (simp only [World.size_alloc, World.size_setCell, World.size_drew] at *; omega))) | (with_reducible refine bel_drewN ?_ _) | (with_reducible refine Below.drew ?_) | (with_reducible assumption) | (refine Hid.out ?_; with_reducible assumption) | (apply belV; (with_reducible assumption); exact (by first | omega | (simp; done) | (simp; omega) | (simp only [World.size_alloc, World.size_setCell, World.size_drew] at *; omega)))))) (by first | omega | (simp; done) | (simp; omega) | (simp only [World.size_alloc, World.size_setCell, World.size_drew] at *; omega))
    (try simp only [World.size_alloc, World.size_setCell, World.size_drew, World.heap_drewN] at ho)
    have W1 := Lib.hid ho; clear ho
    have z2 := hb.size
    (try simp at z2)
    have D2 := Lib.hid hb; clear hb
    go_wp2_with fail
    go_ret
    exact SliceEnd.pass E.out W1.out z1 (Nat.le_refl _) (by (repeat' (first | (with_reducible exact Below.refl _ _) | (with_reducible refine belS ?_ (by first | omega | (simp; done) | (simp; omega) | (simp only [World.size_alloc, World.size_setCell, World.size_drew] at *; omega))) | (with_reducible refine belA ?_ (by first | omega | (simp; done) | (simp; omega) | (simp only [World.size_alloc, World.size_setCell, World.size_drew] at *; omega))) | (with_reducible refine bel_drewN ?_ _) | (with_reducible refine Below.drew ?_) | (with_reducible assumption) | (refine Hid.out ?_; with_reducible assumption) | (apply belV; (with_reducible assumption); exact (by first | omega | (simp; done) | (simp; omega) | (simp only [World.size_alloc, World.size_setCell, World.size_drew] at *; omega))))))
end Go.Proofs.Ytfidahpaidkhgab
