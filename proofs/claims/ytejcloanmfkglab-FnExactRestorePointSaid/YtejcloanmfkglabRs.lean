
/-
  Restored points.
-/
import Derived.Test.YtejcloanmfkglabRq
import Derived.Test.YtejcloanmfkglabRd
set_option linter.unusedSimpArgs false
set_option linter.unusedVariables false
namespace Go.Proofs.Ytejcloanmfkglab
open Go.RowKit

def keptAt (b : PBox) (j : Nat) : Nat := ((kept b).getD j 0).toNat
def resK (b : PBox) (ys : List Int) : Nat → List Int
  | 0 => b.low
  | j + 1 => (resK b ys j).set (keptAt b j) ((resK b ys j).getD (keptAt b j) 0 + ys.getD j 0)
def resOk (b : PBox) (ys : List Int) (j : Nat) : Bool := inB (ys.getD j 0) 0 (widAt b (keptAt b j))
def resB (p : PProb) (b : PBox) (ys : List Int) : Bool := vBox p b && (decide (ys.length = (kept b).length) && (List.range ys.length).all (resOk b ys))
def resL (p : PProb) (b : PBox) (ys : List Int) : List Int := if resB p b ys then resK b ys ys.length else []
theorem res_1 {p : PProb} {b : PBox} {ys : List Int} (h : vBox p b = false) : resB p b ys = false ∧ resL p b ys = [] := by simp [resB, resL, h]
theorem res_2 {p : PProb} {b : PBox} {ys : List Int} (h : ¬ ys.length = (kept b).length) : resB p b ys = false ∧ resL p b ys = [] := by simp [resB, resL, h]
theorem res_3 {p : PProb} {b : PBox} {ys : List Int} (h : (List.range ys.length).all (resOk b ys) = false) : resB p b ys = false ∧ resL p b ys = [] := by simp [resB, resL, h]
theorem res_4 {p : PProb} {b : PBox} {ys : List Int} (h1 : vBox p b = true) (h2 : ys.length = (kept b).length) (h : (List.range ys.length).all (resOk b ys) = true) : resB p b ys = true ∧ resL p b ys = resK b ys ys.length := by
  have : resB p b ys = true := by simp [resB, h1, h2, h2 ▸ h]
  exact ⟨this, by simp [resL, this]⟩
theorem resK_len (b : PBox) (ys : List Int) (j : Nat) : (resK b ys j).length = b.low.length := by
  induction j with
  | zero => rfl
  | succ j ih => simp [resK, ih]
theorem kept_lt {b : PBox} {j : Nat} (h : j < (kept b).length) : (kept b)[j]? = some (keptAt b j : Int) ∧ keptAt b j < b.low.length := by
  have e := List.getElem?_eq_getElem h
  have hm := idxs_mem (p := opn b) (k := b.low.length) _ (List.getElem_mem h)
  have ek : (kept b).getD j 0 = (kept b)[j] := by simp [List.getD_eq_getElem?_getD, h]
  unfold keptAt
  rw [ek, e]
  exact ⟨by congr 1; exact (Int.toNat_of_nonneg hm.1).symm, by have := hm.1; have := hm.2; omega⟩
theorem SmB.widle {b : PBox} (hs : SmB b) (i : Nat) : widAt b i ≤ 1000 := by
  unfold widAt
  by_cases h : i < b.low.length
  · have h' : i < b.high.length := by have := hs.len; omega
    have a := hs.lo (List.getElem?_eq_getElem h)
    have c := hs.hi (List.getElem?_eq_getElem h')
    simp [List.getD_eq_getElem?_getD, h, h']; omega
  · have h' : ¬ i < b.high.length := by have := hs.len; omega
    simp [List.getD_eq_getElem?_getD, h, h']
theorem resK_bd {b : PBox} {ys : List Int} (hs : SmB b) (j : Nat) (hj : j ≤ 5) (hok : ∀ i, i < j → resOk b ys i = true) : ∀ x ∈ resK b ys j, 0 ≤ x ∧ x ≤ 1000 + 1000 * (j : Int) := by
  have hw := hs.widle
  induction j with
  | zero => intro x hx; have := hs.2.2.1 x hx; omega
  | succ j ih =>
    have ih' := ih (by omega) (fun i hi => hok i (by omega))
    have ho := inB_iff.1 (hok j (by omega))
    have hwj := hw (keptAt b j)
    have hg : 0 ≤ (resK b ys j).getD (keptAt b j) 0 ∧ (resK b ys j).getD (keptAt b j) 0 ≤ 1000 + 1000 * (j : Int) := by
      by_cases h : keptAt b j < (resK b ys j).length
      · have := ih' _ (List.getElem_mem h)
        simpa [List.getD_eq_getElem?_getD, h] using this
      · simp [List.getD_eq_getElem?_getD, h]; omega
    intro x hx
    rw [resK] at hx
    rcases List.mem_or_eq_of_mem_set hx with h | h
    · have := ih' x h; omega
    · omega
theorem SmB.of_valid {p : PProb} {b : PBox} (h : vBox p b = true) : SmB b := by
  obtain ⟨h1, h2, h3⟩ := vBox_parts h
  obtain ⟨l0, l1, l2⟩ := vBox_lens h
  have hv := h1
  simp only [vProb, Bool.and_eq_true, List.all_eq_true] at hv
  have hu := vInts_in hv.2.2.2.1.2
  have h5 := inB_iff.1 hv.1
  refine ⟨by omega, by omega, fun x hx => ?_, fun x hx => ?_⟩
  · have := isPt_in h2 hu x hx; omega
  · have := isPt_in h3 hu x hx; omega
theorem vBox_pos {p : PProb} {b : PBox} (h : vBox p b = true) : 0 < b.low.length := by
  obtain ⟨h1, _, _⟩ := vBox_parts h
  obtain ⟨l0, l1, _⟩ := vBox_lens h
  simp only [vProb, Bool.and_eq_true] at h1
  have := inB_iff.1 h1.1
  omega
/-- Two answers: a slice of the call's own and a bool. -/
def PairEnd (L : List Int) (ok : Bool) (w : World) (e : Ending) (w' : World) : Prop :=
  ∃ (A : Option Addr) (c : Nat), e = .returned (.tuple #[.slice A L.length c, .bool ok]) ∧ OwnS w' w.heap.size w'.heap.size A L ∧ Below w.heap.size w w'
theorem PairEnd.nil {L : List Int} {ok : Bool} {w w' : World} (h : ok = false ∧ L = []) (hb : Below w.heap.size w w') : PairEnd L ok w (.returned (.tuple #[.slice none 0 0, .bool false])) w' := by
  obtain ⟨rfl, rfl⟩ := h; exact ⟨none, 0, rfl, OwnS.nil _ _ _ _, hb⟩

theorem PairEnd.own {p : PProb} {b : PBox} {ys : List Int} {w w' : World} {g c m : Nat} (E : resB p b ys = true ∧ resL p b ys = resK b ys ys.length) (hl : ys.length = m) (ho : OwnI w' g (resK b ys m)) (h1 : w.heap.size ≤ g) (h2 : g < w'.heap.size)
    (hr : ∀ x ∈ resK b ys m, I64 x) (h5 : b.low.length ≤ 1048576) (hb : Below w.heap.size w w') : PairEnd (resL p b ys) (resB p b ys) w (.returned (.tuple #[.slice (some ⟨g, 0, none⟩) b.low.length c, .bool true])) w' := by
  obtain ⟨E1, E2⟩ := E
  subst hl
  rw [E1, E2]
  exact ⟨_, c, by rw [resK_len], OwnS.of_own ho h1 h2 hr (by rw [resK_len]; exact h5), hb⟩
theorem resK_I {b : PBox} {ys : List Int} (hs : SmB b) (j : Nat) (hj : j ≤ 5) (hok : ∀ i, i < j → resOk b ys i = true) : ∀ x ∈ resK b ys j, I64 x := fun x hx => by
  have := resK_bd hs j hj hok x hx
  exact ⟨by omega, by omega⟩
theorem OwnS.blk {w : World} {lo hi : Nat} {A : Option Addr} {xs : List Int} (h : OwnS w lo hi A xs) (hn : 0 < xs.length) : ∃ g, A = some ⟨g, 0, none⟩ ∧ lo ≤ g ∧ g < hi ∧ OwnI w g xs := by
  rcases h.1 with h0 | h0
  · subst h0; simp at hn
  · exact h0
def CutR (Y : Array Value) (b : PBox) (w : World) (s8 s9 : Value) (wx : World) : Prop :=
  ∃ (K W : Option Addr) (dk dw : Nat), s8 = .slice K (kept b).length dk ∧ s9 = .slice W (wid b).length dw ∧ Ints wx K (kept b).length (kept b) ∧ Ints wx W (wid b).length (wid b) ∧ w.heap.size + 1 < wx.heap.size ∧ Box wx (w.heap.size + 1) Y ∧ Below w.heap.size w wx

set_option maxHeartbeats 2000000 in
set_option maxRecDepth 100000 in
theorem impl_RestorePoint (A0 A1 A2 A : Option Addr) (l0 : Nat) (B1 : Option Addr) (c0 c1 c2 d0 d1 n c : Nat) (p : PProb) (b : PBox) (ys : List Int) (w : World) (hp : ProbV w A0 A1 A2 c0 c1 c2 p) (hb : BoxV w (some ⟨l0, 0, none⟩) B1 d0 d1 b) (hy : Ints w A n ys) (hn : n ≤ maxLen) :
    Calls Try.prog 51 #[.agg #[.slice A0 p.costs.length c0, .slice A1 p.uppers.length c1, .slice A2 p.rows.length c2], .agg #[.slice (some ⟨l0, 0, none⟩) b.low.length d0, .slice B1 b.high.length d1], .slice A n c] w (PairEnd (resL p b ys) (resB p b ys) w) := by
  have HP := Lib.hid hp; clear hp
  have HB := Lib.hid hb; clear hb
  have hyl := hy.len
  have HY := Lib.hid hy; clear hy
  have HL := Lib.hid hyl; clear hyl
  cases h1 : vBox p b
  · have E := Lib.hid (res_1 (ys := ys) h1)
    go_enter Try.func51, Try.ntmps51
    go_wp2_with fail
    refine (impl_ValidBox _ _ _ _ _ _ _ _ _ _ p b _ (HP.out.below (by (repeat' (first | (with_reducible exact Below.refl _ _) | (with_reducible refine belS ?_ (by first | omega | (simp; done) | (simp; omega) | (simp only [World.size_alloc, World.size_setCell, World.size_drew] at *; omega))) | (with_reducible refine belA ?_ (by first | omega | (simp; done) | (simp; omega) | (simp only [World.size_alloc, World.size_setCell, World.size_drew] at *; omega))) | (with_reducible refine bel_drewN ?_ _) | (with_reducible refine Below.drew ?_) | (with_reducible assumption) | (refine Hid.out ?_; with_reducible assumption) | (apply belV; (with_reducible assumption); exact (by first | omega | (simp; done) | (simp; omega) | (simp only [World.size_alloc, World.size_setCell, World.size_drew] at *; omega))))))) (HB.out.below (by (repeat' (first | (with_reducible exact Below.refl _ _) | (with_reducible refine belS ?_ (by first | omega | (simp; done) | (simp; omega) | (simp only [World.size_alloc, World.size_setCell, World.size_drew] at *; omega))) | (with_reducible refine belA ?_ (by first | omega | (simp; done) | (simp; omega) | (simp only [World.size_alloc, World.size_setCell, World.size_drew] at *; omega))) | (with_reducible refine bel_drewN ?_ _) | (with_reducible refine Below.drew ?_) | (with_reducible assumption) | (refine Hid.out ?_; with_reducible assumption) | (apply belV; (with_reducible assumption); exact (by first | omega | (simp; done) | (simp; omega) | (simp only [World.size_alloc, World.size_setCell, World.size_drew] at *; omega)))))))).mono ?_
    rintro e w1 ⟨rfl, hb⟩
    have G1 : Hid (Below w.heap.size w w1) := belU hb (by (repeat' (first | (with_reducible exact Below.refl _ _) | (with_reducible refine belS ?_ (by first | omega | (simp; done) | (simp; omega) | (simp only [World.size_alloc, World.size_setCell, World.size_drew] at *; omega))) | (with_reducible refine belA ?_ (by first | omega | (simp; done) | (simp; omega) | (simp only [World.size_alloc, World.size_setCell, World.size_drew] at *; omega))) | (with_reducible refine bel_drewN ?_ _) | (with_reducible refine Below.drew ?_) | (with_reducible assumption) | (refine Hid.out ?_; with_reducible assumption) | (apply belV; (with_reducible assumption); exact (by first | omega | (simp; done) | (simp; omega) | (simp only [World.size_alloc, World.size_setCell, World.size_drew] at *; omega)))))) (by first | omega | (simp; done) | (simp; omega) | (simp only [World.size_alloc, World.size_setCell, World.size_drew] at *; omega))
    have X_1 : Hid (Box w1 (w.heap.size) #[.slice A0 p.costs.length c0, .slice A1 p.uppers.length c1, .slice A2 p.rows.length c2]) := Lib.hid (Box.below (by (repeat' (first | (with_reducible exact Box.new _ _ _ (by first | omega | (simp; done) | (simp; omega) | (simp only [World.size_alloc, World.size_setCell, World.size_drew] at *; omega))) | (with_reducible refine Box.far ?_ (by first | omega | (simp; done) | (simp; omega) | (simp only [World.size_alloc, World.size_setCell, World.size_drew] at *; omega)) _) | (with_reducible refine Box.alloc ?_ _) | (with_reducible refine Box.drewN ?_ _) | (with_reducible refine Box.drew ?_) | (with_reducible assumption) | (refine Hid.out ?_; with_reducible assumption) | (apply Box.belowD; (with_reducible assumption))))) hb)
    have yX_1 : w.heap.size < w1.heap.size := X_1.out.1
    obtain ⟨X_1c0, X_1c1, X_1c2⟩ := Box.facts3 X_1.out
    have Y_1 : Hid (Box w1 (w.heap.size + 1) #[.slice (some ⟨l0, 0, none⟩) b.low.length d0, .slice B1 b.high.length d1]) := Lib.hid (Box.below (by (repeat' (first | (with_reducible exact Box.new _ _ _ (by first | omega | (simp; done) | (simp; omega) | (simp only [World.size_alloc, World.size_setCell, World.size_drew] at *; omega))) | (with_reducible refine Box.far ?_ (by first | omega | (simp; done) | (simp; omega) | (simp only [World.size_alloc, World.size_setCell, World.size_drew] at *; omega)) _) | (with_reducible refine Box.alloc ?_ _) | (with_reducible refine Box.drewN ?_ _) | (with_reducible refine Box.drew ?_) | (with_reducible assumption) | (refine Hid.out ?_; with_reducible assumption) | (apply Box.belowD; (with_reducible assumption))))) hb)
    have yY_1 : w.heap.size + 1 < w1.heap.size := Y_1.out.1
    obtain ⟨Y_1c0, Y_1c1⟩ := Box.facts2 Y_1.out
    have z1 := hb.size
    (try simp at z1)
    have D1 := Lib.hid hb; clear hb
    go_wp2_with fail
    go_ret2
    exact PairEnd.nil E.out (by (repeat' (first | (with_reducible exact Below.refl _ _) | (with_reducible refine belS ?_ (by first | omega | (simp; done) | (simp; omega) | (simp only [World.size_alloc, World.size_setCell, World.size_drew] at *; omega))) | (with_reducible refine belA ?_ (by first | omega | (simp; done) | (simp; omega) | (simp only [World.size_alloc, World.size_setCell, World.size_drew] at *; omega))) | (with_reducible refine bel_drewN ?_ _) | (with_reducible refine Below.drew ?_) | (with_reducible assumption) | (refine Hid.out ?_; with_reducible assumption) | (apply belV; (with_reducible assumption); exact (by first | omega | (simp; done) | (simp; omega) | (simp only [World.size_alloc, World.size_setCell, World.size_drew] at *; omega))))))
  have HS := Lib.hid (SmB.of_valid h1)
  have h5 := HS.out.five
  go_enter Try.func51, Try.ntmps51
  go_wp2_with fail
  refine (impl_ValidBox _ _ _ _ _ _ _ _ _ _ p b _ (HP.out.below (by (repeat' (first | (with_reducible exact Below.refl _ _) | (with_reducible refine belS ?_ (by first | omega | (simp; done) | (simp; omega) | (simp only [World.size_alloc, World.size_setCell, World.size_drew] at *; omega))) | (with_reducible refine belA ?_ (by first | omega | (simp; done) | (simp; omega) | (simp only [World.size_alloc, World.size_setCell, World.size_drew] at *; omega))) | (with_reducible refine bel_drewN ?_ _) | (with_reducible refine Below.drew ?_) | (with_reducible assumption) | (refine Hid.out ?_; with_reducible assumption) | (apply belV; (with_reducible assumption); exact (by first | omega | (simp; done) | (simp; omega) | (simp only [World.size_alloc, World.size_setCell, World.size_drew] at *; omega))))))) (HB.out.below (by (repeat' (first | (with_reducible exact Below.refl _ _) | (with_reducible refine belS ?_ (by first | omega | (simp; done) | (simp; omega) | (simp only [World.size_alloc, World.size_setCell, World.size_drew] at *; omega))) | (with_reducible refine belA ?_ (by first | omega | (simp; done) | (simp; omega) | (simp only [World.size_alloc, World.size_setCell, World.size_drew] at *; omega))) | (with_reducible refine bel_drewN ?_ _) | (with_reducible refine Below.drew ?_) | (with_reducible assumption) | (refine Hid.out ?_; with_reducible assumption) | (apply belV; (with_reducible assumption); exact (by first | omega | (simp; done) | (simp; omega) | (simp only [World.size_alloc, World.size_setCell, World.size_drew] at *; omega)))))))).mono ?_
  rintro e w1 ⟨rfl, hb⟩
  have G1 : Hid (Below w.heap.size w w1) := belU hb (by (repeat' (first | (with_reducible exact Below.refl _ _) | (with_reducible refine belS ?_ (by first | omega | (simp; done) | (simp; omega) | (simp only [World.size_alloc, World.size_setCell, World.size_drew] at *; omega))) | (with_reducible refine belA ?_ (by first | omega | (simp; done) | (simp; omega) | (simp only [World.size_alloc, World.size_setCell, World.size_drew] at *; omega))) | (with_reducible refine bel_drewN ?_ _) | (with_reducible refine Below.drew ?_) | (with_reducible assumption) | (refine Hid.out ?_; with_reducible assumption) | (apply belV; (with_reducible assumption); exact (by first | omega | (simp; done) | (simp; omega) | (simp only [World.size_alloc, World.size_setCell, World.size_drew] at *; omega)))))) (by first | omega | (simp; done) | (simp; omega) | (simp only [World.size_alloc, World.size_setCell, World.size_drew] at *; omega))
  have X_1 : Hid (Box w1 (w.heap.size) #[.slice A0 p.costs.length c0, .slice A1 p.uppers.length c1, .slice A2 p.rows.length c2]) := Lib.hid (Box.below (by (repeat' (first | (with_reducible exact Box.new _ _ _ (by first | omega | (simp; done) | (simp; omega) | (simp only [World.size_alloc, World.size_setCell, World.size_drew] at *; omega))) | (with_reducible refine Box.far ?_ (by first | omega | (simp; done) | (simp; omega) | (simp only [World.size_alloc, World.size_setCell, World.size_drew] at *; omega)) _) | (with_reducible refine Box.alloc ?_ _) | (with_reducible refine Box.drewN ?_ _) | (with_reducible refine Box.drew ?_) | (with_reducible assumption) | (refine Hid.out ?_; with_reducible assumption) | (apply Box.belowD; (with_reducible assumption))))) hb)
  have yX_1 : w.heap.size < w1.heap.size := X_1.out.1
  obtain ⟨X_1c0, X_1c1, X_1c2⟩ := Box.facts3 X_1.out
  have Y_1 : Hid (Box w1 (w.heap.size + 1) #[.slice (some ⟨l0, 0, none⟩) b.low.length d0, .slice B1 b.high.length d1]) := Lib.hid (Box.below (by (repeat' (first | (with_reducible exact Box.new _ _ _ (by first | omega | (simp; done) | (simp; omega) | (simp only [World.size_alloc, World.size_setCell, World.size_drew] at *; omega))) | (with_reducible refine Box.far ?_ (by first | omega | (simp; done) | (simp; omega) | (simp only [World.size_alloc, World.size_setCell, World.size_drew] at *; omega)) _) | (with_reducible refine Box.alloc ?_ _) | (with_reducible refine Box.drewN ?_ _) | (with_reducible refine Box.drew ?_) | (with_reducible assumption) | (refine Hid.out ?_; with_reducible assumption) | (apply Box.belowD; (with_reducible assumption))))) hb)
  have yY_1 : w.heap.size + 1 < w1.heap.size := Y_1.out.1
  obtain ⟨Y_1c0, Y_1c1⟩ := Box.facts2 Y_1.out
  have z1 := hb.size
  (try simp at z1)
  have D1 := Lib.hid hb; clear hb
  go_upto_region 3 with fail
  go_cut [8, 9] (fun s8 s9 wx => CutR #[.slice (some ⟨l0, 0, none⟩) b.low.length d0, .slice B1 b.high.length d1] b w s8 s9 wx)
  case first =>
    go_region_held3 (fun w' => w'.cell? ⟨w.heap.size + 1, 0, none⟩ = some (.slice (some ⟨l0, 0, none⟩) b.low.length d0) ∧ w'.cell? ⟨w.heap.size + 1, 1, none⟩ = some (.slice B1 b.high.length d1)) (first | exact ⟨by assumption, by assumption⟩ | (refine (fun (h0 : Box _ (w.heap.size + 1) #[.slice (some ⟨l0, 0, none⟩) b.low.length d0, .slice B1 b.high.length d1]) => ⟨h0.at 0 rfl, h0.at 1 rfl⟩) ?_ <;> (repeat' (first | (with_reducible exact Box.new _ _ _ (by first | omega | (simp; done) | (simp; omega) | (simp only [World.size_alloc, World.size_setCell, World.size_drew] at *; omega))) | (with_reducible refine Box.far ?_ (by first | omega | (simp; done) | (simp; omega) | (simp only [World.size_alloc, World.size_setCell, World.size_drew] at *; omega)) _) | (with_reducible refine Box.alloc ?_ _) | (with_reducible refine Box.drewN ?_ _) | (with_reducible refine Box.drew ?_) | (with_reducible assumption) | (refine Hid.out ?_; with_reducible assumption) | (apply Box.belowD; (with_reducible assumption))))))
      ((first
        | (go_at_call 89; refine (impl_openVars _ _ _ _ b _ (HB.out.below (by (repeat' (first | (with_reducible exact Below.refl _ _) | (with_reducible refine belS ?_ (by first | omega | (simp; done) | (simp; omega) | (simp only [World.size_alloc, World.size_setCell, World.size_drew] at *; omega))) | (with_reducible refine belA ?_ (by first | omega | (simp; done) | (simp; omega) | (simp only [World.size_alloc, World.size_setCell, World.size_drew] at *; omega))) | (with_reducible refine bel_drewN ?_ _) | (with_reducible refine Below.drew ?_) | (with_reducible assumption) | (refine Hid.out ?_; with_reducible assumption) | (apply belV; (with_reducible assumption); exact (by first | omega | (simp; done) | (simp; omega) | (simp only [World.size_alloc, World.size_setCell, World.size_drew] at *; omega))))))) HS.out).mono ?_; rintro e w2 ⟨K, dk, rfl, ho, hb⟩; have G2 : Hid (Below w.heap.size w w2) := belU hb (by (repeat' (first | (with_reducible exact Below.refl _ _) | (with_reducible refine belS ?_ (by first | omega | (simp; done) | (simp; omega) | (simp only [World.size_alloc, World.size_setCell, World.size_drew] at *; omega))) | (with_reducible refine belA ?_ (by first | omega | (simp; done) | (simp; omega) | (simp only [World.size_alloc, World.size_setCell, World.size_drew] at *; omega))) | (with_reducible refine bel_drewN ?_ _) | (with_reducible refine Below.drew ?_) | (with_reducible assumption) | (refine Hid.out ?_; with_reducible assumption) | (apply belV; (with_reducible assumption); exact (by first | omega | (simp; done) | (simp; omega) | (simp only [World.size_alloc, World.size_setCell, World.size_drew] at *; omega)))))) (by first | omega | (simp; done) | (simp; omega) | (simp only [World.size_alloc, World.size_setCell, World.size_drew] at *; omega)); (try simp only [World.size_alloc, World.size_setCell, World.size_drew, World.heap_drewN] at ho); have W2 := Lib.hid ho; clear ho; have Y_2 : Hid (Box w2 (w.heap.size + 1) #[.slice (some ⟨l0, 0, none⟩) b.low.length d0, .slice B1 b.high.length d1]) := Lib.hid (Box.below (by (repeat' (first | (with_reducible exact Box.new _ _ _ (by first | omega | (simp; done) | (simp; omega) | (simp only [World.size_alloc, World.size_setCell, World.size_drew] at *; omega))) | (with_reducible refine Box.far ?_ (by first | omega | (simp; done) | (simp; omega) | (simp only [World.size_alloc, World.size_setCell, World.size_drew] at *; omega)) _) | (with_reducible refine Box.alloc ?_ _) | (with_reducible refine Box.drewN ?_ _) | (with_reducible refine Box.drew ?_) | (with_reducible assumption) | (refine Hid.out ?_; with_reducible assumption) | (apply Box.belowD; (with_reducible assumption))))) hb); have yY_2 : w.heap.size + 1 < w2.heap.size := Y_2.out.1; obtain ⟨Y_2c0, Y_2c1⟩ := Box.facts2 Y_2.out; have z2 := hb.size; (try simp at z2); obtain ⟨hc2, hf2⟩ := bcell hb; (try have yv2_w1 : w1.heap.size < w2.heap.size := by omega); have D2 := Lib.hid hb; clear hb)
        | (go_at_call 90; refine (impl_widths _ _ _ _ b _ (HB.out.below (by (repeat' (first | (with_reducible exact Below.refl _ _) | (with_reducible refine belS ?_ (by first | omega | (simp; done) | (simp; omega) | (simp only [World.size_alloc, World.size_setCell, World.size_drew] at *; omega))) | (with_reducible refine belA ?_ (by first | omega | (simp; done) | (simp; omega) | (simp only [World.size_alloc, World.size_setCell, World.size_drew] at *; omega))) | (with_reducible refine bel_drewN ?_ _) | (with_reducible refine Below.drew ?_) | (with_reducible assumption) | (refine Hid.out ?_; with_reducible assumption) | (apply belV; (with_reducible assumption); exact (by first | omega | (simp; done) | (simp; omega) | (simp only [World.size_alloc, World.size_setCell, World.size_drew] at *; omega))))))) HS.out).mono ?_; rintro e w3 ⟨V, dv, rfl, ho, hb⟩; have G3 : Hid (Below w.heap.size w w3) := belU hb (by (repeat' (first | (with_reducible exact Below.refl _ _) | (with_reducible refine belS ?_ (by first | omega | (simp; done) | (simp; omega) | (simp only [World.size_alloc, World.size_setCell, World.size_drew] at *; omega))) | (with_reducible refine belA ?_ (by first | omega | (simp; done) | (simp; omega) | (simp only [World.size_alloc, World.size_setCell, World.size_drew] at *; omega))) | (with_reducible refine bel_drewN ?_ _) | (with_reducible refine Below.drew ?_) | (with_reducible assumption) | (refine Hid.out ?_; with_reducible assumption) | (apply belV; (with_reducible assumption); exact (by first | omega | (simp; done) | (simp; omega) | (simp only [World.size_alloc, World.size_setCell, World.size_drew] at *; omega)))))) (by first | omega | (simp; done) | (simp; omega) | (simp only [World.size_alloc, World.size_setCell, World.size_drew] at *; omega)); (try simp only [World.size_alloc, World.size_setCell, World.size_drew, World.heap_drewN] at ho); have W3 := Lib.hid ho; clear ho; have Y_3 : Hid (Box w3 (w.heap.size + 1) #[.slice (some ⟨l0, 0, none⟩) b.low.length d0, .slice B1 b.high.length d1]) := Lib.hid (Box.below (by (repeat' (first | (with_reducible exact Box.new _ _ _ (by first | omega | (simp; done) | (simp; omega) | (simp only [World.size_alloc, World.size_setCell, World.size_drew] at *; omega))) | (with_reducible refine Box.far ?_ (by first | omega | (simp; done) | (simp; omega) | (simp only [World.size_alloc, World.size_setCell, World.size_drew] at *; omega)) _) | (with_reducible refine Box.alloc ?_ _) | (with_reducible refine Box.drewN ?_ _) | (with_reducible refine Box.drew ?_) | (with_reducible assumption) | (refine Hid.out ?_; with_reducible assumption) | (apply Box.belowD; (with_reducible assumption))))) hb); have yY_3 : w.heap.size + 1 < w3.heap.size := Y_3.out.1; obtain ⟨Y_3c0, Y_3c1⟩ := Box.facts2 Y_3.out; have z3 := hb.size; (try simp at z3); obtain ⟨hc3, hf3⟩ := bcell hb; (try have yv3_w1 : w1.heap.size < w3.heap.size := by omega); (try have yv3_w2 : w2.heap.size < w3.heap.size := by omega); have D3 := Lib.hid hb; clear hb)))
    all_goals
      go_wp2_with fail
      go_meet
      refine ⟨K, V, dk, dv, rfl, rfl, OwnS.ints (OwnS.by_ W2 (by (repeat' (first | (with_reducible exact OwnS.madeAt _ _ _ (by first | omega | (simp; done) | (simp; omega) | (simp only [World.size_alloc, World.size_setCell, World.size_drew] at *; omega))) | (with_reducible refine OwnS.far ?_ (by first | omega | (simp; done) | (simp; omega) | (simp only [World.size_alloc, World.size_setCell, World.size_drew] at *; omega)) _) | (with_reducible refine OwnS.alloc ?_ _) | (with_reducible refine OwnS.drewN ?_ _) | (with_reducible refine OwnS.drew ?_) | (with_reducible assumption) | (refine Hid.out ?_; with_reducible assumption) | (apply OwnS.turn; (with_reducible assumption); exact (by first | omega | (simp; done) | (simp; omega) | (simp only [World.size_alloc, World.size_setCell, World.size_drew] at *; omega))) | (apply OwnS.belowD; (with_reducible assumption)))))), OwnS.ints (OwnS.by_ W3 (by (repeat' (first | (with_reducible exact OwnS.madeAt _ _ _ (by first | omega | (simp; done) | (simp; omega) | (simp only [World.size_alloc, World.size_setCell, World.size_drew] at *; omega))) | (with_reducible refine OwnS.far ?_ (by first | omega | (simp; done) | (simp; omega) | (simp only [World.size_alloc, World.size_setCell, World.size_drew] at *; omega)) _) | (with_reducible refine OwnS.alloc ?_ _) | (with_reducible refine OwnS.drewN ?_ _) | (with_reducible refine OwnS.drew ?_) | (with_reducible assumption) | (refine Hid.out ?_; with_reducible assumption) | (apply OwnS.turn; (with_reducible assumption); exact (by first | omega | (simp; done) | (simp; omega) | (simp only [World.size_alloc, World.size_setCell, World.size_drew] at *; omega))) | (apply OwnS.belowD; (with_reducible assumption)))))), ?_, ?_, ?_⟩
      · exact (by first | omega | (simp; done) | (simp; omega) | (simp only [World.size_alloc, World.size_setCell, World.size_drew] at *; omega))
      · (repeat' (first | (with_reducible exact Box.new _ _ _ (by first | omega | (simp; done) | (simp; omega) | (simp only [World.size_alloc, World.size_setCell, World.size_drew] at *; omega))) | (with_reducible refine Box.far ?_ (by first | omega | (simp; done) | (simp; omega) | (simp only [World.size_alloc, World.size_setCell, World.size_drew] at *; omega)) _) | (with_reducible refine Box.alloc ?_ _) | (with_reducible refine Box.drewN ?_ _) | (with_reducible refine Box.drew ?_) | (with_reducible assumption) | (refine Hid.out ?_; with_reducible assumption) | (apply Box.belowD; (with_reducible assumption))))
      · (repeat' (first | (with_reducible exact Below.refl _ _) | (with_reducible refine belS ?_ (by first | omega | (simp; done) | (simp; omega) | (simp only [World.size_alloc, World.size_setCell, World.size_drew] at *; omega))) | (with_reducible refine belA ?_ (by first | omega | (simp; done) | (simp; omega) | (simp only [World.size_alloc, World.size_setCell, World.size_drew] at *; omega))) | (with_reducible refine bel_drewN ?_ _) | (with_reducible refine Below.drew ?_) | (with_reducible assumption) | (refine Hid.out ?_; with_reducible assumption) | (apply belV; (with_reducible assumption); exact (by first | omega | (simp; done) | (simp; omega) | (simp only [World.size_alloc, World.size_setCell, World.size_drew] at *; omega)))))
  case rest =>
    obtain ⟨K, V, dk, dv, rfl, rfl, ik, iv, zx, by0, hbx⟩ := hcut
    have IK := Lib.hid ik; clear ik
    have IV := Lib.hid iv; clear iv
    have HBX := Lib.hid hbx; clear hbx
    obtain ⟨y0, y1⟩ := Box.facts2 by0
    clear by0
    by_cases hln : ys.length = (kept b).length
    rotate_left
    · have E := Lib.hid (res_2 (p := p) hln)
      have hne : ((n : Int) != ((kept b).length : Int)) = true := by have := HL.out; simp; omega
      clear hln
      go_wp2_with fail
      go_ret2
      exact PairEnd.nil E.out (by (repeat' (first | (with_reducible exact Below.refl _ _) | (with_reducible refine belS ?_ (by first | omega | (simp; done) | (simp; omega) | (simp only [World.size_alloc, World.size_setCell, World.size_drew] at *; omega))) | (with_reducible refine belA ?_ (by first | omega | (simp; done) | (simp; omega) | (simp only [World.size_alloc, World.size_setCell, World.size_drew] at *; omega))) | (with_reducible refine bel_drewN ?_ _) | (with_reducible refine Below.drew ?_) | (with_reducible assumption) | (refine Hid.out ?_; with_reducible assumption) | (apply belV; (with_reducible assumption); exact (by first | omega | (simp; done) | (simp; omega) | (simp only [World.size_alloc, World.size_setCell, World.size_drew] at *; omega))))))
    have hne : ((n : Int) != ((kept b).length : Int)) = false := by have := HL.out; simp; omega
    have hnk : n = (kept b).length := by have := HL.out; omega
    subst hnk
    have hkl : (kept b).length ≤ 5 := by have := idxs_len (opn b) b.low.length; unfold kept; omega
    have HLN := Lib.hid hln; clear hln
    have HPOS := Lib.hid (vBox_pos h1)
    have HV := Lib.hid h1; clear h1
    go_wp2_with fail
    refine (lib_Clone _ _ _ _ b.low _ (HB.out.i0.below (by (repeat' (first | (with_reducible exact Below.refl _ _) | (with_reducible refine belS ?_ (by first | omega | (simp; done) | (simp; omega) | (simp only [World.size_alloc, World.size_setCell, World.size_drew] at *; omega))) | (with_reducible refine belA ?_ (by first | omega | (simp; done) | (simp; omega) | (simp only [World.size_alloc, World.size_setCell, World.size_drew] at *; omega))) | (with_reducible refine bel_drewN ?_ _) | (with_reducible refine Below.drew ?_) | (with_reducible assumption) | (refine Hid.out ?_; with_reducible assumption) | (apply belV; (with_reducible assumption); exact (by first | omega | (simp; done) | (simp; omega) | (simp only [World.size_alloc, World.size_setCell, World.size_drew] at *; omega))))))) (by omega)).mono ?_
    rintro e w4 ⟨C, dc, rfl, ho, hb4⟩
    obtain ⟨g, rfl, lg1, lg2, og⟩ := OwnS.blk ho HPOS.out
    have OG := Lib.hid og; clear og ho
    have G4 : Hid (Below wc.heap.size wc w4) := Lib.hid hb4
    clear hb4
    go_wp2_with fail
    go_loopw [11, 12, 31] (fun s11 s12 s31 wr => ∃ (k : Nat) (v11 v12 : Value), k ≤ (kept b).length ∧ s11 = v11 ∧ s12 = v12 ∧ s31 = .int .i64 k ∧ Hid (∀ i, i < k → resOk b ys i = true) ∧ Hid (OwnI wr g (resK b ys k)) ∧ Hid (Below wc.heap.size wc wr)) (fun _ _ s31 _ => (kept b).length - (intOf s31).toNat)
    case atStart => exact ⟨0, _, _, by omega, rfl, rfl, rfl, Lib.hid (fun i hi => absurd hi (Nat.not_lt_zero i)), OG, G4⟩
    case round =>
      obtain ⟨k, v11, v12, hk, rfl, rfl, rfl, hal, hown, hbel⟩ := hrel
      have z1 := hown.out.1
      have zb := hbel.out.size
      have HBW : Hid (Below w.heap.size w wr) := Lib.hid (belU hbel.out HBX.out (by omega))
      by_cases hlt : k < (kept b).length
      · obtain ⟨kv, hql⟩ := kept_lt hlt
        have HI0 : Ints wr K (kept b).length (kept b) := IK.out.below hbel.out
        have HI1 : Ints wr V (wid b).length (wid b) := IV.out.below hbel.out
        have HI2 : Ints wr A (kept b).length ys := HY.out.below HBW.out
        obtain ⟨b0, of0, x0, rfl, hb0, hx0, _, _, hc0⟩ := HI0.at_ hlt
        rw [kv] at hx0
        injection hx0 with hx0
        subst hx0
        obtain ⟨b1, of1, x1, rfl, hb1, hx1, _, _, hc1⟩ := HI1.at_ (k := keptAt b k) (by rw [wid_len]; exact hql)
        rw [wid_at hql] at hx1
        injection hx1 with hx1
        subst hx1
        obtain ⟨b2, of2, y, rfl, hb2, hyk, _, _, hc2⟩ := HI2.at_ hlt
        clear HI0 HI1 HI2 kv
        have hcl : keptAt b k < (resK b ys k).length := by rw [resK_len]; exact hql
        obtain ⟨cur, hcur⟩ : ∃ cur, (resK b ys k)[keptAt b k]? = some cur := ⟨_, List.getElem?_eq_getElem hcl⟩
        obtain ⟨o1, o2⟩ := hown.out.2 _ _ hcur
        have hbd := resK_bd HS.out k (by omega) hal.out cur (List.mem_of_getElem? hcur)
        obtain ⟨bd1, bd2⟩ := hbd
        have ho : resOk b ys k = inB y 0 (widAt b (keptAt b k)) := by unfold resOk; rw [getD_of hyk]
        have HO := Lib.hid ho; clear ho
        have hwl : keptAt b k < (wid b).length := by rw [wid_len]; exact hql
        have HC := Lib.hid hcur; clear hcur
        have HYK := Lib.hid hyk; clear hyk
        cases hin : inB y 0 (widAt b (keptAt b k))
        · have E := Lib.hid (res_3 (p := p) (ys := ys) (b := b) (by
            rw [List.all_eq_false]
            exact ⟨k, by rw [List.mem_range, HLN.out]; exact hlt, by rw [HO.out, hin]; decide⟩))
          go_wp2_with fail
          go_quiet ((go_at_call 63; exact q_same (impl_inRange _ _ _ _)))
          go_wp2_with fail
          go_ret2
          exact PairEnd.nil E.out (by (repeat' (first | (with_reducible exact Below.refl _ _) | (with_reducible refine belS ?_ (by first | omega | (simp; done) | (simp; omega) | (simp only [World.size_alloc, World.size_setCell, World.size_drew] at *; omega))) | (with_reducible refine belA ?_ (by first | omega | (simp; done) | (simp; omega) | (simp only [World.size_alloc, World.size_setCell, World.size_drew] at *; omega))) | (with_reducible refine bel_drewN ?_ _) | (with_reducible refine Below.drew ?_) | (with_reducible assumption) | (refine Hid.out ?_; with_reducible assumption) | (apply belV; (with_reducible assumption); exact (by first | omega | (simp; done) | (simp; omega) | (simp only [World.size_alloc, World.size_setCell, World.size_drew] at *; omega))))))
        · have hwt : widAt b (keptAt b k) ≤ 1000 ∧ 0 ≤ y := by
            have := inB_iff.1 hin
            have := HS.out.widle (keptAt b k)
            omega
          obtain ⟨hw1, hw2⟩ := hwt
          have hyw := (inB_iff.1 hin).2
          have hwx : IntKind.i64.wrap (cur + y) = cur + y := IntWalk.i64_in _ ⟨by omega, by omega⟩
          clear bd1 bd2 hw1 hw2 hyw
          go_wp2_with fail
          go_quiet ((go_at_call 63; exact q_same (impl_inRange _ _ _ _)))
          go_wp2_with fail
          go_region
          all_goals
            clear hwx
            go_wp2
            go_roundw
            case rel =>
              refine ⟨k + 1, _, _, by omega, rfl, rfl, by go_num, Lib.hid ?_, Lib.hid ?_, ?_⟩
              · intro i hi
                rcases Nat.lt_or_ge i k with h | h
                · exact hal.out i h
                · have : i = k := by omega
                  subst this
                  rw [HO.out, hin]
              · have o3 := (hown.out.drewN nq).set_ HC.out (cur + y)
                have e3 : resK b ys (k + 1) = (resK b ys k).set (keptAt b k) (cur + y) := by rw [resK, getD_of HC.out, getD_of HYK.out]
                rw [e3]
                first | exact o3.drew | exact o3 | (repeat' (first | (with_reducible exact OwnI.madeAt _ _ _ (by first | omega | (simp; done) | (simp; omega) | (simp only [World.size_alloc, World.size_setCell, World.size_drew] at *; omega))) | (with_reducible refine OwnI.far ?_ (by first | omega | (simp; done) | (simp; omega) | (simp only [World.size_alloc, World.size_setCell, World.size_drew] at *; omega)) _) | (with_reducible refine OwnI.alloc ?_ _) | (with_reducible refine OwnI.drewN ?_ _) | (with_reducible refine OwnI.drew ?_) | (with_reducible assumption) | (refine Hid.out ?_; with_reducible assumption) | (apply OwnI.turn; (with_reducible assumption); exact (by first | omega | (simp; done) | (simp; omega) | (simp only [World.size_alloc, World.size_setCell, World.size_drew] at *; omega))) | (apply OwnI.belowD; (with_reducible assumption))))
              · (refine Lib.hid ?_; (repeat' (first | (with_reducible exact Below.refl _ _) | (with_reducible refine belS ?_ (by first | omega | (simp; done) | (simp; omega) | (simp only [World.size_alloc, World.size_setCell, World.size_drew] at *; omega))) | (with_reducible refine belA ?_ (by first | omega | (simp; done) | (simp; omega) | (simp only [World.size_alloc, World.size_setCell, World.size_drew] at *; omega))) | (with_reducible refine bel_drewN ?_ _) | (with_reducible refine Below.drew ?_) | (with_reducible assumption) | (refine Hid.out ?_; with_reducible assumption) | (apply belV; (with_reducible assumption); exact (by first | omega | (simp; done) | (simp; omega) | (simp only [World.size_alloc, World.size_setCell, World.size_drew] at *; omega))))))
            case measure => simp [intOf]; omega
      · have hke : k = (kept b).length := by omega
        subst hke
        have E := Lib.hid (res_4 (p := p) HV.out HLN.out (by
          rw [List.all_eq_true]
          intro i hi
          exact hal.out i (by have := List.mem_range.1 hi; have := HLN.out; omega)))
        have HR := Lib.hid (resK_I HS.out (kept b).length hkl hal.out)
        go_wp2_with fail
        go_ret2
        exact PairEnd.own E.out HLN.out hown.out (by omega) (by omega) HR.out (by omega) (by (repeat' (first | (with_reducible exact Below.refl _ _) | (with_reducible refine belS ?_ (by first | omega | (simp; done) | (simp; omega) | (simp only [World.size_alloc, World.size_setCell, World.size_drew] at *; omega))) | (with_reducible refine belA ?_ (by first | omega | (simp; done) | (simp; omega) | (simp only [World.size_alloc, World.size_setCell, World.size_drew] at *; omega))) | (with_reducible refine bel_drewN ?_ _) | (with_reducible refine Below.drew ?_) | (with_reducible assumption) | (refine Hid.out ?_; with_reducible assumption) | (apply belV; (with_reducible assumption); exact (by first | omega | (simp; done) | (simp; omega) | (simp only [World.size_alloc, World.size_setCell, World.size_drew] at *; omega))))))
end Go.Proofs.Ytejcloanmfkglab
