
/-
  The helpers of the exact laws on lists of rows, problems and boxes.
-/
import Derived.Test.YtpcfnlffamgdaaaTy
set_option linter.unusedSimpArgs false
set_option linter.unusedVariables false
namespace Go.Proofs.Ytpcfnlffamgdaaa
open Go.RowKit

/-- What is left of a size, or -1 where it is used up. -/
def Sz (left v : Int) (P : Prop) : Prop := v = -1 ∨ (0 ≤ v ∧ v ≤ left ∧ P)
theorem szI_Sz {left : Int} {n : Nat} {P : Prop} (h1 : left ≤ 1048576) (hP : n ≤ 1048576 → P) : Sz left (szI left n) P := by
  unfold szI
  split
  · exact .inl rfl
  · exact .inr ⟨by omega, by omega, hP (by omega)⟩

theorem szIntS_any (A : Option Addr) (n c : Nat) (left : Int) (w : World) (hn : n ≤ maxLen) (h0 : 0 ≤ left) (h1 : left ≤ 1048576) :
    Calls Try.prog 74 #[.slice A n c, .int .i64 left] w fun e w' => ∃ v, Sz left v (n ≤ 1048576) ∧ e = .returned (.int .i64 v) ∧ Below w.heap.size w w' :=
  (laws_szIntS A n c left w hn h0 h1).mono fun _ _ ⟨he, hw⟩ => ⟨_, szI_Sz h1 id, he, hw ▸ Below.refl _ _⟩
theorem eqIntS_any (A A' : Option Addr) (n c c' : Nat) (xs : List Int) (w : World) (hi : Ints w A n xs) (hj : Ints w A' n xs) (hn : n ≤ 1048576) :
    Calls Try.prog 41 #[.slice A n c, .slice A' n c'] w fun e w' => e = .returned (.bool true) ∧ Below w.heap.size w w' :=
  (laws_eqIntS A A' n c c' xs w hi hj hn).mono fun _ _ ⟨he, m, hw⟩ => ⟨he, hw ▸ bel_drewN (Below.refl _ _) m⟩
theorem szRow_any (A : Option Addr) (n c : Nat) (s b : Int) (left : Int) (w : World) (hn : n ≤ maxLen) (h0 : 0 ≤ left) (h1 : left ≤ 1048576) :
    Calls Try.prog 118 #[.agg #[.slice A n c, .int .i64 s, .int .i64 b], .int .i64 left] w fun e w' => ∃ v, Sz left v (n ≤ 1048576) ∧ e = .returned (.int .i64 v) ∧ Below w.heap.size w w' :=
  (laws_szRow A n c s b left w hn h0 h1).mono fun _ _ ⟨he, hw⟩ => ⟨_, szI_Sz h1 id, he, hw⟩

def AllSmall (rs : List PRow) (k : Nat) : Prop := ∀ i r, i < k → rs[i]? = some r → r.cs.length ≤ 1048576
theorem AllSmall.end_ {rs : List PRow} {k : Nat} (h : AllSmall rs k) (hk : rs.length ≤ k) (hn : rs.length ≤ 1048576) : SmallR rs := ⟨hn, fun r hr => by
  obtain ⟨i, hi⟩ := List.mem_iff_getElem?.1 hr
  have hlt : i < rs.length := (List.getElem?_eq_some_iff.1 hi).1
  exact h i r (by omega) hi⟩
theorem AllSmall.step {rs : List PRow} {k : Nat} {r : PRow} (h : AllSmall rs k) (hr : rs[k]? = some r) (hs : r.cs.length ≤ 1048576) : AllSmall rs (k + 1) := fun i r' hi hr' => by
  by_cases e : i = k
  · subst e
    rw [hr] at hr'
    injection hr' with hr'
    subst hr'
    exact hs
  · exact h i r' (by omega) hr'
theorem AllSmall.zero (rs : List PRow) : AllSmall rs 0 := fun i r hi => by omega

def SzRowsEnd (left : Int) (rs : List PRow) (w : World) (e : Ending) (w' : World) : Prop := ∃ v, Sz left v (SmallR rs) ∧ e = .returned (.int .i64 v) ∧ Below w.heap.size w w'
set_option maxHeartbeats 1000000 in
theorem laws_szRowS (A : Option Addr) (n c : Nat) (rs : List PRow) (left : Int) (w : World) (hR : RowS w A n rs) (hn : n ≤ maxLen) (h0 : 0 ≤ left) (h1 : left ≤ 1048576) :
    Calls Try.prog 75 #[.slice A n c, .int .i64 left] w (SzRowsEnd left rs w) := by
  unfold maxLen at hn
  have HR := Lib.hid hR; clear hR
  by_cases h : left - n < 0
  · go_enter Try.func75, Try.ntmps75
    go_wp2
    go_ret
    exact ⟨-1, .inl rfl, rfl, by (repeat' (first | (with_reducible exact Below.refl _ _) | (with_reducible refine belS ?_ (by first | omega | (simp; done) | (simp; omega) | (simp only [World.size_alloc, World.size_setCell, World.size_drew] at *; omega))) | (with_reducible refine belA ?_ (by first | omega | (simp; done) | (simp; omega) | (simp only [World.size_alloc, World.size_setCell, World.size_drew] at *; omega))) | (with_reducible refine bel_drewN ?_ _) | (with_reducible refine Below.drew ?_) | (with_reducible assumption) | (refine Hid.out ?_; with_reducible assumption) | (apply belV; (with_reducible assumption); exact (by first | omega | (simp; done) | (simp; omega) | (simp only [World.size_alloc, World.size_setCell, World.size_drew] at *; omega)))))⟩
  · have hn2 : n ≤ 1048576 := by omega
    have h' : 0 ≤ left - n := by omega
    clear h
    go_enter Try.func75, Try.ntmps75
    go_wp2_with fail
    go_loopw [1, 5] (fun s1 s5 wr => ∃ (k : Nat) (l : Int), k ≤ n ∧ s5 = .int .i64 k ∧ s1 = .int .i64 l ∧ 0 ≤ l ∧ l ≤ left ∧ Hid (AllSmall rs k) ∧ Hid (Below w.heap.size w wr)) (fun _ s5 _ => n - (intOf s5).toNat)
    case atStart => exact ⟨0, _, by omega, rfl, rfl, by omega, by omega, AllSmall.zero _, Below.refl _ _⟩
    case round =>
      obtain ⟨k, l, hk, rfl, rfl, hl0, hl1, hsm, hbel⟩ := hrel
      by_cases hlt : k < n
      · obtain ⟨b, off, r, A', c', rfl, hb, hr, hrv, k0, k1, k2⟩ := (HR.out.below hbel.out).at_ hlt
        have HV := Lib.hid hrv; clear hrv
        have HX := Lib.hid hr; clear hr
        have hsl := HV.out.small
        go_wp2_with fail
        refine (szRow_any _ _ _ _ _ _ _ hsl hl0 (by omega)).mono ?_
        rintro e w1 ⟨v, hv, rfl, hb1⟩
        have G1 : Hid (Below w.heap.size w w1) := belU hb1 (by (repeat' (first | (with_reducible exact Below.refl _ _) | (with_reducible refine belS ?_ (by first | omega | (simp; done) | (simp; omega) | (simp only [World.size_alloc, World.size_setCell, World.size_drew] at *; omega))) | (with_reducible refine belA ?_ (by first | omega | (simp; done) | (simp; omega) | (simp only [World.size_alloc, World.size_setCell, World.size_drew] at *; omega))) | (with_reducible refine bel_drewN ?_ _) | (with_reducible refine Below.drew ?_) | (with_reducible assumption) | (refine Hid.out ?_; with_reducible assumption) | (apply belV; (with_reducible assumption); exact (by first | omega | (simp; done) | (simp; omega) | (simp only [World.size_alloc, World.size_setCell, World.size_drew] at *; omega)))))) hbel.out.size
        clear hb1
        rcases hv with rfl | ⟨hv0, hv1, hvs⟩
        · go_wp2_with fail
          go_ret
          exact ⟨-1, .inl rfl, rfl, by (repeat' (first | (with_reducible exact Below.refl _ _) | (with_reducible refine belS ?_ (by first | omega | (simp; done) | (simp; omega) | (simp only [World.size_alloc, World.size_setCell, World.size_drew] at *; omega))) | (with_reducible refine belA ?_ (by first | omega | (simp; done) | (simp; omega) | (simp only [World.size_alloc, World.size_setCell, World.size_drew] at *; omega))) | (with_reducible refine bel_drewN ?_ _) | (with_reducible refine Below.drew ?_) | (with_reducible assumption) | (refine Hid.out ?_; with_reducible assumption) | (apply belV; (with_reducible assumption); exact (by first | omega | (simp; done) | (simp; omega) | (simp only [World.size_alloc, World.size_setCell, World.size_drew] at *; omega)))))⟩
        · go_wp2_with fail
          go_roundw
          case rel => exact ⟨k + 1, v, by omega, by go_num, rfl, hv0, by omega, hsm.out.step HX.out hvs, G1⟩
          case measure => simp [intOf]; omega
      · go_wp2_with fail
        go_ret
        exact ⟨l, .inr ⟨hl0, hl1, hsm.out.end_ (by have := HR.out.len; omega) (by have := HR.out.len; omega)⟩, rfl, hbel.out⟩
theorem info_row : (Try.prog.info? 137).map (fun i => (i.zero, i.size, i.bytes)) = some (some (.agg #[.slice none 0 0, .int .i64 0, .int .i64 0]), 3, 40) := by kernel_rfl

def ToRowsEnd (n : Nat) (rs : List PRow) (w : World) (e : Ending) (w' : World) : Prop :=
  ∃ g, e = .returned (.slice (some ⟨g, 0, none⟩) n n) ∧ OwnR w' w.heap.size g n rs n ∧ RowS w' (some ⟨g, 0, none⟩) n rs ∧ Below w.heap.size w w'
set_option maxHeartbeats 2000000 in
theorem laws_toRowS (A : Option Addr) (n c : Nat) (rs : List PRow) (w : World) (hR : RowS w A n rs) (hs : SmallR rs) : Calls Try.prog 78 #[.slice A n c] w (ToRowsEnd n rs w) := by
  have hn : n ≤ 1048576 := by have := hR.len; have := hs.1; omega
  obtain ⟨i0, hi0, hz0, hz1, hz2⟩ := info_parts info_row
  have hmk := fun W => run_makeN (P := Try.prog) 60 137 i0 _ Try.underlying60 hi0 hz0 n (by rw [hz2]; omega) (by omega) W
  simp only [hz1] at hmk
  have HR := Lib.hid hR; clear hR
  have HS := Lib.hid hs; clear hs
  go_enter Try.func78, Try.ntmps78
  go_wp2_with fail
  go_loopw [4] (fun s4 wr => ∃ k : Nat, k ≤ n ∧ s4 = .int .i64 k ∧ Hid (OwnR wr w.heap.size w.heap.size n rs k) ∧ Hid (Below w.heap.size w wr)) (fun s4 _ => n - (intOf s4).toNat)
  case atStart => exact ⟨0, by omega, rfl, OwnR.made w _ _ rfl, belA (Below.refl _ _) (Nat.le_refl _)⟩
  case round =>
    obtain ⟨k, hk, rfl, hown, hbel⟩ := hrel
    have z0 := hown.out.2.1
    by_cases hlt : k < n
    · obtain ⟨b, off, r, A', c', rfl, hb, hr, hrv, k0, k1, k2⟩ := (HR.out.below hbel.out).at_ hlt
      have HV := Lib.hid hrv; clear hrv
      have HX := Lib.hid hr; clear hr
      have hsl := HS.out.at_ HX.out
      go_wp2_with fail
      refine (laws_toRow _ _ r _ HV.out hsl).mono ?_
      rintro e w1 ⟨g1, rfl, hg1, ho1, hr1, hb1⟩
      have G1 : Hid (Below w.heap.size w w1) := belU hb1 (by (repeat' (first | (with_reducible exact Below.refl _ _) | (with_reducible refine belS ?_ (by first | omega | (simp; done) | (simp; omega) | (simp only [World.size_alloc, World.size_setCell, World.size_drew] at *; omega))) | (with_reducible refine belA ?_ (by first | omega | (simp; done) | (simp; omega) | (simp only [World.size_alloc, World.size_setCell, World.size_drew] at *; omega))) | (with_reducible refine bel_drewN ?_ _) | (with_reducible refine Below.drew ?_) | (with_reducible assumption) | (refine Hid.out ?_; with_reducible assumption) | (apply belV; (with_reducible assumption); exact (by first | omega | (simp; done) | (simp; omega) | (simp only [World.size_alloc, World.size_setCell, World.size_drew] at *; omega)))))) hbel.out.size
      have HO := Lib.hid ho1; clear ho1
      have HR1 := Lib.hid hr1; clear hr1
      obtain ⟨v0, v1, v2, m0, m1, m2, f0, f1, f2⟩ := (hown.out.below hb1).room hlt
      have HB := Lib.hid hb1; clear hb1
      go_wp2_with fail
      go_roundw
      case rel => exact ⟨k + 1, by omega, by go_num, hown.out.store HB.out HX.out hlt HO.out HR1.out hg1, by clear HO HR1 hown; (refine Lib.hid ?_; (repeat' (first | (with_reducible exact Below.refl _ _) | (with_reducible refine belS ?_ (by first | omega | (simp; done) | (simp; omega) | (simp only [World.size_alloc, World.size_setCell, World.size_drew] at *; omega))) | (with_reducible refine belA ?_ (by first | omega | (simp; done) | (simp; omega) | (simp only [World.size_alloc, World.size_setCell, World.size_drew] at *; omega))) | (with_reducible refine bel_drewN ?_ _) | (with_reducible refine Below.drew ?_) | (with_reducible assumption) | (refine Hid.out ?_; with_reducible assumption) | (apply belV; (with_reducible assumption); exact (by first | omega | (simp; done) | (simp; omega) | (simp only [World.size_alloc, World.size_setCell, World.size_drew] at *; omega))))))⟩
      case measure => simp [intOf]; omega
    · have hke : k = n := by omega
      subst hke
      go_wp2_with fail
      go_ret
      exact ⟨w.heap.size, rfl, hown.out, hown.out.rows HR.out.len, hbel.out⟩

set_option maxHeartbeats 2000000 in
theorem laws_eqRowS (A B : Option Addr) (n c c' : Nat) (rs : List PRow) (w : World) (hR : RowS w A n rs) (hQ : RowS w B n rs) (hs : SmallR rs) :
    Calls Try.prog 82 #[.slice A n c, .slice B n c'] w fun e w' => e = .returned (.bool true) ∧ Below w.heap.size w w' := by
  have hn : n ≤ 1048576 := by have := hR.len; have := hs.1; omega
  have HR := Lib.hid hR; clear hR
  have HQ := Lib.hid hQ; clear hQ
  have HS := Lib.hid hs; clear hs
  go_enter Try.func82, Try.ntmps82
  go_wp2_with fail
  go_loopw [5] (fun s5 wr => ∃ k : Nat, k ≤ n ∧ s5 = .int .i64 k ∧ Hid (Below w.heap.size w wr)) (fun s5 _ => n - (intOf s5).toNat)
  case atStart => exact ⟨0, by omega, rfl, Below.refl _ _⟩
  case round =>
    obtain ⟨k, hk, rfl, hbel⟩ := hrel
    have z0 := hbel.out.size
    by_cases hlt : k < n
    · obtain ⟨b, off, r, A', c', rfl, hb, hr, hrv, k0, k1, k2⟩ := (HR.out.below hbel.out).at_ hlt
      obtain ⟨b', off', r', B', d', rfl, hb', hr', hrv', l0, l1, l2⟩ := (HQ.out.below hbel.out).at_ hlt
      rw [hr] at hr'
      injection hr' with hr'
      subst hr'
      have HV := Lib.hid hrv; clear hrv
      have HW := Lib.hid hrv'; clear hrv'
      have hsl := HS.out.at_ hr
      clear hr
      go_wp2_with fail
      go_region_held3 (fun w' => w'.cell? ⟨b, off + k * 3, none⟩ = some (.slice A' r.cs.length c') ∧ w'.cell? ⟨b, off + k * 3 + 1, none⟩ = some (.int .i64 r.s) ∧ w'.cell? ⟨b, off + k * 3 + 2, none⟩ = some (.int .i64 r.b) ∧ w'.cell? ⟨b', off' + k * 3, none⟩ = some (.slice B' r.cs.length d') ∧ w'.cell? ⟨b', off' + k * 3 + 1, none⟩ = some (.int .i64 r.s) ∧ w'.cell? ⟨b', off' + k * 3 + 2, none⟩ = some (.int .i64 r.b))
        (refine ⟨?_, ?_, ?_, ?_, ?_, ?_⟩ <;> (first | with_reducible assumption | (simp only [World.cell?_drew, World.cell?_drewN, World.frozen?_drew, World.frozen?_drewN]; with_reducible assumption)))
        ((first
          | (go_at_call 126; refine (laws_eqRow _ _ _ _ r _ (HV.out.below (by (repeat' (first | (with_reducible exact Below.refl _ _) | (with_reducible refine belS ?_ (by first | omega | (simp; done) | (simp; omega) | (simp only [World.size_alloc, World.size_setCell, World.size_drew] at *; omega))) | (with_reducible refine belA ?_ (by first | omega | (simp; done) | (simp; omega) | (simp only [World.size_alloc, World.size_setCell, World.size_drew] at *; omega))) | (with_reducible refine bel_drewN ?_ _) | (with_reducible refine Below.drew ?_) | (with_reducible assumption) | (refine Hid.out ?_; with_reducible assumption) | (apply belV; (with_reducible assumption); exact (by first | omega | (simp; done) | (simp; omega) | (simp only [World.size_alloc, World.size_setCell, World.size_drew] at *; omega))))))) (HW.out.below (by (repeat' (first | (with_reducible exact Below.refl _ _) | (with_reducible refine belS ?_ (by first | omega | (simp; done) | (simp; omega) | (simp only [World.size_alloc, World.size_setCell, World.size_drew] at *; omega))) | (with_reducible refine belA ?_ (by first | omega | (simp; done) | (simp; omega) | (simp only [World.size_alloc, World.size_setCell, World.size_drew] at *; omega))) | (with_reducible refine bel_drewN ?_ _) | (with_reducible refine Below.drew ?_) | (with_reducible assumption) | (refine Hid.out ?_; with_reducible assumption) | (apply belV; (with_reducible assumption); exact (by first | omega | (simp; done) | (simp; omega) | (simp only [World.size_alloc, World.size_setCell, World.size_drew] at *; omega))))))) hsl).mono ?_; rintro e w1 ⟨rfl, hb1⟩; have G1 : Hid (Below w.heap.size w w1) := belU hb1 (by (repeat' (first | (with_reducible exact Below.refl _ _) | (with_reducible refine belS ?_ (by first | omega | (simp; done) | (simp; omega) | (simp only [World.size_alloc, World.size_setCell, World.size_drew] at *; omega))) | (with_reducible refine belA ?_ (by first | omega | (simp; done) | (simp; omega) | (simp only [World.size_alloc, World.size_setCell, World.size_drew] at *; omega))) | (with_reducible refine bel_drewN ?_ _) | (with_reducible refine Below.drew ?_) | (with_reducible assumption) | (refine Hid.out ?_; with_reducible assumption) | (apply belV; (with_reducible assumption); exact (by first | omega | (simp; done) | (simp; omega) | (simp only [World.size_alloc, World.size_setCell, World.size_drew] at *; omega)))))) (by first | omega | (simp; done) | (simp; omega) | (simp only [World.size_alloc, World.size_setCell, World.size_drew] at *; omega)); have j0 : w1.cell? ⟨b, off + k * 3, none⟩ = _ := (hb1.cell (p := ⟨b, off + k * 3, none⟩) (by first | omega | (simp; done) | (simp; omega) | (simp only [World.size_alloc, World.size_setCell, World.size_drew] at *; omega))).trans k0; have i0 : w1.cell? ⟨b', off' + k * 3, none⟩ = _ := (hb1.cell (p := ⟨b', off' + k * 3, none⟩) (by first | omega | (simp; done) | (simp; omega) | (simp only [World.size_alloc, World.size_setCell, World.size_drew] at *; omega))).trans l0; have j1 : w1.cell? ⟨b, off + k * 3 + 1, none⟩ = _ := (hb1.cell (p := ⟨b, off + k * 3 + 1, none⟩) (by first | omega | (simp; done) | (simp; omega) | (simp only [World.size_alloc, World.size_setCell, World.size_drew] at *; omega))).trans k1; have i1 : w1.cell? ⟨b', off' + k * 3 + 1, none⟩ = _ := (hb1.cell (p := ⟨b', off' + k * 3 + 1, none⟩) (by first | omega | (simp; done) | (simp; omega) | (simp only [World.size_alloc, World.size_setCell, World.size_drew] at *; omega))).trans l1; have j2 : w1.cell? ⟨b, off + k * 3 + 2, none⟩ = _ := (hb1.cell (p := ⟨b, off + k * 3 + 2, none⟩) (by first | omega | (simp; done) | (simp; omega) | (simp only [World.size_alloc, World.size_setCell, World.size_drew] at *; omega))).trans k2; have i2 : w1.cell? ⟨b', off' + k * 3 + 2, none⟩ = _ := (hb1.cell (p := ⟨b', off' + k * 3 + 2, none⟩) (by first | omega | (simp; done) | (simp; omega) | (simp only [World.size_alloc, World.size_setCell, World.size_drew] at *; omega))).trans l2; clear hb1)))
      all_goals
        go_wp2_with fail
        go_roundw
        case rel => exact ⟨k + 1, by omega, by go_num, by (refine Lib.hid ?_; (repeat' (first | (with_reducible exact Below.refl _ _) | (with_reducible refine belS ?_ (by first | omega | (simp; done) | (simp; omega) | (simp only [World.size_alloc, World.size_setCell, World.size_drew] at *; omega))) | (with_reducible refine belA ?_ (by first | omega | (simp; done) | (simp; omega) | (simp only [World.size_alloc, World.size_setCell, World.size_drew] at *; omega))) | (with_reducible refine bel_drewN ?_ _) | (with_reducible refine Below.drew ?_) | (with_reducible assumption) | (refine Hid.out ?_; with_reducible assumption) | (apply belV; (with_reducible assumption); exact (by first | omega | (simp; done) | (simp; omega) | (simp only [World.size_alloc, World.size_setCell, World.size_drew] at *; omega))))))⟩
        case measure => simp [intOf]; omega
    · go_wp2_with fail
      go_ret
      exact ⟨rfl, hbel.out⟩
end Go.Proofs.Ytpcfnlffamgdaaa
