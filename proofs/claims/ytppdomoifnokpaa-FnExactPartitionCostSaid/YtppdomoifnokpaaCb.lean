
/-
  The helpers of the exact laws on columns.
-/
import Derived.Test.YtppdomoifnokpaaCa
import Derived.Test.YtppdomoifnokpaaMk
import Derived.Test.YtppdomoifnokpaaVd
set_option linter.unusedSimpArgs false
set_option linter.unusedVariables false
namespace Go.Proofs.Ytppdomoifnokpaa
open Go.RowKit

def AllSmallC (cs : List PCol) (k : Nat) : Prop := ∀ i c, i < k → cs[i]? = some c → c.s.length ≤ 1048576
theorem AllSmallC.end_ {cs : List PCol} {k : Nat} (h : AllSmallC cs k) (hk : cs.length ≤ k) (hn : cs.length ≤ 1048576) : SmallC cs := ⟨hn, fun c hc => by
  obtain ⟨i, hi⟩ := List.mem_iff_getElem?.1 hc
  have hlt : i < cs.length := (List.getElem?_eq_some_iff.1 hi).1
  exact h i c (by omega) hi⟩
theorem AllSmallC.step {cs : List PCol} {k : Nat} {c : PCol} (h : AllSmallC cs k) (hx : cs[k]? = some c) (hs : c.s.length ≤ 1048576) : AllSmallC cs (k + 1) := fun i d hi hy => by
  by_cases e : i = k
  · subst e
    rw [hx] at hy
    injection hy with hy
    subst hy
    exact hs
  · exact h i d (by omega) hy
theorem AllSmallC.zero (cs : List PCol) : AllSmallC cs 0 := fun i c hi => by omega

theorem laws_szColumn (x : Int) (A : Option Addr) (n c : Nat) (left : Int) (w : World) (hn : n ≤ maxLen) (h0 : 0 ≤ left) (h1 : left ≤ 1048576) :
    Calls Try.prog 77 #[.agg #[.int .i64 x, .slice A n c], .int .i64 left] w fun e w' => ∃ v, Sz left v (n ≤ 1048576) ∧ e = .returned (.int .i64 v) ∧ Below w.heap.size w w' := by
  go_enter Try.func77, Try.ntmps77
  go_wp2_with fail
  refine (szIntS_any _ _ _ _ _ hn h0 h1).mono ?_
  rintro e w1 ⟨v1, hv1, rfl, hb⟩
  have G1 : Hid (Below w.heap.size w w1) := belU hb (by (repeat' (first | (with_reducible exact Below.refl _ _) | (with_reducible refine belS ?_ (by first | omega | (simp; done) | (simp; omega) | (simp only [World.size_alloc, World.size_setCell, World.size_drew] at *; omega))) | (with_reducible refine belA ?_ (by first | omega | (simp; done) | (simp; omega) | (simp only [World.size_alloc, World.size_setCell, World.size_drew] at *; omega))) | (with_reducible refine bel_drewN ?_ _) | (with_reducible refine Below.drew ?_) | (with_reducible assumption) | (refine Hid.out ?_; with_reducible assumption) | (apply belV; (with_reducible assumption); exact (by first | omega | (simp; done) | (simp; omega) | (simp only [World.size_alloc, World.size_setCell, World.size_drew] at *; omega)))))) (by first | omega | (simp; done) | (simp; omega) | (simp only [World.size_alloc, World.size_setCell, World.size_drew] at *; omega))
  have z1 := hb.size
  (try simp at z1)
  have D1 := Lib.hid hb; clear hb
  rcases hv1 with rfl | ⟨a1, b1, s1⟩
  · go_wp2_with fail
    go_ret
    exact ⟨-1, .inl rfl, rfl, by (repeat' (first | (with_reducible exact Below.refl _ _) | (with_reducible refine belS ?_ (by first | omega | (simp; done) | (simp; omega) | (simp only [World.size_alloc, World.size_setCell, World.size_drew] at *; omega))) | (with_reducible refine belA ?_ (by first | omega | (simp; done) | (simp; omega) | (simp only [World.size_alloc, World.size_setCell, World.size_drew] at *; omega))) | (with_reducible refine bel_drewN ?_ _) | (with_reducible refine Below.drew ?_) | (with_reducible assumption) | (refine Hid.out ?_; with_reducible assumption) | (apply belV; (with_reducible assumption); exact (by first | omega | (simp; done) | (simp; omega) | (simp only [World.size_alloc, World.size_setCell, World.size_drew] at *; omega)))))⟩
  · go_wp2_with fail
    go_ret
    exact ⟨v1, .inr ⟨a1, b1, s1⟩, rfl, by (repeat' (first | (with_reducible exact Below.refl _ _) | (with_reducible refine belS ?_ (by first | omega | (simp; done) | (simp; omega) | (simp only [World.size_alloc, World.size_setCell, World.size_drew] at *; omega))) | (with_reducible refine belA ?_ (by first | omega | (simp; done) | (simp; omega) | (simp only [World.size_alloc, World.size_setCell, World.size_drew] at *; omega))) | (with_reducible refine bel_drewN ?_ _) | (with_reducible refine Below.drew ?_) | (with_reducible assumption) | (refine Hid.out ?_; with_reducible assumption) | (apply belV; (with_reducible assumption); exact (by first | omega | (simp; done) | (simp; omega) | (simp only [World.size_alloc, World.size_setCell, World.size_drew] at *; omega)))))⟩
set_option maxHeartbeats 1000000 in
theorem laws_szColumnS (A : Option Addr) (n c : Nat) (cs : List PCol) (left : Int) (w : World) (hR : ColS w A n cs) (hn : n ≤ maxLen) (h0 : 0 ≤ left) (h1 : left ≤ 1048576) :
    Calls Try.prog 34 #[.slice A n c, .int .i64 left] w (SzEnd left (SmallC cs) w) := by
  unfold maxLen at hn
  have HR := Lib.hid hR; clear hR
  by_cases h : left - n < 0
  · go_enter Try.func34, Try.ntmps34
    go_wp2
    go_ret
    exact ⟨-1, .inl rfl, rfl, by (repeat' (first | (with_reducible exact Below.refl _ _) | (with_reducible refine belS ?_ (by first | omega | (simp; done) | (simp; omega) | (simp only [World.size_alloc, World.size_setCell, World.size_drew] at *; omega))) | (with_reducible refine belA ?_ (by first | omega | (simp; done) | (simp; omega) | (simp only [World.size_alloc, World.size_setCell, World.size_drew] at *; omega))) | (with_reducible refine bel_drewN ?_ _) | (with_reducible refine Below.drew ?_) | (with_reducible assumption) | (refine Hid.out ?_; with_reducible assumption) | (apply belV; (with_reducible assumption); exact (by first | omega | (simp; done) | (simp; omega) | (simp only [World.size_alloc, World.size_setCell, World.size_drew] at *; omega)))))⟩
  · have hn2 : n ≤ 1048576 := by omega
    have h' : 0 ≤ left - n := by omega
    clear h
    go_enter Try.func34, Try.ntmps34
    go_wp2_with fail
    go_loopw [1, 5] (fun s1 s5 wr => ∃ (k : Nat) (l : Int), k ≤ n ∧ s5 = .int .i64 k ∧ s1 = .int .i64 l ∧ 0 ≤ l ∧ l ≤ left ∧ Hid (AllSmallC cs k) ∧ Hid (Below w.heap.size w wr)) (fun _ s5 _ => n - (intOf s5).toNat)
    case atStart => exact ⟨0, _, by omega, rfl, rfl, by omega, by omega, AllSmallC.zero _, Below.refl _ _⟩
    case round =>
      obtain ⟨k, l, hk, rfl, rfl, hl0, hl1, hsm, hbel⟩ := hrel
      by_cases hlt : k < n
      · obtain ⟨b, off, d, A', c', rfl, hb, hx, hxi, lx, mx, hcc, hc0, hc1⟩ := (HR.out.below hbel.out).at_ hlt
        have HX := Lib.hid hx; clear hx hxi
        have hsl : d.s.length ≤ maxLen := Nat.le_trans lx mx
        go_wp2_with fail
        refine (laws_szColumn _ _ _ _ _ _ hsl hl0 (by omega)).mono ?_
        rintro e w1 ⟨v, hv, rfl, hb1⟩
        have G1 : Hid (Below w.heap.size w w1) := belU hb1 (by (repeat' (first | (with_reducible exact Below.refl _ _) | (with_reducible refine belS ?_ (by first | omega | (simp; done) | (simp; omega) | (simp only [World.size_alloc, World.size_setCell, World.size_drew] at *; omega))) | (with_reducible refine belA ?_ (by first | omega | (simp; done) | (simp; omega) | (simp only [World.size_alloc, World.size_setCell, World.size_drew] at *; omega))) | (with_reducible refine bel_drewN ?_ _) | (with_reducible refine Below.drew ?_) | (with_reducible assumption) | (refine Hid.out ?_; with_reducible assumption) | (apply belV; (with_reducible assumption); exact (by first | omega | (simp; done) | (simp; omega) | (simp only [World.size_alloc, World.size_setCell, World.size_drew] at *; omega)))))) hbel.out.size
        clear hb1
        rcases hv with rfl | ⟨hv0, hv1, hvs⟩
        · go_wp2_with fail
          go_ret
          exact ⟨-1, .inl rfl, rfl, by (repeat' (first | (with_reducible exact Below.refl _ _) | (with_reducible refine belS ?_ (by first | omega | (simp; done) | (simp; omega) | (simp only [World.size_alloc, World.size_setCell, World.size_drew] at *; omega))) | (with_reducible refine belA ?_ (by first | omega | (simp; done) | (simp; omega) | (simp only [World.size_alloc, World.size_setCell, World.size_drew] at *; omega))) | (with_reducible refine bel_drewN ?_ _) | (with_reducible refine Below.drew ?_) | (with_reducible assumption) | (refine Hid.out ?_; with_reducible assumption) | (apply belV; (with_reducible assumption); exact (by first | omega | (simp; done) | (simp; omega) | (simp only [World.size_alloc, World.size_setCell, World.size_drew] at *; omega)))))⟩
        · go_wp2_with fail
          go_roundw
          case rel => exact ⟨k + 1, v, by omega, by go_num, rfl, hv0, by omega, hsm.out.step HX.out hvs, G1⟩
          case measure => simp [intOf]; omega
      · go_wp2_with fail
        go_ret
        exact ⟨l, .inr ⟨hl0, hl1, hsm.out.end_ (by have := HR.out.len; omega) (by have := HR.out.len; omega)⟩, rfl, hbel.out⟩

def ToColEnd (d : PCol) (w : World) (e : Ending) (w' : World) : Prop :=
  ∃ g, e = .returned (.agg #[.int .i64 d.c, .slice (some ⟨g, 0, none⟩) d.s.length d.s.length]) ∧ w.heap.size ≤ g ∧ OwnI w' g d.s ∧ Below w.heap.size w w'
set_option maxHeartbeats 1000000 in
theorem laws_toColumn (A : Option Addr) (c : Nat) (d : PCol) (w : World) (hr : Ints w A d.s.length d.s) (hn : d.s.length ≤ 1048576) :
    Calls Try.prog 83 #[.agg #[.int .i64 d.c, .slice A d.s.length c]] w (ToColEnd d w) := by
  have HR := Lib.hid hr; clear hr
  go_enter Try.func83, Try.ntmps83
  go_wp2_with fail
  refine (laws_toIntS _ _ _ d.s _ (HR.out.below (by (repeat' (first | (with_reducible exact Below.refl _ _) | (with_reducible refine belS ?_ (by first | omega | (simp; done) | (simp; omega) | (simp only [World.size_alloc, World.size_setCell, World.size_drew] at *; omega))) | (with_reducible refine belA ?_ (by first | omega | (simp; done) | (simp; omega) | (simp only [World.size_alloc, World.size_setCell, World.size_drew] at *; omega))) | (with_reducible refine bel_drewN ?_ _) | (with_reducible refine Below.drew ?_) | (with_reducible assumption) | (refine Hid.out ?_; with_reducible assumption) | (apply belV; (with_reducible assumption); exact (by first | omega | (simp; done) | (simp; omega) | (simp only [World.size_alloc, World.size_setCell, World.size_drew] at *; omega))))))) hn).mono ?_
  rintro e w1 ⟨g, rfl, hg, ho, hi, hb⟩
  have G1 : Hid (Below w.heap.size w w1) := belU hb (by (repeat' (first | (with_reducible exact Below.refl _ _) | (with_reducible refine belS ?_ (by first | omega | (simp; done) | (simp; omega) | (simp only [World.size_alloc, World.size_setCell, World.size_drew] at *; omega))) | (with_reducible refine belA ?_ (by first | omega | (simp; done) | (simp; omega) | (simp only [World.size_alloc, World.size_setCell, World.size_drew] at *; omega))) | (with_reducible refine bel_drewN ?_ _) | (with_reducible refine Below.drew ?_) | (with_reducible assumption) | (refine Hid.out ?_; with_reducible assumption) | (apply belV; (with_reducible assumption); exact (by first | omega | (simp; done) | (simp; omega) | (simp only [World.size_alloc, World.size_setCell, World.size_drew] at *; omega)))))) (by first | omega | (simp; done) | (simp; omega) | (simp only [World.size_alloc, World.size_setCell, World.size_drew] at *; omega))
  have HO := Lib.hid ho; clear ho
  have HI := Lib.hid hi; clear hi
  have z1 := hb.size
  (try simp at z1)
  obtain ⟨hc1, hf1⟩ := bcell hb
  have y1_0 : w.heap.size < w1.heap.size := by omega
  have y1_1 : w.heap.size + 1 < w1.heap.size := by omega
  have y1_2 : w.heap.size + 2 < w1.heap.size := by omega
  have D1 := Lib.hid hb; clear hb
  simp at hg
  go_wp2_with fail
  refine bodyPost_ret (v := .agg #[.int .i64 d.c, .slice (some ⟨g, 0, none⟩) d.s.length d.s.length]) (by simp [results, Try.results83, go_sem, hc1, hf1, *]) rfl ⟨g, rfl, by omega, ?_, ?_⟩
  · (repeat' (first | (with_reducible exact OwnI.madeAt _ _ _ (by first | omega | (simp; done) | (simp; omega) | (simp only [World.size_alloc, World.size_setCell, World.size_drew] at *; omega))) | (with_reducible refine OwnI.far ?_ (by first | omega | (simp; done) | (simp; omega) | (simp only [World.size_alloc, World.size_setCell, World.size_drew] at *; omega)) _) | (with_reducible refine OwnI.alloc ?_ _) | (with_reducible refine OwnI.drewN ?_ _) | (with_reducible refine OwnI.drew ?_) | (with_reducible assumption) | (refine Hid.out ?_; with_reducible assumption) | (apply OwnI.turn; (with_reducible assumption); exact (by first | omega | (simp; done) | (simp; omega) | (simp only [World.size_alloc, World.size_setCell, World.size_drew] at *; omega))) | (apply OwnI.only; (with_reducible assumption); exact (by first | omega | (simp; done) | (simp; omega) | (simp only [World.size_alloc, World.size_setCell, World.size_drew] at *; omega))) | (apply OwnI.belowD; (with_reducible assumption))))
  · clear HO HI
    (repeat' (first | (with_reducible exact Below.refl _ _) | (with_reducible refine belS ?_ (by first | omega | (simp; done) | (simp; omega) | (simp only [World.size_alloc, World.size_setCell, World.size_drew] at *; omega))) | (with_reducible refine belA ?_ (by first | omega | (simp; done) | (simp; omega) | (simp only [World.size_alloc, World.size_setCell, World.size_drew] at *; omega))) | (with_reducible refine bel_drewN ?_ _) | (with_reducible refine Below.drew ?_) | (with_reducible assumption) | (refine Hid.out ?_; with_reducible assumption) | (apply belV; (with_reducible assumption); exact (by first | omega | (simp; done) | (simp; omega) | (simp only [World.size_alloc, World.size_setCell, World.size_drew] at *; omega)))))
theorem info_col : (Try.prog.info? 102).map (fun i => (i.zero, i.size, i.bytes)) = some (some (.agg #[.int .i64 0, .slice none 0 0]), 2, 32) := by kernel_rfl
def ToColsEnd (n : Nat) (cs : List PCol) (w : World) (e : Ending) (w' : World) : Prop :=
  ∃ g, e = .returned (.slice (some ⟨g, 0, none⟩) n n) ∧ OwnC w' w.heap.size g n cs n ∧ ColS w' (some ⟨g, 0, none⟩) n cs ∧ Below w.heap.size w w'
set_option maxHeartbeats 2000000 in
theorem laws_toColumnS (A : Option Addr) (n c : Nat) (cs : List PCol) (w : World) (hR : ColS w A n cs) (hs : SmallC cs) : Calls Try.prog 36 #[.slice A n c] w (ToColsEnd n cs w) := by
  have hn : n ≤ 1048576 := by have := hR.len; have := hs.1; omega
  obtain ⟨i0, hi0, hz0, hz1, hz2⟩ := info_parts info_col
  have hmk := fun W => run_makeN (P := Try.prog) 57 102 i0 _ Try.underlying57 hi0 hz0 n (by rw [hz2]; omega) (by omega) W
  simp only [hz1] at hmk
  have HR := Lib.hid hR; clear hR
  have HS := Lib.hid hs; clear hs
  go_enter Try.func36, Try.ntmps36
  go_wp2_with fail
  go_loopw [4] (fun s4 wr => ∃ k : Nat, k ≤ n ∧ s4 = .int .i64 k ∧ Hid (OwnC wr w.heap.size w.heap.size n cs k) ∧ Hid (Below w.heap.size w wr)) (fun s4 _ => n - (intOf s4).toNat)
  case atStart => exact ⟨0, by omega, rfl, OwnC.made w _ _ n cs rfl, belA (Below.refl _ _) (Nat.le_refl _)⟩
  case round =>
    obtain ⟨k, hk, rfl, hown, hbel⟩ := hrel
    have z0 := hown.out.2.1
    by_cases hlt : k < n
    · obtain ⟨b, off, d, A', c', rfl, hb, hx, hxi, lx, mx, hcc, hc0, hc1⟩ := (HR.out.below hbel.out).at_ hlt
      have HX := Lib.hid hx; clear hx
      have HV := Lib.hid hxi; clear hxi
      have HCC := Lib.hid hcc; clear hcc
      have hsl := HS.out.at_ HX.out
      have hml : d.s.length ≤ maxLen := Nat.le_trans lx mx
      have HI64 : Hid (∀ x ∈ d.s, I64 x) := HV.out.2.1
      go_wp2_with fail
      refine (laws_toColumn _ _ d _ HV.out hsl).mono ?_
      rintro e w1 ⟨g1, rfl, hg1, ho1, hb1⟩
      have G1 : Hid (Below w.heap.size w w1) := belU hb1 (by (repeat' (first | (with_reducible exact Below.refl _ _) | (with_reducible refine belS ?_ (by first | omega | (simp; done) | (simp; omega) | (simp only [World.size_alloc, World.size_setCell, World.size_drew] at *; omega))) | (with_reducible refine belA ?_ (by first | omega | (simp; done) | (simp; omega) | (simp only [World.size_alloc, World.size_setCell, World.size_drew] at *; omega))) | (with_reducible refine bel_drewN ?_ _) | (with_reducible refine Below.drew ?_) | (with_reducible assumption) | (refine Hid.out ?_; with_reducible assumption) | (apply belV; (with_reducible assumption); exact (by first | omega | (simp; done) | (simp; omega) | (simp only [World.size_alloc, World.size_setCell, World.size_drew] at *; omega)))))) hbel.out.size
      have HO := Lib.hid ho1; clear ho1
      obtain ⟨v0, m0, f0⟩ := (hown.out.below hb1).room (j := k * 2) (by omega)
      obtain ⟨v1, m1, f1⟩ := (hown.out.below hb1).room (j := k * 2 + 1) (by omega)
      have HB := Lib.hid hb1; clear hb1
      go_wp2_with fail
      go_roundw
      case rel => exact ⟨k + 1, by omega, by go_num, hown.out.store HB.out HX.out hlt HO.out HI64.out hml HCC.out hg1, by clear HO hown; (refine Lib.hid ?_; (repeat' (first | (with_reducible exact Below.refl _ _) | (with_reducible refine belS ?_ (by first | omega | (simp; done) | (simp; omega) | (simp only [World.size_alloc, World.size_setCell, World.size_drew] at *; omega))) | (with_reducible refine belA ?_ (by first | omega | (simp; done) | (simp; omega) | (simp only [World.size_alloc, World.size_setCell, World.size_drew] at *; omega))) | (with_reducible refine bel_drewN ?_ _) | (with_reducible refine Below.drew ?_) | (with_reducible assumption) | (refine Hid.out ?_; with_reducible assumption) | (apply belV; (with_reducible assumption); exact (by first | omega | (simp; done) | (simp; omega) | (simp only [World.size_alloc, World.size_setCell, World.size_drew] at *; omega))))))⟩
      case measure => simp [intOf]; omega
    · have hke : k = n := by omega
      subst hke
      go_wp2_with fail
      go_ret
      exact ⟨w.heap.size, rfl, hown.out, hown.out.cols HR.out.len, hbel.out⟩

set_option maxHeartbeats 1000000 in
theorem laws_eqColumn (A A' : Option Addr) (c c' : Nat) (d : PCol) (w : World) (hr : Ints w A d.s.length d.s) (hr' : Ints w A' d.s.length d.s) (hn : d.s.length ≤ 1048576) :
    Calls Try.prog 88 #[.agg #[.int .i64 d.c, .slice A d.s.length c], .agg #[.int .i64 d.c, .slice A' d.s.length c']] w fun e w' => e = .returned (.bool true) ∧ Below w.heap.size w w' := by
  have HR := Lib.hid hr; clear hr
  have HR' := Lib.hid hr'; clear hr'
  go_enter Try.func88, Try.ntmps88
  go_wp2_with fail
  refine (laws_eqIntS _ _ _ _ _ d.s _ (HR.out.below (by (repeat' (first | (with_reducible exact Below.refl _ _) | (with_reducible refine belS ?_ (by first | omega | (simp; done) | (simp; omega) | (simp only [World.size_alloc, World.size_setCell, World.size_drew] at *; omega))) | (with_reducible refine belA ?_ (by first | omega | (simp; done) | (simp; omega) | (simp only [World.size_alloc, World.size_setCell, World.size_drew] at *; omega))) | (with_reducible refine bel_drewN ?_ _) | (with_reducible refine Below.drew ?_) | (with_reducible assumption) | (refine Hid.out ?_; with_reducible assumption) | (apply belV; (with_reducible assumption); exact (by first | omega | (simp; done) | (simp; omega) | (simp only [World.size_alloc, World.size_setCell, World.size_drew] at *; omega))))))) (HR'.out.below (by (repeat' (first | (with_reducible exact Below.refl _ _) | (with_reducible refine belS ?_ (by first | omega | (simp; done) | (simp; omega) | (simp only [World.size_alloc, World.size_setCell, World.size_drew] at *; omega))) | (with_reducible refine belA ?_ (by first | omega | (simp; done) | (simp; omega) | (simp only [World.size_alloc, World.size_setCell, World.size_drew] at *; omega))) | (with_reducible refine bel_drewN ?_ _) | (with_reducible refine Below.drew ?_) | (with_reducible assumption) | (refine Hid.out ?_; with_reducible assumption) | (apply belV; (with_reducible assumption); exact (by first | omega | (simp; done) | (simp; omega) | (simp only [World.size_alloc, World.size_setCell, World.size_drew] at *; omega))))))) hn).mono ?_
  rintro e w1 ⟨rfl, m, rfl⟩
  go_wp2
  go_ret
  exact ⟨rfl, by (repeat' (first | (with_reducible exact Below.refl _ _) | (with_reducible refine belS ?_ (by first | omega | (simp; done) | (simp; omega) | (simp only [World.size_alloc, World.size_setCell, World.size_drew] at *; omega))) | (with_reducible refine belA ?_ (by first | omega | (simp; done) | (simp; omega) | (simp only [World.size_alloc, World.size_setCell, World.size_drew] at *; omega))) | (with_reducible refine bel_drewN ?_ _) | (with_reducible refine Below.drew ?_) | (with_reducible assumption) | (refine Hid.out ?_; with_reducible assumption) | (apply belV; (with_reducible assumption); exact (by first | omega | (simp; done) | (simp; omega) | (simp only [World.size_alloc, World.size_setCell, World.size_drew] at *; omega)))))⟩
set_option maxHeartbeats 4000000 in
theorem laws_eqColumnS (A B : Option Addr) (n c c' : Nat) (cs : List PCol) (w : World) (hR : ColS w A n cs) (hQ : ColS w B n cs) (hs : SmallC cs) :
    Calls Try.prog 38 #[.slice A n c, .slice B n c'] w fun e w' => e = .returned (.bool true) ∧ Below w.heap.size w w' := by
  have hn : n ≤ 1048576 := by have := hR.len; have := hs.1; omega
  have HR := Lib.hid hR; clear hR
  have HQ := Lib.hid hQ; clear hQ
  have HS := Lib.hid hs; clear hs
  go_enter Try.func38, Try.ntmps38
  go_wp2_with fail
  go_loopw [5] (fun s5 wr => ∃ k : Nat, k ≤ n ∧ s5 = .int .i64 k ∧ Hid (Below w.heap.size w wr)) (fun s5 _ => n - (intOf s5).toNat)
  case atStart => exact ⟨0, by omega, rfl, Below.refl _ _⟩
  case round =>
    obtain ⟨k, hk, rfl, hbel⟩ := hrel
    have z0 := hbel.out.size
    by_cases hlt : k < n
    · obtain ⟨b, off, d, A', e', rfl, hb, hx, hxi, lx, mx, hcc, k0, k1⟩ := (HR.out.below hbel.out).at_ hlt
      obtain ⟨b', off', d', B', f', rfl, hb', hy, hyi, ly, my, hdd, l0, l1⟩ := (HQ.out.below hbel.out).at_ hlt
      rw [hx] at hy
      injection hy with hy
      subst hy
      have HV := Lib.hid hxi; clear hxi
      have HW := Lib.hid hyi; clear hyi
      have hsl := HS.out.at_ hx
      clear hx hcc hdd
      go_wp2_with fail
      go_region_held3 (fun w' => w'.cell? ⟨b, off + k * 2, none⟩ = some (.int .i64 d.c) ∧ w'.cell? ⟨b, off + k * 2 + 1, none⟩ = some (.slice A' d.s.length e') ∧ w'.cell? ⟨b', off' + k * 2, none⟩ = some (.int .i64 d.c) ∧ w'.cell? ⟨b', off' + k * 2 + 1, none⟩ = some (.slice B' d.s.length f'))
        (refine ⟨?_, ?_, ?_, ?_⟩ <;> (first | with_reducible assumption | (simp only [World.cell?_drew, World.cell?_drewN, World.frozen?_drew, World.frozen?_drewN]; with_reducible assumption)))
        ((first
          | (go_at_call 88; refine (laws_eqColumn _ _ _ _ d _ (HV.out.below (by (repeat' (first | (with_reducible exact Below.refl _ _) | (with_reducible refine belS ?_ (by first | omega | (simp; done) | (simp; omega) | (simp only [World.size_alloc, World.size_setCell, World.size_drew] at *; omega))) | (with_reducible refine belA ?_ (by first | omega | (simp; done) | (simp; omega) | (simp only [World.size_alloc, World.size_setCell, World.size_drew] at *; omega))) | (with_reducible refine bel_drewN ?_ _) | (with_reducible refine Below.drew ?_) | (with_reducible assumption) | (refine Hid.out ?_; with_reducible assumption) | (apply belV; (with_reducible assumption); exact (by first | omega | (simp; done) | (simp; omega) | (simp only [World.size_alloc, World.size_setCell, World.size_drew] at *; omega))))))) (HW.out.below (by (repeat' (first | (with_reducible exact Below.refl _ _) | (with_reducible refine belS ?_ (by first | omega | (simp; done) | (simp; omega) | (simp only [World.size_alloc, World.size_setCell, World.size_drew] at *; omega))) | (with_reducible refine belA ?_ (by first | omega | (simp; done) | (simp; omega) | (simp only [World.size_alloc, World.size_setCell, World.size_drew] at *; omega))) | (with_reducible refine bel_drewN ?_ _) | (with_reducible refine Below.drew ?_) | (with_reducible assumption) | (refine Hid.out ?_; with_reducible assumption) | (apply belV; (with_reducible assumption); exact (by first | omega | (simp; done) | (simp; omega) | (simp only [World.size_alloc, World.size_setCell, World.size_drew] at *; omega))))))) hsl).mono ?_; rintro e w1 ⟨rfl, hb1⟩; have G1 : Hid (Below w.heap.size w w1) := belU hb1 (by (repeat' (first | (with_reducible exact Below.refl _ _) | (with_reducible refine belS ?_ (by first | omega | (simp; done) | (simp; omega) | (simp only [World.size_alloc, World.size_setCell, World.size_drew] at *; omega))) | (with_reducible refine belA ?_ (by first | omega | (simp; done) | (simp; omega) | (simp only [World.size_alloc, World.size_setCell, World.size_drew] at *; omega))) | (with_reducible refine bel_drewN ?_ _) | (with_reducible refine Below.drew ?_) | (with_reducible assumption) | (refine Hid.out ?_; with_reducible assumption) | (apply belV; (with_reducible assumption); exact (by first | omega | (simp; done) | (simp; omega) | (simp only [World.size_alloc, World.size_setCell, World.size_drew] at *; omega)))))) (by first | omega | (simp; done) | (simp; omega) | (simp only [World.size_alloc, World.size_setCell, World.size_drew] at *; omega)); have j0 : w1.cell? ⟨b, off + k * 2, none⟩ = _ := (hb1.cell (p := ⟨b, off + k * 2, none⟩) (by first | omega | (simp; done) | (simp; omega) | (simp only [World.size_alloc, World.size_setCell, World.size_drew] at *; omega))).trans k0; have i0 : w1.cell? ⟨b', off' + k * 2, none⟩ = _ := (hb1.cell (p := ⟨b', off' + k * 2, none⟩) (by first | omega | (simp; done) | (simp; omega) | (simp only [World.size_alloc, World.size_setCell, World.size_drew] at *; omega))).trans l0; have j1 : w1.cell? ⟨b, off + k * 2 + 1, none⟩ = _ := (hb1.cell (p := ⟨b, off + k * 2 + 1, none⟩) (by first | omega | (simp; done) | (simp; omega) | (simp only [World.size_alloc, World.size_setCell, World.size_drew] at *; omega))).trans k1; have i1 : w1.cell? ⟨b', off' + k * 2 + 1, none⟩ = _ := (hb1.cell (p := ⟨b', off' + k * 2 + 1, none⟩) (by first | omega | (simp; done) | (simp; omega) | (simp only [World.size_alloc, World.size_setCell, World.size_drew] at *; omega))).trans l1; clear hb1)))
      all_goals
        go_wp2_with fail
        go_roundw
        case rel => exact ⟨k + 1, by omega, by go_num, by (refine Lib.hid ?_; (repeat' (first | (with_reducible exact Below.refl _ _) | (with_reducible refine belS ?_ (by first | omega | (simp; done) | (simp; omega) | (simp only [World.size_alloc, World.size_setCell, World.size_drew] at *; omega))) | (with_reducible refine belA ?_ (by first | omega | (simp; done) | (simp; omega) | (simp only [World.size_alloc, World.size_setCell, World.size_drew] at *; omega))) | (with_reducible refine bel_drewN ?_ _) | (with_reducible refine Below.drew ?_) | (with_reducible assumption) | (refine Hid.out ?_; with_reducible assumption) | (apply belV; (with_reducible assumption); exact (by first | omega | (simp; done) | (simp; omega) | (simp only [World.size_alloc, World.size_setCell, World.size_drew] at *; omega))))))⟩
        case measure => simp [intOf]; omega
    · go_wp2_with fail
      go_ret
      exact ⟨rfl, hbel.out⟩
end Go.Proofs.Ytppdomoifnokpaa
