
/-
  The helpers of the exact laws on slices of slices and on fleets.
-/
import Derived.Test.YtppdomoifnokpaaVa
import Derived.Test.YtppdomoifnokpaaFs
import Derived.Test.YtppdomoifnokpaaTp
set_option linter.unusedSimpArgs false
set_option linter.unusedVariables false
namespace Go.Proofs.Ytppdomoifnokpaa
open Go.RowKit

def AllSmallL (xss : List (List Int)) (k : Nat) : Prop := ∀ i xs, i < k → xss[i]? = some xs → xs.length ≤ 1048576
theorem AllSmallL.end_ {xss : List (List Int)} {k : Nat} (h : AllSmallL xss k) (hk : xss.length ≤ k) (hn : xss.length ≤ 1048576) : SmallL xss := ⟨hn, fun xs hx => by
  obtain ⟨i, hi⟩ := List.mem_iff_getElem?.1 hx
  have hlt : i < xss.length := (List.getElem?_eq_some_iff.1 hi).1
  exact h i xs (by omega) hi⟩
theorem AllSmallL.step {xss : List (List Int)} {k : Nat} {xs : List Int} (h : AllSmallL xss k) (hx : xss[k]? = some xs) (hs : xs.length ≤ 1048576) : AllSmallL xss (k + 1) := fun i ys hi hy => by
  by_cases e : i = k
  · subst e
    rw [hx] at hy
    injection hy with hy
    subst hy
    exact hs
  · exact h i ys (by omega) hy
theorem AllSmallL.zero (xss : List (List Int)) : AllSmallL xss 0 := fun i xs hi => by omega

set_option maxHeartbeats 1000000 in
theorem laws_szIntSS (A : Option Addr) (n c : Nat) (xss : List (List Int)) (left : Int) (w : World) (hR : Lists w A n xss) (hn : n ≤ maxLen) (h0 : 0 ≤ left) (h1 : left ≤ 1048576) :
    Calls Try.prog 60 #[.slice A n c, .int .i64 left] w (SzEnd left (SmallL xss) w) := by
  unfold maxLen at hn
  have HR := Lib.hid hR; clear hR
  by_cases h : left - n < 0
  · go_enter Try.func60, Try.ntmps60
    go_wp2
    go_ret
    exact ⟨-1, .inl rfl, rfl, by (repeat' (first | (with_reducible exact Below.refl _ _) | (with_reducible refine belS ?_ (by first | omega | (simp; done) | (simp; omega) | (simp only [World.size_alloc, World.size_setCell, World.size_drew] at *; omega))) | (with_reducible refine belA ?_ (by first | omega | (simp; done) | (simp; omega) | (simp only [World.size_alloc, World.size_setCell, World.size_drew] at *; omega))) | (with_reducible refine bel_drewN ?_ _) | (with_reducible refine Below.drew ?_) | (with_reducible assumption) | (refine Hid.out ?_; with_reducible assumption) | (apply belV; (with_reducible assumption); exact (by first | omega | (simp; done) | (simp; omega) | (simp only [World.size_alloc, World.size_setCell, World.size_drew] at *; omega)))))⟩
  · have hn2 : n ≤ 1048576 := by omega
    have h' : 0 ≤ left - n := by omega
    clear h
    go_enter Try.func60, Try.ntmps60
    go_wp2_with fail
    go_loopw [1, 5] (fun s1 s5 wr => ∃ (k : Nat) (l : Int), k ≤ n ∧ s5 = .int .i64 k ∧ s1 = .int .i64 l ∧ 0 ≤ l ∧ l ≤ left ∧ Hid (AllSmallL xss k) ∧ Hid (Below w.heap.size w wr)) (fun _ s5 _ => n - (intOf s5).toNat)
    case atStart => exact ⟨0, _, by omega, rfl, rfl, by omega, by omega, AllSmallL.zero _, Below.refl _ _⟩
    case round =>
      obtain ⟨k, l, hk, rfl, rfl, hl0, hl1, hsm, hbel⟩ := hrel
      by_cases hlt : k < n
      · obtain ⟨b, off, xs, A', c', rfl, hb, hx, hxi, lx, mx, hc⟩ := (HR.out.below hbel.out).at_ hlt
        have HX := Lib.hid hx; clear hx hxi
        have hsl : xs.length ≤ maxLen := Nat.le_trans lx mx
        go_wp2_with fail
        refine (szIntS_any _ _ _ _ _ hsl hl0 (by omega)).mono ?_
        rintro e w1 ⟨v, hv, rfl, hb1⟩
        have G1 : Hid (Below w.heap.size w w1) := belU hb1 (by (repeat' (first | (with_reducible exact Below.refl _ _) | (with_reducible refine belS ?_ (by first | omega | (simp; done) | (simp; omega) | (simp only [World.size_alloc, World.size_setCell, World.size_drew] at *; omega))) | (with_reducible refine belA ?_ (by first | omega | (simp; done) | (simp; omega) | (simp only [World.size_alloc, World.size_setCell, World.size_drew] at *; omega))) | (with_reducible refine bel_drewN ?_ _) | (with_reducible refine Below.drew ?_) | (with_reducible assumption) | (refine Hid.out ?_; with_reducible assumption) | (apply belV; (with_reducible assumption); exact (by first | omega | (simp; done) | (simp; omega) | (simp only [World.size_alloc, World.size_setCell, World.size_drew] at *; omega)))))) hbel.out.size
        clear hb1
        rcases hv with rfl | ⟨hv0, hv1, hvs⟩
        · go_wp2_with fail
          go_ret
          exact ⟨-1, .inl rfl, rfl, by (repeat' (first | (with_reducible exact Below.refl _ _) | (with_reducible refine belS ?_ (by first | omega | (simp; done) | (simp; omega) | (simp only [World.size_alloc, World.size_setCell, World.size_drew] at *; omega))) | (with_reducible refine belA ?_ (by first | omega | (simp; done) | (simp; omega) | (simp only [World.size_alloc, World.size_setCell, World.size_drew] at *; omega))) | (with_reducible refine bel_drewN ?_ _) | (with_reducible refine Below.drew ?_) | (with_reducible assumption) | (refine Hid.out ?_; with_reducible assumption) | (apply belV; (with_reducible assumption); exact (by first | omega | (simp; done) | (simp; omega) | (simp only [World.size_alloc, World.size_setCell, World.size_drew] at *; omega)))))⟩
        · go_wp2_with fail
          go_roundw
          case rel => exact ⟨k + 1, v, by omega, by go_num, rfl, hv0, by omega, hsm.out.step HX.out hvs, G1⟩
          case measure => simp [intOf]; omega
      · go_wp2_with fail
        go_ret
        exact ⟨l, .inr ⟨hl0, hl1, hsm.out.end_ (by have := HR.out.len; omega) (by have := HR.out.len; omega)⟩, rfl, hbel.out⟩
theorem info_ints : (Try.prog.info? 22).map (fun i => (i.zero, i.size, i.bytes)) = some (some (.slice none 0 0), 1, 24) := by kernel_rfl
def ToListsEnd (n : Nat) (xss : List (List Int)) (w : World) (e : Ending) (w' : World) : Prop :=
  ∃ g, e = .returned (.slice (some ⟨g, 0, none⟩) n n) ∧ OwnL w' w.heap.size g n xss n ∧ Lists w' (some ⟨g, 0, none⟩) n xss ∧ Below w.heap.size w w'
set_option maxHeartbeats 2000000 in
theorem laws_toIntSS (A : Option Addr) (n c : Nat) (xss : List (List Int)) (w : World) (hR : Lists w A n xss) (hs : SmallL xss) : Calls Try.prog 63 #[.slice A n c] w (ToListsEnd n xss w) := by
  have hn : n ≤ 1048576 := by have := hR.len; have := hs.1; omega
  obtain ⟨i0, hi0, hz0, hz1, hz2⟩ := info_parts info_ints
  have hmk := fun W => run_makeN (P := Try.prog) 38 22 i0 _ Try.underlying38 hi0 hz0 n (by rw [hz2]; omega) (by omega) W
  simp only [hz1, Nat.mul_one] at hmk
  have HR := Lib.hid hR; clear hR
  have HS := Lib.hid hs; clear hs
  go_enter Try.func63, Try.ntmps63
  go_wp2_with fail
  go_loopw [4] (fun s4 wr => ∃ k : Nat, k ≤ n ∧ s4 = .int .i64 k ∧ Hid (OwnL wr w.heap.size w.heap.size n xss k) ∧ Hid (Below w.heap.size w wr)) (fun s4 _ => n - (intOf s4).toNat)
  case atStart => exact ⟨0, by omega, rfl, OwnL.made w _ _ n xss rfl, belA (Below.refl _ _) (Nat.le_refl _)⟩
  case round =>
    obtain ⟨k, hk, rfl, hown, hbel⟩ := hrel
    have z0 := hown.out.2.1
    by_cases hlt : k < n
    · obtain ⟨b, off, xs, A', c', rfl, hb, hx, hxi, lx, mx, hc⟩ := (HR.out.below hbel.out).at_ hlt
      have HX := Lib.hid hx; clear hx
      have HV := Lib.hid hxi; clear hxi
      have hsl := HS.out.at_ HX.out
      have hml : xs.length ≤ maxLen := Nat.le_trans lx mx
      have HI64 : Hid (∀ x ∈ xs, I64 x) := HV.out.2.1
      go_wp2_with fail
      refine (laws_toIntS _ _ _ xs _ HV.out hsl).mono ?_
      rintro e w1 ⟨g1, rfl, hg1, ho1, hr1, hb1⟩
      have G1 : Hid (Below w.heap.size w w1) := belU hb1 (by (repeat' (first | (with_reducible exact Below.refl _ _) | (with_reducible refine belS ?_ (by first | omega | (simp; done) | (simp; omega) | (simp only [World.size_alloc, World.size_setCell, World.size_drew] at *; omega))) | (with_reducible refine belA ?_ (by first | omega | (simp; done) | (simp; omega) | (simp only [World.size_alloc, World.size_setCell, World.size_drew] at *; omega))) | (with_reducible refine bel_drewN ?_ _) | (with_reducible refine Below.drew ?_) | (with_reducible assumption) | (refine Hid.out ?_; with_reducible assumption) | (apply belV; (with_reducible assumption); exact (by first | omega | (simp; done) | (simp; omega) | (simp only [World.size_alloc, World.size_setCell, World.size_drew] at *; omega)))))) hbel.out.size
      have HO := Lib.hid ho1; clear ho1 hr1
      obtain ⟨v0, m0, f0⟩ := (hown.out.below hb1).room hlt
      have HB := Lib.hid hb1; clear hb1
      go_wp2_with fail
      go_roundw
      case rel => exact ⟨k + 1, by omega, by go_num, Lib.hid ((hown.out.below HB.out).store HX.out hlt HO.out HI64.out hml (by omega) (by omega)), by clear HO hown; (refine Lib.hid ?_; (repeat' (first | (with_reducible exact Below.refl _ _) | (with_reducible refine belS ?_ (by first | omega | (simp; done) | (simp; omega) | (simp only [World.size_alloc, World.size_setCell, World.size_drew] at *; omega))) | (with_reducible refine belA ?_ (by first | omega | (simp; done) | (simp; omega) | (simp only [World.size_alloc, World.size_setCell, World.size_drew] at *; omega))) | (with_reducible refine bel_drewN ?_ _) | (with_reducible refine Below.drew ?_) | (with_reducible assumption) | (refine Hid.out ?_; with_reducible assumption) | (apply belV; (with_reducible assumption); exact (by first | omega | (simp; done) | (simp; omega) | (simp only [World.size_alloc, World.size_setCell, World.size_drew] at *; omega))))))⟩
      case measure => simp [intOf]; omega
    · have hke : k = n := by omega
      subst hke
      go_wp2_with fail
      go_ret
      exact ⟨w.heap.size, rfl, hown.out, hown.out.lists HR.out.len, hbel.out⟩

set_option maxHeartbeats 2000000 in
theorem laws_eqIntSS (A B : Option Addr) (n c c' : Nat) (xss : List (List Int)) (w : World) (hR : Lists w A n xss) (hQ : Lists w B n xss) (hs : SmallL xss) :
    Calls Try.prog 68 #[.slice A n c, .slice B n c'] w fun e w' => e = .returned (.bool true) ∧ Below w.heap.size w w' := by
  have hn : n ≤ 1048576 := by have := hR.len; have := hs.1; omega
  have HR := Lib.hid hR; clear hR
  have HQ := Lib.hid hQ; clear hQ
  have HS := Lib.hid hs; clear hs
  go_enter Try.func68, Try.ntmps68
  go_wp2_with fail
  go_loopw [5] (fun s5 wr => ∃ k : Nat, k ≤ n ∧ s5 = .int .i64 k ∧ Hid (Below w.heap.size w wr)) (fun s5 _ => n - (intOf s5).toNat)
  case atStart => exact ⟨0, by omega, rfl, Below.refl _ _⟩
  case round =>
    obtain ⟨k, hk, rfl, hbel⟩ := hrel
    have z0 := hbel.out.size
    by_cases hlt : k < n
    · obtain ⟨b, off, xs, A', c', rfl, hb, hx, hxi, lx, mx, hc⟩ := (HR.out.below hbel.out).at_ hlt
      obtain ⟨b', off', ys, B', d', rfl, hb', hy, hyi, ly, my, hd⟩ := (HQ.out.below hbel.out).at_ hlt
      rw [hx] at hy
      injection hy with hy
      subst hy
      have HV := Lib.hid hxi; clear hxi
      have HW := Lib.hid hyi; clear hyi
      have hsl := HS.out.at_ hx
      clear hx
      go_wp2_with fail
      go_region_held3 (fun w' => w'.cell? ⟨b, off + k, none⟩ = some (.slice A' xs.length c') ∧ w'.cell? ⟨b', off' + k, none⟩ = some (.slice B' xs.length d'))
        (refine ⟨?_, ?_⟩ <;> (first | with_reducible assumption | (simp only [World.cell?_drew, World.cell?_drewN, World.frozen?_drew, World.frozen?_drewN]; with_reducible assumption)))
        ((first
          | (go_at_call 16; refine (eqIntS_any _ _ _ _ _ xs _ (HV.out.below (by (repeat' (first | (with_reducible exact Below.refl _ _) | (with_reducible refine belS ?_ (by first | omega | (simp; done) | (simp; omega) | (simp only [World.size_alloc, World.size_setCell, World.size_drew] at *; omega))) | (with_reducible refine belA ?_ (by first | omega | (simp; done) | (simp; omega) | (simp only [World.size_alloc, World.size_setCell, World.size_drew] at *; omega))) | (with_reducible refine bel_drewN ?_ _) | (with_reducible refine Below.drew ?_) | (with_reducible assumption) | (refine Hid.out ?_; with_reducible assumption) | (apply belV; (with_reducible assumption); exact (by first | omega | (simp; done) | (simp; omega) | (simp only [World.size_alloc, World.size_setCell, World.size_drew] at *; omega))))))) (HW.out.below (by (repeat' (first | (with_reducible exact Below.refl _ _) | (with_reducible refine belS ?_ (by first | omega | (simp; done) | (simp; omega) | (simp only [World.size_alloc, World.size_setCell, World.size_drew] at *; omega))) | (with_reducible refine belA ?_ (by first | omega | (simp; done) | (simp; omega) | (simp only [World.size_alloc, World.size_setCell, World.size_drew] at *; omega))) | (with_reducible refine bel_drewN ?_ _) | (with_reducible refine Below.drew ?_) | (with_reducible assumption) | (refine Hid.out ?_; with_reducible assumption) | (apply belV; (with_reducible assumption); exact (by first | omega | (simp; done) | (simp; omega) | (simp only [World.size_alloc, World.size_setCell, World.size_drew] at *; omega))))))) hsl).mono ?_; rintro e w1 ⟨rfl, hb1⟩; have G1 : Hid (Below w.heap.size w w1) := belU hb1 (by (repeat' (first | (with_reducible exact Below.refl _ _) | (with_reducible refine belS ?_ (by first | omega | (simp; done) | (simp; omega) | (simp only [World.size_alloc, World.size_setCell, World.size_drew] at *; omega))) | (with_reducible refine belA ?_ (by first | omega | (simp; done) | (simp; omega) | (simp only [World.size_alloc, World.size_setCell, World.size_drew] at *; omega))) | (with_reducible refine bel_drewN ?_ _) | (with_reducible refine Below.drew ?_) | (with_reducible assumption) | (refine Hid.out ?_; with_reducible assumption) | (apply belV; (with_reducible assumption); exact (by first | omega | (simp; done) | (simp; omega) | (simp only [World.size_alloc, World.size_setCell, World.size_drew] at *; omega)))))) (by first | omega | (simp; done) | (simp; omega) | (simp only [World.size_alloc, World.size_setCell, World.size_drew] at *; omega)); have j0 : w1.cell? ⟨b, off + k, none⟩ = _ := (hb1.cell (p := ⟨b, off + k, none⟩) (by first | omega | (simp; done) | (simp; omega) | (simp only [World.size_alloc, World.size_setCell, World.size_drew] at *; omega))).trans hc; have i0 : w1.cell? ⟨b', off' + k, none⟩ = _ := (hb1.cell (p := ⟨b', off' + k, none⟩) (by first | omega | (simp; done) | (simp; omega) | (simp only [World.size_alloc, World.size_setCell, World.size_drew] at *; omega))).trans hd; clear hb1)))
      all_goals
        go_wp2_with fail
        go_roundw
        case rel => exact ⟨k + 1, by omega, by go_num, by (refine Lib.hid ?_; (repeat' (first | (with_reducible exact Below.refl _ _) | (with_reducible refine belS ?_ (by first | omega | (simp; done) | (simp; omega) | (simp only [World.size_alloc, World.size_setCell, World.size_drew] at *; omega))) | (with_reducible refine belA ?_ (by first | omega | (simp; done) | (simp; omega) | (simp only [World.size_alloc, World.size_setCell, World.size_drew] at *; omega))) | (with_reducible refine bel_drewN ?_ _) | (with_reducible refine Below.drew ?_) | (with_reducible assumption) | (refine Hid.out ?_; with_reducible assumption) | (apply belV; (with_reducible assumption); exact (by first | omega | (simp; done) | (simp; omega) | (simp only [World.size_alloc, World.size_setCell, World.size_drew] at *; omega))))))⟩
        case measure => simp [intOf]; omega
    · go_wp2_with fail
      go_ret
      exact ⟨rfl, hbel.out⟩
end Go.Proofs.Ytppdomoifnokpaa
