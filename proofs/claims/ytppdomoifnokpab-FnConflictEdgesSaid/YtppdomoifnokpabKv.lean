
/-
  Values of choices and covers: what the program's functions and the model's answer.
-/
import Derived.Test.YtppdomoifnokpabKn
set_option linter.unusedSimpArgs false
set_option linter.unusedVariables false
namespace Go.Proofs.Ytppdomoifnokpab
open Go.RowKit

theorem asc_in {ps : List Int} {n : Nat} (h : ascB ps n = true) : ∀ p ∈ ps, 0 ≤ p ∧ p < n := fun p hp => by have := ascB_mem h p hp; omega
theorem wts_le {ws : List Int} {c : Int} (h : vWts ws c = true) : ws.length ≤ 10 := (vWts_facts h).1

set_option maxHeartbeats 2000000 in
set_option maxRecDepth 100000 in
theorem impl_IsCover (A' Q : Option Addr) (n' q c' d : Nat) (a : Int) (ws ps : List Int) (w : World) (hJ : Ints w A' n' ws) (hK : Ints w Q q ps) (hn' : n' ≤ maxLen) (hq : q ≤ maxLen) :
    Calls Try.prog 19 #[.slice A' n' c', .int .i64 a, .slice Q q d] w fun e w' => e = .returned (.bool (isCov ws a ps)) ∧ Below w.heap.size w w' := by
  have hm' := hn'
  have hmq := hq
  unfold maxLen at hn' hq
  obtain rfl := hJ.len
  obtain rfl := hK.len
  have HJ := Lib.hid hJ; clear hJ
  have HK := Lib.hid hK; clear hK
  cases h1 : vWts ws a
  · have E := Lib.hid (isCov_1 (ps := ps) h1)
    go_enter Try.func19, Try.ntmps19
    go_wp2_with (go_at_call 53; ((with_reducible refine (impl_validWeights _ _ _ _ ws _ HJ.out hm').mono ?_); rintro e w' ⟨rfl, rfl⟩))
    go_ret
    exact ⟨ret_b E.out.symm, by (repeat' (first | (with_reducible exact Below.refl _ _) | (with_reducible refine belS ?_ (by first | omega | (simp; done) | (simp; omega) | (simp only [World.size_alloc, World.size_setCell, World.size_drew] at *; omega))) | (with_reducible refine belA ?_ (by first | omega | (simp; done) | (simp; omega) | (simp only [World.size_alloc, World.size_setCell, World.size_drew] at *; omega))) | (with_reducible refine bel_drewN ?_ _) | (with_reducible refine Below.drew ?_) | (with_reducible assumption) | (refine Hid.out ?_; with_reducible assumption) | (apply belV; (with_reducible assumption); exact (by first | omega | (simp; done) | (simp; omega) | (simp only [World.size_alloc, World.size_setCell, World.size_drew] at *; omega)))))⟩
  have h10 := wts_le h1
  cases h2 : ascB ps ws.length
  · have E := Lib.hid (isCov_2 (c := a) h2)
    go_enter Try.func19, Try.ntmps19
    go_wp2_with (first | (go_at_call 53; ((with_reducible refine (impl_validWeights _ _ _ _ ws _ HJ.out hm').mono ?_); rintro e w' ⟨rfl, rfl⟩)) | (go_at_call 57; ((with_reducible refine (impl_ascends _ _ _ (ws.length : Int) ps _ HK.out hmq (by omega) (by omega)).mono ?_); rintro e w' ⟨rfl, rfl⟩)))
    go_ret
    exact ⟨ret_b E.out.symm, by (repeat' (first | (with_reducible exact Below.refl _ _) | (with_reducible refine belS ?_ (by first | omega | (simp; done) | (simp; omega) | (simp only [World.size_alloc, World.size_setCell, World.size_drew] at *; omega))) | (with_reducible refine belA ?_ (by first | omega | (simp; done) | (simp; omega) | (simp only [World.size_alloc, World.size_setCell, World.size_drew] at *; omega))) | (with_reducible refine bel_drewN ?_ _) | (with_reducible refine Below.drew ?_) | (with_reducible assumption) | (refine Hid.out ?_; with_reducible assumption) | (apply belV; (with_reducible assumption); exact (by first | omega | (simp; done) | (simp; omega) | (simp only [World.size_alloc, World.size_setCell, World.size_drew] at *; omega)))))⟩
  · have HA := Lib.hid (asc_in h2)
    have E := Lib.hid (isCov_3 h1 h2)
    go_enter Try.func19, Try.ntmps19
    go_wp2_with (first | (go_at_call 53; ((with_reducible refine (impl_validWeights _ _ _ _ ws _ HJ.out hm').mono ?_); rintro e w' ⟨rfl, rfl⟩)) | (go_at_call 57; ((with_reducible refine (impl_ascends _ _ _ (ws.length : Int) ps _ HK.out hmq (by omega) (by omega)).mono ?_); rintro e w' ⟨rfl, rfl⟩)) | (go_at_call 58; ((with_reducible refine (impl_sumAt _ _ _ _ _ _ ws ps _ HJ.out HK.out hm' hmq HA.out).mono ?_); rintro e w' ⟨rfl, rfl⟩)))
    go_ret
    exact ⟨ret_b E.out.symm, by (repeat' (first | (with_reducible exact Below.refl _ _) | (with_reducible refine belS ?_ (by first | omega | (simp; done) | (simp; omega) | (simp only [World.size_alloc, World.size_setCell, World.size_drew] at *; omega))) | (with_reducible refine belA ?_ (by first | omega | (simp; done) | (simp; omega) | (simp only [World.size_alloc, World.size_setCell, World.size_drew] at *; omega))) | (with_reducible refine bel_drewN ?_ _) | (with_reducible refine Below.drew ?_) | (with_reducible assumption) | (refine Hid.out ?_; with_reducible assumption) | (apply belV; (with_reducible assumption); exact (by first | omega | (simp; done) | (simp; omega) | (simp only [World.size_alloc, World.size_setCell, World.size_drew] at *; omega)))))⟩

end Go.Proofs.Ytppdomoifnokpab
