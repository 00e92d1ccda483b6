
/-
  Values of choices and covers: what the program's functions and the model's answer.
-/
import Derived.Test.YtfidahpaidkhgabKn
set_option linter.unusedSimpArgs false
set_option linter.unusedVariables false
namespace Go.Proofs.Ytfidahpaidkhgab
open Go.RowKit

theorem asc_in {ps : List Int} {n : Nat} (h : ascB ps n = true) : ∀ p ∈ ps, 0 ≤ p ∧ p < n := fun p hp => by have := ascB_mem h p hp; omega
theorem wts_le {ws : List Int} {c : Int} (h : vWts ws c = true) : ws.length ≤ 10 := (vWts_facts h).1

set_option maxHeartbeats 2000000 in
set_option maxRecDepth 100000 in
theorem impl_KnapsackValue (A A' Q : Option Addr) (n n' q c c' d : Nat) (a : Int) (vs ws ps : List Int) (w : World) (hI : Ints w A n vs) (hJ : Ints w A' n' ws) (hK : Ints w Q q ps) (hn : n ≤ maxLen) (hn' : n' ≤ maxLen) (hq : q ≤ maxLen) :
    Calls Try.prog 18 #[.slice A n c, .slice A' n' c', .int .i64 a, .slice Q q d] w fun e w' => e = .returned (.int .i64 (kVal vs ws a ps)) ∧ Below w.heap.size w w' := by
  have hm := hn
  have hm' := hn'
  have hmq := hq
  unfold maxLen at hn hn' hq
  obtain rfl := hI.len
  obtain rfl := hJ.len
  obtain rfl := hK.len
  have HI := Lib.hid hI; clear hI
  have HJ := Lib.hid hJ; clear hJ
  have HK := Lib.hid hK; clear hK
  cases h1 : vItems vs ws a
  · have E := Lib.hid (kVal_1 (ps := ps) h1)
    go_enter Try.func18, Try.ntmps18
    go_wp2_with (go_at_call 44; ((with_reducible refine (impl_validItems _ _ _ _ _ _ _ vs ws _ HI.out HJ.out hm hm').mono ?_); rintro e w' ⟨rfl, rfl⟩))
    go_ret
    exact ⟨ret_i E.out.symm, by (repeat' (first | (with_reducible exact Below.refl _ _) | (with_reducible refine belS ?_ (by first | omega | (simp; done) | (simp; omega) | (simp only [World.size_alloc, World.size_setCell, World.size_drew] at *; omega))) | (with_reducible refine belA ?_ (by first | omega | (simp; done) | (simp; omega) | (simp only [World.size_alloc, World.size_setCell, World.size_drew] at *; omega))) | (with_reducible refine bel_drewN ?_ _) | (with_reducible refine Below.drew ?_) | (with_reducible assumption) | (refine Hid.out ?_; with_reducible assumption) | (apply belV; (with_reducible assumption); exact (by first | omega | (simp; done) | (simp; omega) | (simp only [World.size_alloc, World.size_setCell, World.size_drew] at *; omega)))))⟩
  have hvl : Hid (vs.length = ws.length) := (vItems_facts h1).1
  have h10 := wts_le (vItems_facts h1).2.1
  cases h2 : ascB ps vs.length
  · have E := Lib.hid (kVal_2 (vs := vs) (c := a) (by rw [← hvl.out]; exact h2))
    go_enter Try.func18, Try.ntmps18
    go_wp2_with (first | (go_at_call 44; ((with_reducible refine (impl_validItems _ _ _ _ _ _ _ vs ws _ HI.out HJ.out hm hm').mono ?_); rintro e w' ⟨rfl, rfl⟩)) | (go_at_call 51; ((with_reducible refine (impl_ascends _ _ _ (vs.length : Int) ps _ HK.out hmq (by omega) (by have := hvl.out; omega)).mono ?_); rintro e w' ⟨rfl, rfl⟩)))
    go_ret
    exact ⟨ret_i E.out.symm, by (repeat' (first | (with_reducible exact Below.refl _ _) | (with_reducible refine belS ?_ (by first | omega | (simp; done) | (simp; omega) | (simp only [World.size_alloc, World.size_setCell, World.size_drew] at *; omega))) | (with_reducible refine belA ?_ (by first | omega | (simp; done) | (simp; omega) | (simp only [World.size_alloc, World.size_setCell, World.size_drew] at *; omega))) | (with_reducible refine bel_drewN ?_ _) | (with_reducible refine Below.drew ?_) | (with_reducible assumption) | (refine Hid.out ?_; with_reducible assumption) | (apply belV; (with_reducible assumption); exact (by first | omega | (simp; done) | (simp; omega) | (simp only [World.size_alloc, World.size_setCell, World.size_drew] at *; omega)))))⟩
  have h2' : ascB ps ws.length = true := by rw [← hvl.out]; exact h2
  have HA := Lib.hid (asc_in h2)
  have HA' := Lib.hid (asc_in h2')
  by_cases h3 : a < sumW ws ps
  · have E := Lib.hid (kVal_3 (vs := vs) h3)
    go_enter Try.func18, Try.ntmps18
    go_wp2_with (first | (go_at_call 44; ((with_reducible refine (impl_validItems _ _ _ _ _ _ _ vs ws _ HI.out HJ.out hm hm').mono ?_); rintro e w' ⟨rfl, rfl⟩)) | (go_at_call 51; ((with_reducible refine (impl_ascends _ _ _ (vs.length : Int) ps _ HK.out hmq (by omega) (by have := hvl.out; omega)).mono ?_); rintro e w' ⟨rfl, rfl⟩)) | (go_at_call 52; ((with_reducible refine (impl_sumAt _ _ _ _ _ _ ws ps _ HJ.out HK.out hm' hmq HA'.out).mono ?_); rintro e w' ⟨rfl, rfl⟩)))
    go_ret
    exact ⟨ret_i E.out.symm, by (repeat' (first | (with_reducible exact Below.refl _ _) | (with_reducible refine belS ?_ (by first | omega | (simp; done) | (simp; omega) | (simp only [World.size_alloc, World.size_setCell, World.size_drew] at *; omega))) | (with_reducible refine belA ?_ (by first | omega | (simp; done) | (simp; omega) | (simp only [World.size_alloc, World.size_setCell, World.size_drew] at *; omega))) | (with_reducible refine bel_drewN ?_ _) | (with_reducible refine Below.drew ?_) | (with_reducible assumption) | (refine Hid.out ?_; with_reducible assumption) | (apply belV; (with_reducible assumption); exact (by first | omega | (simp; done) | (simp; omega) | (simp only [World.size_alloc, World.size_setCell, World.size_drew] at *; omega)))))⟩
  · have E := Lib.hid (kVal_4 h1 h2' h3)
    go_enter Try.func18, Try.ntmps18
    go_wp2_with (first | (go_at_call 44; ((with_reducible refine (impl_validItems _ _ _ _ _ _ _ vs ws _ HI.out HJ.out hm hm').mono ?_); rintro e w' ⟨rfl, rfl⟩)) | (go_at_call 51; ((with_reducible refine (impl_ascends _ _ _ (vs.length : Int) ps _ HK.out hmq (by omega) (by have := hvl.out; omega)).mono ?_); rintro e w' ⟨rfl, rfl⟩)) | (go_at_call 52; ((with_reducible refine (impl_sumAt _ _ _ _ _ _ ws ps _ HJ.out HK.out hm' hmq HA'.out).mono ?_); rintro e w' ⟨rfl, rfl⟩)) | (go_at_call 52; ((with_reducible refine (impl_sumAt _ _ _ _ _ _ vs ps _ HI.out HK.out hm hmq HA.out).mono ?_); rintro e w' ⟨rfl, rfl⟩)))
    go_ret
    exact ⟨ret_i E.out.symm, by (repeat' (first | (with_reducible exact Below.refl _ _) | (with_reducible refine belS ?_ (by first | omega | (simp; done) | (simp; omega) | (simp only [World.size_alloc, World.size_setCell, World.size_drew] at *; omega))) | (with_reducible refine belA ?_ (by first | omega | (simp; done) | (simp; omega) | (simp only [World.size_alloc, World.size_setCell, World.size_drew] at *; omega))) | (with_reducible refine bel_drewN ?_ _) | (with_reducible refine Below.drew ?_) | (with_reducible assumption) | (refine Hid.out ?_; with_reducible assumption) | (apply belV; (with_reducible assumption); exact (by first | omega | (simp; done) | (simp; omega) | (simp only [World.size_alloc, World.size_setCell, World.size_drew] at *; omega)))))⟩

set_option maxHeartbeats 2000000 in
set_option maxRecDepth 100000 in
theorem impl_IsCover (A' Q : Option Addr) (n' q c' d : Nat) (a : Int) (ws ps : List Int) (w : World) (hJ : Ints w A' n' ws) (hK : Ints w Q q ps) (hn' : n' ≤ maxLen) (hq : q ≤ maxLen) :
    Calls Try.prog 23 #[.slice A' n' c', .int .i64 a, .slice Q q d] w fun e w' => e = .returned (.bool (isCov ws a ps)) ∧ Below w.heap.size w w' := by
  have hm' := hn'
  have hmq := hq
  unfold maxLen at hn' hq
  obtain rfl := hJ.len
  obtain rfl := hK.len
  have HJ := Lib.hid hJ; clear hJ
  have HK := Lib.hid hK; clear hK
  cases h1 : vWts ws a
  · have E := Lib.hid (isCov_1 (ps := ps) h1)
    go_enter Try.func23, Try.ntmps23
    go_wp2_with (go_at_call 58; ((with_reducible refine (impl_validWeights _ _ _ _ ws _ HJ.out hm').mono ?_); rintro e w' ⟨rfl, rfl⟩))
    go_ret
    exact ⟨ret_b E.out.symm, by (repeat' (first | (with_reducible exact Below.refl _ _) | (with_reducible refine belS ?_ (by first | omega | (simp; done) | (simp; omega) | (simp only [World.size_alloc, World.size_setCell, World.size_drew] at *; omega))) | (with_reducible refine belA ?_ (by first | omega | (simp; done) | (simp; omega) | (simp only [World.size_alloc, World.size_setCell, World.size_drew] at *; omega))) | (with_reducible refine bel_drewN ?_ _) | (with_reducible refine Below.drew ?_) | (with_reducible assumption) | (refine Hid.out ?_; with_reducible assumption) | (apply belV; (with_reducible assumption); exact (by first | omega | (simp; done) | (simp; omega) | (simp only [World.size_alloc, World.size_setCell, World.size_drew] at *; omega)))))⟩
  have h10 := wts_le h1
  cases h2 : ascB ps ws.length
  · have E := Lib.hid (isCov_2 (c := a) h2)
    go_enter Try.func23, Try.ntmps23
    go_wp2_with (first | (go_at_call 58; ((with_reducible refine (impl_validWeights _ _ _ _ ws _ HJ.out hm').mono ?_); rintro e w' ⟨rfl, rfl⟩)) | (go_at_call 51; ((with_reducible refine (impl_ascends _ _ _ (ws.length : Int) ps _ HK.out hmq (by omega) (by omega)).mono ?_); rintro e w' ⟨rfl, rfl⟩)))
    go_ret
    exact ⟨ret_b E.out.symm, by (repeat' (first | (with_reducible exact Below.refl _ _) | (with_reducible refine belS ?_ (by first | omega | (simp; done) | (simp; omega) | (simp only [World.size_alloc, World.size_setCell, World.size_drew] at *; omega))) | (with_reducible refine belA ?_ (by first | omega | (simp; done) | (simp; omega) | (simp only [World.size_alloc, World.size_setCell, World.size_drew] at *; omega))) | (with_reducible refine bel_drewN ?_ _) | (with_reducible refine Below.drew ?_) | (with_reducible assumption) | (refine Hid.out ?_; with_reducible assumption) | (apply belV; (with_reducible assumption); exact (by first | omega | (simp; done) | (simp; omega) | (simp only [World.size_alloc, World.size_setCell, World.size_drew] at *; omega)))))⟩
  · have HA := Lib.hid (asc_in h2)
    have E := Lib.hid (isCov_3 h1 h2)
    go_enter Try.func23, Try.ntmps23
    go_wp2_with (first | (go_at_call 58; ((with_reducible refine (impl_validWeights _ _ _ _ ws _ HJ.out hm').mono ?_); rintro e w' ⟨rfl, rfl⟩)) | (go_at_call 51; ((with_reducible refine (impl_ascends _ _ _ (ws.length : Int) ps _ HK.out hmq (by omega) (by omega)).mono ?_); rintro e w' ⟨rfl, rfl⟩)) | (go_at_call 52; ((with_reducible refine (impl_sumAt _ _ _ _ _ _ ws ps _ HJ.out HK.out hm' hmq HA.out).mono ?_); rintro e w' ⟨rfl, rfl⟩)))
    go_ret
    exact ⟨ret_b E.out.symm, by (repeat' (first | (with_reducible exact Below.refl _ _) | (with_reducible refine belS ?_ (by first | omega | (simp; done) | (simp; omega) | (simp only [World.size_alloc, World.size_setCell, World.size_drew] at *; omega))) | (with_reducible refine belA ?_ (by first | omega | (simp; done) | (simp; omega) | (simp only [World.size_alloc, World.size_setCell, World.size_drew] at *; omega))) | (with_reducible refine bel_drewN ?_ _) | (with_reducible refine Below.drew ?_) | (with_reducible assumption) | (refine Hid.out ?_; with_reducible assumption) | (apply belV; (with_reducible assumption); exact (by first | omega | (simp; done) | (simp; omega) | (simp only [World.size_alloc, World.size_setCell, World.size_drew] at *; omega)))))⟩

set_option maxHeartbeats 1000000 in
theorem spec_isCover (A' Q : Option Addr) (n' q c' d : Nat) (a : Int) (ws ps : List Int) (w : World) (hJ : Ints w A' n' ws) (hK : Ints w Q q ps) (hn' : n' ≤ maxLen) (hq : q ≤ maxLen) (hp : ∀ p ∈ ps, 0 ≤ p ∧ p < n') :
    Calls Try.prog 86 #[.slice A' n' c', .int .i64 a, .slice Q q d] w fun e w' => e = .returned (.bool (decide (a < sumW ws ps))) ∧ w = w' := by
  have HJ := Lib.hid hJ; clear hJ
  have HK := Lib.hid hK; clear hK
  have HP := Lib.hid hp; clear hp
  go_enter Try.func86, Try.ntmps86
  go_wp2_with (go_at_call 50; ((with_reducible refine (spec_sumAt _ _ _ _ _ _ ws ps _ HJ.out HK.out hn' hq HP.out).mono ?_); rintro e w' ⟨rfl, rfl⟩))
  go_ret
  exact ⟨rfl, rfl⟩

set_option maxHeartbeats 2000000 in
set_option maxRecDepth 100000 in
theorem spec_IsCover (A' Q : Option Addr) (n' q c' d : Nat) (a : Int) (ws ps : List Int) (w : World) (hJ : Ints w A' n' ws) (hK : Ints w Q q ps) (hn' : n' ≤ maxLen) (hq : q ≤ maxLen) :
    Calls Try.prog 56 #[.slice A' n' c', .int .i64 a, .slice Q q d] w fun e w' => e = .returned (.bool (isCov ws a ps)) ∧ Below w.heap.size w w' := by
  have hm' := hn'
  have hmq := hq
  unfold maxLen at hn' hq
  obtain rfl := hJ.len
  obtain rfl := hK.len
  have HJ := Lib.hid hJ; clear hJ
  have HK := Lib.hid hK; clear hK
  cases h1 : vWts ws a
  · have E := Lib.hid (isCov_1 (ps := ps) h1)
    go_enter Try.func56, Try.ntmps56
    go_wp2_with (go_at_call 68; ((with_reducible refine (spec_validWeights _ _ _ _ ws _ HJ.out hm').mono ?_); rintro e w' ⟨rfl, rfl⟩))
    go_ret
    exact ⟨ret_b E.out.symm, by (repeat' (first | (with_reducible exact Below.refl _ _) | (with_reducible refine belS ?_ (by first | omega | (simp; done) | (simp; omega) | (simp only [World.size_alloc, World.size_setCell, World.size_drew] at *; omega))) | (with_reducible refine belA ?_ (by first | omega | (simp; done) | (simp; omega) | (simp only [World.size_alloc, World.size_setCell, World.size_drew] at *; omega))) | (with_reducible refine bel_drewN ?_ _) | (with_reducible refine Below.drew ?_) | (with_reducible assumption) | (refine Hid.out ?_; with_reducible assumption) | (apply belV; (with_reducible assumption); exact (by first | omega | (simp; done) | (simp; omega) | (simp only [World.size_alloc, World.size_setCell, World.size_drew] at *; omega)))))⟩
  have h10 := wts_le h1
  cases h2 : ascB ps ws.length
  · have E := Lib.hid (isCov_2 (c := a) h2)
    go_enter Try.func56, Try.ntmps56
    go_wp2_with (first | (go_at_call 68; ((with_reducible refine (spec_validWeights _ _ _ _ ws _ HJ.out hm').mono ?_); rintro e w' ⟨rfl, rfl⟩)) | (go_at_call 85; ((with_reducible refine (spec_ascending _ _ _ (ws.length : Int) _ ps _ (HK.out.below (by (repeat' (first | (with_reducible exact Below.refl _ _) | (with_reducible refine belS ?_ (by first | omega | (simp; done) | (simp; omega) | (simp only [World.size_alloc, World.size_setCell, World.size_drew] at *; omega))) | (with_reducible refine belA ?_ (by first | omega | (simp; done) | (simp; omega) | (simp only [World.size_alloc, World.size_setCell, World.size_drew] at *; omega))) | (with_reducible refine bel_drewN ?_ _) | (with_reducible refine Below.drew ?_) | (with_reducible assumption) | (refine Hid.out ?_; with_reducible assumption) | (apply belV; (with_reducible assumption); exact (by first | omega | (simp; done) | (simp; omega) | (simp only [World.size_alloc, World.size_setCell, World.size_drew] at *; omega))))))) hmq rfl).mono ?_); rintro e w' ⟨rfl, d1, rfl⟩)))
    go_ret
    exact ⟨ret_b E.out.symm, by (repeat' (first | (with_reducible exact Below.refl _ _) | (with_reducible refine belS ?_ (by first | omega | (simp; done) | (simp; omega) | (simp only [World.size_alloc, World.size_setCell, World.size_drew] at *; omega))) | (with_reducible refine belA ?_ (by first | omega | (simp; done) | (simp; omega) | (simp only [World.size_alloc, World.size_setCell, World.size_drew] at *; omega))) | (with_reducible refine bel_drewN ?_ _) | (with_reducible refine Below.drew ?_) | (with_reducible assumption) | (refine Hid.out ?_; with_reducible assumption) | (apply belV; (with_reducible assumption); exact (by first | omega | (simp; done) | (simp; omega) | (simp only [World.size_alloc, World.size_setCell, World.size_drew] at *; omega)))))⟩
  · have HA := Lib.hid (asc_in h2)
    have E := Lib.hid (isCov_3 h1 h2)
    go_enter Try.func56, Try.ntmps56
    go_wp2_with (first | (go_at_call 68; ((with_reducible refine (spec_validWeights _ _ _ _ ws _ HJ.out hm').mono ?_); rintro e w' ⟨rfl, rfl⟩)) | (go_at_call 85; ((with_reducible refine (spec_ascending _ _ _ (ws.length : Int) _ ps _ (HK.out.below (by (repeat' (first | (with_reducible exact Below.refl _ _) | (with_reducible refine belS ?_ (by first | omega | (simp; done) | (simp; omega) | (simp only [World.size_alloc, World.size_setCell, World.size_drew] at *; omega))) | (with_reducible refine belA ?_ (by first | omega | (simp; done) | (simp; omega) | (simp only [World.size_alloc, World.size_setCell, World.size_drew] at *; omega))) | (with_reducible refine bel_drewN ?_ _) | (with_reducible refine Below.drew ?_) | (with_reducible assumption) | (refine Hid.out ?_; with_reducible assumption) | (apply belV; (with_reducible assumption); exact (by first | omega | (simp; done) | (simp; omega) | (simp only [World.size_alloc, World.size_setCell, World.size_drew] at *; omega))))))) hmq rfl).mono ?_); rintro e w' ⟨rfl, d1, rfl⟩)) | (go_at_call 86; ((with_reducible refine (spec_isCover _ _ _ _ _ _ a ws ps _ (HJ.out.below (by (repeat' (first | (with_reducible exact Below.refl _ _) | (with_reducible refine belS ?_ (by first | omega | (simp; done) | (simp; omega) | (simp only [World.size_alloc, World.size_setCell, World.size_drew] at *; omega))) | (with_reducible refine belA ?_ (by first | omega | (simp; done) | (simp; omega) | (simp only [World.size_alloc, World.size_setCell, World.size_drew] at *; omega))) | (with_reducible refine bel_drewN ?_ _) | (with_reducible refine Below.drew ?_) | (with_reducible assumption) | (refine Hid.out ?_; with_reducible assumption) | (apply belV; (with_reducible assumption); exact (by first | omega | (simp; done) | (simp; omega) | (simp only [World.size_alloc, World.size_setCell, World.size_drew] at *; omega))))))) (HK.out.below (by (repeat' (first | (with_reducible exact Below.refl _ _) | (with_reducible refine belS ?_ (by first | omega | (simp; done) | (simp; omega) | (simp only [World.size_alloc, World.size_setCell, World.size_drew] at *; omega))) | (with_reducible refine belA ?_ (by first | omega | (simp; done) | (simp; omega) | (simp only [World.size_alloc, World.size_setCell, World.size_drew] at *; omega))) | (with_reducible refine bel_drewN ?_ _) | (with_reducible refine Below.drew ?_) | (with_reducible assumption) | (refine Hid.out ?_; with_reducible assumption) | (apply belV; (with_reducible assumption); exact (by first | omega | (simp; done) | (simp; omega) | (simp only [World.size_alloc, World.size_setCell, World.size_drew] at *; omega))))))) hm' hmq HA.out).mono ?_); rintro e w' ⟨rfl, rfl⟩)))
    go_ret
    exact ⟨ret_b E.out.symm, by (repeat' (first | (with_reducible exact Below.refl _ _) | (with_reducible refine belS ?_ (by first | omega | (simp; done) | (simp; omega) | (simp only [World.size_alloc, World.size_setCell, World.size_drew] at *; omega))) | (with_reducible refine belA ?_ (by first | omega | (simp; done) | (simp; omega) | (simp only [World.size_alloc, World.size_setCell, World.size_drew] at *; omega))) | (with_reducible refine bel_drewN ?_ _) | (with_reducible refine Below.drew ?_) | (with_reducible assumption) | (refine Hid.out ?_; with_reducible assumption) | (apply belV; (with_reducible assumption); exact (by first | omega | (simp; done) | (simp; omega) | (simp only [World.size_alloc, World.size_setCell, World.size_drew] at *; omega)))))⟩
end Go.Proofs.Ytfidahpaidkhgab
