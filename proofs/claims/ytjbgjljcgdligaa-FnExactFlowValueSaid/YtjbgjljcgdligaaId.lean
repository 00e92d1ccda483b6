
/-
  Values of flows, as the model's functions answer them.
-/
import Derived.Test.YtjbgjljcgdligaaIc
import Derived.Test.YtjbgjljcgdligaaHs
import Derived.Test.YtjbgjljcgdligaaJc
import Derived.Test.YtjbgjljcgdligaaJg
set_option linter.unusedSimpArgs false
set_option linter.unusedVariables false
namespace Go.Proofs.Ytjbgjljcgdligaa
open Go.RowKit

set_option maxHeartbeats 8000000 in
set_option maxRecDepth 100000 in
theorem spec_surplus (A A' : Option Addr) (m c m' c' N : Nat) (n s t : Int) (ts : List (Int × Int × Int)) (fs : List Int) (w : World) (hI : TriS w A m ts) (hm : m ≤ maxLen) (hJ : Ints w A' m' fs) (hmm : m' = m) (en : n = (N : Int)) (h1 : netB n ts s t = true) (h3 : fAll ts fs ts.length = true) :
    Calls Try.prog 91 #[.int .i64 n, .slice A m c, .slice A' m' c'] w (SliceEnd (sTab N ts fs ts.length) w) := by
  subst hmm en
  have HL := Lib.hid hI.len
  have HI := Lib.hid hI; clear hI
  have HJ := Lib.hid hJ; clear hJ
  have NF := Lib.hid (netB_facts h1)
  have NB := Lib.hid h1
  obtain ⟨⟨n0, n1⟩, h12, -⟩ := NF.out
  rw [HL.out] at h12
  have N8 : N ≤ 8 := by omega
  have HFA := Lib.hid h3; clear h3 h1
  obtain ⟨i0, hi0, hz0, hz1, hz2⟩ := info_parts info_int
  have hmk := fun W => run_makeN (P := Try.prog) 22 3 i0 _ Try.underlying22 hi0 hz0 N (by rw [hz2]; omega) (by omega) W
  simp only [hz1] at hmk
  go_enter Try.func91, Try.ntmps91
  go_wp2_with fail
  go_loopw [8] (fun s8 wr => ∃ k : Nat, k ≤ m' ∧ s8 = .int .i64 k ∧ Hid (OwnI wr w.heap.size (sTab N ts fs k)) ∧ Hid (Below w.heap.size w wr)) (fun s8 _ => m' - (intOf s8).toNat)
  case atStart => exact ⟨0, by omega, rfl, Lib.hid (OwnI.made _ _ _), by (refine Lib.hid ?_; (repeat' (first | (with_reducible exact Below.refl _ _) | (with_reducible refine belS ?_ (by first | omega | (simp; done) | (simp; omega) | (simp only [World.size_alloc, World.size_setCell, World.size_drew] at *; omega))) | (with_reducible refine belA ?_ (by first | omega | (simp; done) | (simp; omega) | (simp only [World.size_alloc, World.size_setCell, World.size_drew] at *; omega))) | (with_reducible refine bel_drewN ?_ _) | (with_reducible refine Below.drew ?_) | (with_reducible assumption) | (refine Hid.out ?_; with_reducible assumption) | (apply belV; (with_reducible assumption); exact (by first | omega | (simp; done) | (simp; omega) | (simp only [World.size_alloc, World.size_setCell, World.size_drew] at *; omega))))))⟩
  case round =>
    obtain ⟨k, hk, rfl, hown, hbel⟩ := hrel
    have z0 := hbel.out.size
    have z1 := hown.out.1
    by_cases hlt : k < m'
    · obtain ⟨b, off, x, y, z, rfl, hbw, hx, ix, iy, iz, c0', c1', c2'⟩ := HI.out.at_ hlt
      obtain ⟨bf, off', f, rfl, hbfw, hf0, flo, fhi, cf'⟩ := HJ.out.at_ hlt
      have c0 := cell_by hbel.out hbw c0'
      have c1 := cell_by hbel.out hbw c1'
      have cf := cell_by hbel.out hbfw cf'
      have hb : b < wr.heap.size := by omega
      have hbf : bf < wr.heap.size := by omega
      clear c0' c1' c2' cf'
      have HX := Lib.hid hx; clear hx ix iy
      have HF := Lib.hid hf0; clear hf0
      have hal : Hid (fAll ts fs k = true) := Lib.hid (by
        have := HFA.out
        unfold fAll at this ⊢
        rw [List.all_eq_true] at this ⊢
        intro q hq
        exact this q (List.mem_range.2 (by have := List.mem_range.1 hq; rw [HL.out]; omega)))
      obtain ⟨⟨x0, x1⟩, ⟨y0, y1⟩, hxy, zz0, zz1⟩ := NF.out.2.2.2 k x y z HX.out
      obtain ⟨i, rfl⟩ := Int.eq_ofNat_of_zero_le x0
      obtain ⟨j, rfl⟩ := Int.eq_ofNat_of_zero_le y0
      have hi : i < N := by omega
      have hj : j < N := by omega
      have hij : ¬ i = j := by omega
      clear hxy x0 x1 y0 y1
      have hf : inB f 0 z = true := by rw [← fOk_at HX.out HF.out]; exact fAll_at HFA.out (by rw [HL.out]; exact hlt)
      obtain ⟨f0, f1⟩ := inB_iff.1 hf
      obtain ⟨tv, htv⟩ : ∃ v, v = (sTab N ts fs k).getD i 0 := ⟨_, rfl⟩
      obtain ⟨tu, htu⟩ : ∃ v, v = (sTab N ts fs k).getD j 0 := ⟨_, rfl⟩
      have tvb := sTab_bd (n := N) NB.out k (by rw [HL.out]; omega) hal.out i
      have tub := sTab_bd (n := N) NB.out k (by rw [HL.out]; omega) hal.out j
      rw [← htv] at tvb
      rw [← htu] at tub
      obtain ⟨tv0, tv1⟩ := tvb
      obtain ⟨tu0, tu1⟩ := tub
      obtain ⟨tc, tf⟩ := hown.out.at_ (k := i) (by rw [sTab_len]; exact hi)
      obtain ⟨uc, uf⟩ := hown.out.at_ (k := j) (by rw [sTab_len]; exact hj)
      rw [← htv] at tc
      have Q0 : Hid ((sTab N ts fs k)[i]? = some tv) := Lib.hid (by rw [htv]; exact getD_mem (by rw [sTab_len]; exact hi))
      have gj : ((sTab N ts fs k).set i (tv + f)).getD j 0 = tu := by rw [jSet, if_neg (fun e => hij e.1), htu]
      have Q1 : Hid (((sTab N ts fs k).set i (tv + f))[j]? = some tu) := Lib.hid (by rw [← gj]; exact getD_mem (by rw [sT_len1]; exact hj))
      have GJ := Lib.hid gj; clear gj
      have NX : Hid (sTab N ts fs (k + 1) = ((sTab N ts fs k).set i (tv + f)).set j (tu - f)) := Lib.hid (by rw [sTab_step HX.out HF.out, ← htv, GJ.out])
      have NA := Lib.hid (fAll_yes hal.out ((fOk_at HX.out HF.out).trans hf))
      clear htv htu uc
      have wk1 : IntKind.i64.wrap (tv + f) = tv + f := IntWalk.i64_in _ ⟨by omega, by omega⟩
      have wk2 : IntKind.i64.wrap (tu - f) = tu - f := IntWalk.i64_in _ ⟨by omega, by omega⟩
      go_wp2_with fail
      refine regionE 20 (fun w' => w'.cell? ⟨b, off + k * 3, none⟩ = some (.int .i64 i) ∧ w'.cell? ⟨w.heap.size, i, none⟩ = some (.int .i64 tv) ∧ w'.cell? ⟨bf, off' + k, none⟩ = some (.int .i64 f)) (by kernel_rfl) ?_ (fun hHeld => ?_)
      · exact ⟨cell_by (W := wr) (by (repeat' (first | (with_reducible exact Below.refl _ _) | (with_reducible refine belS ?_ (by first | omega | (simp; done) | (simp; omega) | (simp only [World.size_alloc, World.size_setCell, World.size_drew] at *; omega))) | (with_reducible refine belA ?_ (by first | omega | (simp; done) | (simp; omega) | (simp only [World.size_alloc, World.size_setCell, World.size_drew] at *; omega))) | (with_reducible refine bel_drewN ?_ _) | (with_reducible refine Below.drew ?_) | (with_reducible assumption) | (refine Hid.out ?_; with_reducible assumption) | (apply belV; (with_reducible assumption); exact (by first | omega | (simp; done) | (simp; omega) | (simp only [World.size_alloc, World.size_setCell, World.size_drew] at *; omega)))))) hb c0, cell_by (W := wr) (by (repeat' (first | (with_reducible exact Below.refl _ _) | (with_reducible refine belS ?_ (by first | omega | (simp; done) | (simp; omega) | (simp only [World.size_alloc, World.size_setCell, World.size_drew] at *; omega))) | (with_reducible refine belA ?_ (by first | omega | (simp; done) | (simp; omega) | (simp only [World.size_alloc, World.size_setCell, World.size_drew] at *; omega))) | (with_reducible refine bel_drewN ?_ _) | (with_reducible refine Below.drew ?_) | (with_reducible assumption) | (refine Hid.out ?_; with_reducible assumption) | (apply belV; (with_reducible assumption); exact (by first | omega | (simp; done) | (simp; omega) | (simp only [World.size_alloc, World.size_setCell, World.size_drew] at *; omega)))))) z1 tc, cell_by (W := wr) (by (repeat' (first | (with_reducible exact Below.refl _ _) | (with_reducible refine belS ?_ (by first | omega | (simp; done) | (simp; omega) | (simp only [World.size_alloc, World.size_setCell, World.size_drew] at *; omega))) | (with_reducible refine belA ?_ (by first | omega | (simp; done) | (simp; omega) | (simp only [World.size_alloc, World.size_setCell, World.size_drew] at *; omega))) | (with_reducible refine bel_drewN ?_ _) | (with_reducible refine Below.drew ?_) | (with_reducible assumption) | (refine Hid.out ?_; with_reducible assumption) | (apply belV; (with_reducible assumption); exact (by first | omega | (simp; done) | (simp; omega) | (simp only [World.size_alloc, World.size_setCell, World.size_drew] at *; omega)))))) hbf cf⟩
      refine takeE (i := 0) (d := 17) (v := ?_) (by kernel_rfl) (by kernel_rfl) (by kernel_rfl) (by kernel_rfl) (fun _ _ _ h => h) (by assumption) ⟨?_, ?_, ?_, ?_, ?_⟩ ?_
      rotate_left
      rotate_left
      · (try simp only [List.getElem?_toArray, List.getElem?_cons_succ, List.getElem?_cons_zero]); exact rfl
      · rfl
      · rfl
      · intro w' hSw; (try dsimp only at hSw); go_simp; (try with_reducible rfl)
      (try simp only [Act.put, List.setIfInBounds_toArray, List.set_cons_zero, List.set_cons_succ])
      refine takeE (i := 1) (d := 18) (v := ?_) (by kernel_rfl) (by kernel_rfl) (by kernel_rfl) (by kernel_rfl) (fun _ _ _ h => h) (by assumption) ⟨?_, ?_, ?_, ?_, ?_⟩ ?_
      rotate_left
      rotate_left
      · (try simp only [List.getElem?_toArray, List.getElem?_cons_succ, List.getElem?_cons_zero]); exact rfl
      · rfl
      · rfl
      · intro w' hSw; (try dsimp only at hSw); go_simp; (try with_reducible rfl)
      (try simp only [Act.put, List.setIfInBounds_toArray, List.set_cons_zero, List.set_cons_succ])
      refine takeE (i := 2) (d := 19) (v := ?_) (by kernel_rfl) (by kernel_rfl) (by kernel_rfl) (by kernel_rfl) (fun _ _ _ h => h) (by assumption) ⟨?_, ?_, ?_, ?_, ?_⟩ ?_
      rotate_left
      rotate_left
      · (try simp only [List.getElem?_toArray, List.getElem?_cons_succ, List.getElem?_cons_zero]); exact rfl
      · rfl
      · rfl
      · intro w' hSw; (try dsimp only at hSw); go_simp; (try with_reducible rfl)
      (try simp only [Act.put, List.setIfInBounds_toArray, List.set_cons_zero, List.set_cons_succ])
      refine takeE (i := 3) (d := 20) (v := ?_) (by kernel_rfl) (by kernel_rfl) (by kernel_rfl) (by kernel_rfl) (fun _ _ _ h => h) (by assumption) ⟨?_, ?_, ?_, ?_, ?_⟩ ?_
      rotate_left
      rotate_left
      · (try simp only [List.getElem?_toArray, List.getElem?_cons_succ, List.getElem?_cons_zero]); exact rfl
      · rfl
      · rfl
      · intro w' hSw; (try dsimp only at hSw); go_simp; (try with_reducible rfl)
      (try simp only [Act.put, List.setIfInBounds_toArray, List.set_cons_zero, List.set_cons_succ])
      refine takeE (i := 4) (d := 21) (v := ?_) (by kernel_rfl) (by kernel_rfl) (by kernel_rfl) (by kernel_rfl) (fun _ _ _ h => h) (by assumption) ⟨?_, ?_, ?_, ?_, ?_⟩ ?_
      rotate_left
      rotate_left
      · (try simp only [List.getElem?_toArray, List.getElem?_cons_succ, List.getElem?_cons_zero]); exact rfl
      · rfl
      · rfl
      · intro w' hSw; (try dsimp only at hSw); go_simp; (try with_reducible rfl)
      (try simp only [Act.put, List.setIfInBounds_toArray, List.set_cons_zero, List.set_cons_succ])
      refine takeE (i := 5) (d := 22) (v := ?_) (by kernel_rfl) (by kernel_rfl) (by kernel_rfl) (by kernel_rfl) (fun _ _ _ h => h) (by assumption) ⟨?_, ?_, ?_, ?_, ?_⟩ ?_
      rotate_left
      rotate_left
      · (try simp only [List.getElem?_toArray, List.getElem?_cons_succ, List.getElem?_cons_zero]); exact rfl
      · rfl
      · rfl
      · intro w' hSw; (try dsimp only at hSw); go_simp; (try with_reducible rfl)
      (try simp only [Act.put, List.setIfInBounds_toArray, List.set_cons_zero, List.set_cons_succ])
      refine takeE (i := 6) (d := 23) (v := ?_) (by kernel_rfl) (by kernel_rfl) (by kernel_rfl) (by kernel_rfl) (fun _ _ _ h => h) (by assumption) ⟨?_, ?_, ?_, ?_, ?_⟩ ?_
      rotate_left
      rotate_left
      · (try simp only [List.getElem?_toArray, List.getElem?_cons_succ, List.getElem?_cons_zero]); exact rfl
      · rfl
      · rfl
      · intro w' hSw; (try dsimp only at hSw); go_simp; (try with_reducible rfl)
      (try simp only [Act.put, List.setIfInBounds_toArray, List.set_cons_zero, List.set_cons_succ])
      refine takeE (i := 7) (d := 24) (v := ?_) (by kernel_rfl) (by kernel_rfl) (by kernel_rfl) (by kernel_rfl) (fun _ _ _ h => h) (by assumption) ⟨?_, ?_, ?_, ?_, ?_⟩ ?_
      rotate_left
      rotate_left
      · (try simp only [List.getElem?_toArray, List.getElem?_cons_succ, List.getElem?_cons_zero]); exact rfl
      · rfl
      · rfl
      · intro w' hSw; (try dsimp only at hSw); go_simp; (try with_reducible rfl)
      (try simp only [Act.put, List.setIfInBounds_toArray, List.set_cons_zero, List.set_cons_succ])
      refine takeE (i := 8) (d := 25) (v := ?_) (by kernel_rfl) (by kernel_rfl) (by kernel_rfl) (by kernel_rfl) (fun _ _ _ h => h) (by assumption) ⟨?_, ?_, ?_, ?_, ?_⟩ ?_
      rotate_left
      rotate_left
      · (try simp only [List.getElem?_toArray, List.getElem?_cons_succ, List.getElem?_cons_zero]); exact rfl
      · rfl
      · rfl
      · intro w' hSw; (try dsimp only at hSw); go_simp; (try with_reducible rfl)
      (try simp only [Act.put, List.setIfInBounds_toArray, List.set_cons_zero, List.set_cons_succ])
      refine takeE (i := 9) (d := 26) (v := ?_) (by kernel_rfl) (by kernel_rfl) (by kernel_rfl) (by kernel_rfl) (fun _ _ _ h => h) (by assumption) ⟨?_, ?_, ?_, ?_, ?_⟩ ?_
      rotate_left
      rotate_left
      · (try simp only [List.getElem?_toArray, List.getElem?_cons_succ, List.getElem?_cons_zero]); exact rfl
      · rfl
      · rfl
      · intro w' hSw; (try dsimp only at hSw); go_simp; (try with_reducible rfl)
      (try simp only [Act.put, List.setIfInBounds_toArray, List.set_cons_zero, List.set_cons_succ])
      refine takeE (i := 10) (d := 27) (v := ?_) (by kernel_rfl) (by kernel_rfl) (by kernel_rfl) (by kernel_rfl) (fun _ _ _ h => h) (by assumption) ⟨?_, ?_, ?_, ?_, ?_⟩ ?_
      rotate_left
      rotate_left
      · (try simp only [List.getElem?_toArray, List.getElem?_cons_succ, List.getElem?_cons_zero]); exact rfl
      · rfl
      · rfl
      · intro w' hSw; (try dsimp only at hSw); go_simp; (try with_reducible rfl)
      (try simp only [Act.put, List.setIfInBounds_toArray, List.set_cons_zero, List.set_cons_succ])
      refine takeE (i := 11) (d := 28) (v := ?_) (by kernel_rfl) (by kernel_rfl) (by kernel_rfl) (by kernel_rfl) (fun _ _ _ h => h) (by assumption) ⟨?_, ?_, ?_, ?_, ?_⟩ ?_
      rotate_left
      rotate_left
      · (try simp only [List.getElem?_toArray, List.getElem?_cons_succ, List.getElem?_cons_zero]); exact rfl
      · rfl
      · rfl
      · intro w' hSw; (try dsimp only at hSw); go_simp; (try with_reducible rfl)
      (try simp only [Act.put, List.setIfInBounds_toArray, List.set_cons_zero, List.set_cons_succ])
      refine takeE (i := 12) (d := 29) (v := ?_) (by kernel_rfl) (by kernel_rfl) (by kernel_rfl) (by kernel_rfl) (fun _ _ _ h => h) (by assumption) ⟨?_, ?_, ?_, ?_, ?_⟩ ?_
      rotate_left
      rotate_left
      · (try simp only [List.getElem?_toArray, List.getElem?_cons_succ, List.getElem?_cons_zero]); exact rfl
      · rfl
      · rfl
      · intro w' hSw; (try dsimp only at hSw); go_simp; (try with_reducible rfl)
      (try simp only [Act.put, List.setIfInBounds_toArray, List.set_cons_zero, List.set_cons_succ])
      refine takeE (i := 13) (d := 30) (v := ?_) (by kernel_rfl) (by kernel_rfl) (by kernel_rfl) (by kernel_rfl) (fun _ _ _ h => h) (by assumption) ⟨?_, ?_, ?_, ?_, ?_⟩ ?_
      rotate_left
      rotate_left
      · (try simp only [List.getElem?_toArray, List.getElem?_cons_succ, List.getElem?_cons_zero]); exact rfl
      · rfl
      · rfl
      · intro w' hSw; (try dsimp only at hSw); go_simp; (try with_reducible rfl)
      (try simp only [Act.put, List.setIfInBounds_toArray, List.set_cons_zero, List.set_cons_succ])
      refine takeE (i := 14) (d := 31) (v := ?_) (by kernel_rfl) (by kernel_rfl) (by kernel_rfl) (by kernel_rfl) (fun _ _ _ h => h) (by assumption) ⟨?_, ?_, ?_, ?_, ?_⟩ ?_
      rotate_left
      rotate_left
      · (try simp only [List.getElem?_toArray, List.getElem?_cons_succ, List.getElem?_cons_zero]); exact rfl
      · rfl
      · rfl
      · intro w' hSw; (try dsimp only at hSw); go_simp; (try with_reducible rfl)
      (try simp only [Act.put, List.setIfInBounds_toArray, List.set_cons_zero, List.set_cons_succ])
      refine takeE (i := 15) (d := 32) (v := ?_) (by kernel_rfl) (by kernel_rfl) (by kernel_rfl) (by kernel_rfl) (fun _ _ _ h => h) (by assumption) ⟨?_, ?_, ?_, ?_, ?_⟩ ?_
      rotate_left
      rotate_left
      · (try simp only [List.getElem?_toArray, List.getElem?_cons_succ, List.getElem?_cons_zero]); exact rfl
      · rfl
      · rfl
      · intro w' hSw; (try dsimp only at hSw); go_simp; (try with_reducible rfl)
      (try simp only [Act.put, List.setIfInBounds_toArray, List.set_cons_zero, List.set_cons_succ])
      refine takeE (i := 16) (d := 33) (v := ?_) (by kernel_rfl) (by kernel_rfl) (by kernel_rfl) (by kernel_rfl) (fun _ _ _ h => h) (by assumption) ⟨?_, ?_, ?_, ?_, ?_⟩ ?_
      rotate_left
      rotate_left
      · (try simp only [List.getElem?_toArray, List.getElem?_cons_succ, List.getElem?_cons_zero]); exact rfl
      · rfl
      · rfl
      · intro w' hSw; (try dsimp only at hSw); go_simp; (try with_reducible rfl)
      (try simp only [Act.put, List.setIfInBounds_toArray, List.set_cons_zero, List.set_cons_succ])
      refine takeE (i := 17) (d := 34) (v := ?_) (by kernel_rfl) (by kernel_rfl) (by kernel_rfl) (by kernel_rfl) (fun _ _ _ h => h) (by assumption) ⟨?_, ?_, ?_, ?_, ?_⟩ ?_
      rotate_left
      rotate_left
      · (try simp only [List.getElem?_toArray, List.getElem?_cons_succ, List.getElem?_cons_zero]); exact rfl
      · rfl
      · rfl
      · intro w' hSw; (try dsimp only at hSw); go_simp; (try with_reducible rfl)
      (try simp only [Act.put, List.setIfInBounds_toArray, List.set_cons_zero, List.set_cons_succ])
      refine takeE (i := 18) (d := 35) (v := ?_) (by kernel_rfl) (by kernel_rfl) (by kernel_rfl) (by kernel_rfl) (fun _ _ _ h => h) (by assumption) ⟨?_, ?_, ?_, ?_, ?_⟩ ?_
      rotate_left
      rotate_left
      · (try simp only [List.getElem?_toArray, List.getElem?_cons_succ, List.getElem?_cons_zero]); exact rfl
      · rfl
      · rfl
      · intro w' hSw; (try dsimp only at hSw); go_simp; (try with_reducible rfl)
      (try simp only [Act.put, List.setIfInBounds_toArray, List.set_cons_zero, List.set_cons_succ])
      refine takeE (i := 19) (d := 36) (v := ?_) (by kernel_rfl) (by kernel_rfl) (by kernel_rfl) (by kernel_rfl) (fun _ _ _ h => h) (by assumption) ⟨?_, ?_, ?_, ?_, ?_⟩ ?_
      rotate_left
      rotate_left
      · (try simp only [List.getElem?_toArray, List.getElem?_cons_succ, List.getElem?_cons_zero]); exact rfl
      · rfl
      · rfl
      · intro w' hSw; (try dsimp only at hSw); go_simp; (try with_reducible rfl)
      (try simp only [Act.put, List.setIfInBounds_toArray, List.set_cons_zero, List.set_cons_succ])
      refine lastE (o := ?_) (by kernel_rfl) ?_ (fun K hK => ?_)
      rotate_left
      · (try simp only [List.getElem?_toArray, List.getElem?_cons_succ, List.getElem?_cons_zero]); exact rfl
      go_simp
      go_wp2_with fail
      refine hK.out _ _ ?_
      clear hK K
      (try simp only [Act.put, List.setIfInBounds_toArray, List.set_cons_zero, List.set_cons_succ])
      refine doneE (by kernel_rfl) ?_ _
      go_wp2_with fail
      refine regionE 20 (fun w' => w'.cell? ⟨b, off + k * 3 + 1, none⟩ = some (.int .i64 j) ∧ w'.cell? ⟨w.heap.size, j, none⟩ = some (.int .i64 tu) ∧ w'.cell? ⟨bf, off' + k, none⟩ = some (.int .i64 f)) (by kernel_rfl) ?_ (fun hHeld => ?_)
      · exact ⟨(by simp only [World.cell?_drew]; exact cell_far (cell_by (W := wr) (by (repeat' (first | (with_reducible exact Below.refl _ _) | (with_reducible refine belS ?_ (by first | omega | (simp; done) | (simp; omega) | (simp only [World.size_alloc, World.size_setCell, World.size_drew] at *; omega))) | (with_reducible refine belA ?_ (by first | omega | (simp; done) | (simp; omega) | (simp only [World.size_alloc, World.size_setCell, World.size_drew] at *; omega))) | (with_reducible refine bel_drewN ?_ _) | (with_reducible refine Below.drew ?_) | (with_reducible assumption) | (refine Hid.out ?_; with_reducible assumption) | (apply belV; (with_reducible assumption); exact (by first | omega | (simp; done) | (simp; omega) | (simp only [World.size_alloc, World.size_setCell, World.size_drew] at *; omega)))))) hb c1) (by first | omega | (simp; done) | (simp; omega) | (simp only [World.size_alloc, World.size_setCell, World.size_drew] at *; omega))), (GJ.out ▸ ((OwnI.drew (OwnI.set_ (by (repeat' (first | (with_reducible exact OwnI.madeAt _ _ _ (by first | omega | (simp; done) | (simp; omega) | (simp only [World.size_alloc, World.size_setCell, World.size_drew] at *; omega))) | (with_reducible refine OwnI.far ?_ (by first | omega | (simp; done) | (simp; omega) | (simp only [World.size_alloc, World.size_setCell, World.size_drew] at *; omega)) _) | (with_reducible refine OwnI.alloc ?_ _) | (with_reducible refine OwnI.drewN ?_ _) | (with_reducible refine OwnI.drew ?_) | (with_reducible assumption) | (refine Hid.out ?_; with_reducible assumption) | (apply OwnI.turn; (with_reducible assumption); exact (by first | omega | (simp; done) | (simp; omega) | (simp only [World.size_alloc, World.size_setCell, World.size_drew] at *; omega))) | (apply OwnI.only; (with_reducible assumption); exact (by first | omega | (simp; done) | (simp; omega) | (simp only [World.size_alloc, World.size_setCell, World.size_drew] at *; omega))) | (apply OwnI.belowD; (with_reducible assumption))))) Q0.out (tv + f))).at_ (k := j) (by rw [sT_len1]; exact hj)).1), (by simp only [World.cell?_drew]; exact cell_far (cell_by (W := wr) (by (repeat' (first | (with_reducible exact Below.refl _ _) | (with_reducible refine belS ?_ (by first | omega | (simp; done) | (simp; omega) | (simp only [World.size_alloc, World.size_setCell, World.size_drew] at *; omega))) | (with_reducible refine belA ?_ (by first | omega | (simp; done) | (simp; omega) | (simp only [World.size_alloc, World.size_setCell, World.size_drew] at *; omega))) | (with_reducible refine bel_drewN ?_ _) | (with_reducible refine Below.drew ?_) | (with_reducible assumption) | (refine Hid.out ?_; with_reducible assumption) | (apply belV; (with_reducible assumption); exact (by first | omega | (simp; done) | (simp; omega) | (simp only [World.size_alloc, World.size_setCell, World.size_drew] at *; omega)))))) hbf cf) (by first | omega | (simp; done) | (simp; omega) | (simp only [World.size_alloc, World.size_setCell, World.size_drew] at *; omega)))⟩
      refine takeE (i := 0) (d := 37) (v := ?_) (by kernel_rfl) (by kernel_rfl) (by kernel_rfl) (by kernel_rfl) (fun _ _ _ h => h) (by assumption) ⟨?_, ?_, ?_, ?_, ?_⟩ ?_
      rotate_left
      rotate_left
      · (try simp only [List.getElem?_toArray, List.getElem?_cons_succ, List.getElem?_cons_zero]); exact rfl
      · rfl
      · rfl
      · intro w' hSw; (try dsimp only at hSw); go_simp; (try with_reducible rfl)
      (try simp only [Act.put, List.setIfInBounds_toArray, List.set_cons_zero, List.set_cons_succ])
      refine takeE (i := 1) (d := 38) (v := ?_) (by kernel_rfl) (by kernel_rfl) (by kernel_rfl) (by kernel_rfl) (fun _ _ _ h => h) (by assumption) ⟨?_, ?_, ?_, ?_, ?_⟩ ?_
      rotate_left
      rotate_left
      · (try simp only [List.getElem?_toArray, List.getElem?_cons_succ, List.getElem?_cons_zero]); exact rfl
      · rfl
      · rfl
      · intro w' hSw; (try dsimp only at hSw); go_simp; (try with_reducible rfl)
      (try simp only [Act.put, List.setIfInBounds_toArray, List.set_cons_zero, List.set_cons_succ])
      refine takeE (i := 2) (d := 39) (v := ?_) (by kernel_rfl) (by kernel_rfl) (by kernel_rfl) (by kernel_rfl) (fun _ _ _ h => h) (by assumption) ⟨?_, ?_, ?_, ?_, ?_⟩ ?_
      rotate_left
      rotate_left
      · (try simp only [List.getElem?_toArray, List.getElem?_cons_succ, List.getElem?_cons_zero]); exact rfl
      · rfl
      · rfl
      · intro w' hSw; (try dsimp only at hSw); go_simp; (try with_reducible rfl)
      (try simp only [Act.put, List.setIfInBounds_toArray, List.set_cons_zero, List.set_cons_succ])
      refine takeE (i := 3) (d := 40) (v := ?_) (by kernel_rfl) (by kernel_rfl) (by kernel_rfl) (by kernel_rfl) (fun _ _ _ h => h) (by assumption) ⟨?_, ?_, ?_, ?_, ?_⟩ ?_
      rotate_left
      rotate_left
      · (try simp only [List.getElem?_toArray, List.getElem?_cons_succ, List.getElem?_cons_zero]); exact rfl
      · rfl
      · rfl
      · intro w' hSw; (try dsimp only at hSw); go_simp; (try with_reducible rfl)
      (try simp only [Act.put, List.setIfInBounds_toArray, List.set_cons_zero, List.set_cons_succ])
      refine takeE (i := 4) (d := 41) (v := ?_) (by kernel_rfl) (by kernel_rfl) (by kernel_rfl) (by kernel_rfl) (fun _ _ _ h => h) (by assumption) ⟨?_, ?_, ?_, ?_, ?_⟩ ?_
      rotate_left
      rotate_left
      · (try simp only [List.getElem?_toArray, List.getElem?_cons_succ, List.getElem?_cons_zero]); exact rfl
      · rfl
      · rfl
      · intro w' hSw; (try dsimp only at hSw); go_simp; (try with_reducible rfl)
      (try simp only [Act.put, List.setIfInBounds_toArray, List.set_cons_zero, List.set_cons_succ])
      refine takeE (i := 5) (d := 42) (v := ?_) (by kernel_rfl) (by kernel_rfl) (by kernel_rfl) (by kernel_rfl) (fun _ _ _ h => h) (by assumption) ⟨?_, ?_, ?_, ?_, ?_⟩ ?_
      rotate_left
      rotate_left
      · (try simp only [List.getElem?_toArray, List.getElem?_cons_succ, List.getElem?_cons_zero]); exact rfl
      · rfl
      · rfl
      · intro w' hSw; (try dsimp only at hSw); go_simp; (try with_reducible rfl)
      (try simp only [Act.put, List.setIfInBounds_toArray, List.set_cons_zero, List.set_cons_succ])
      refine takeE (i := 6) (d := 43) (v := ?_) (by kernel_rfl) (by kernel_rfl) (by kernel_rfl) (by kernel_rfl) (fun _ _ _ h => h) (by assumption) ⟨?_, ?_, ?_, ?_, ?_⟩ ?_
      rotate_left
      rotate_left
      · (try simp only [List.getElem?_toArray, List.getElem?_cons_succ, List.getElem?_cons_zero]); exact rfl
      · rfl
      · rfl
      · intro w' hSw; (try dsimp only at hSw); go_simp; (try with_reducible rfl)
      (try simp only [Act.put, List.setIfInBounds_toArray, List.set_cons_zero, List.set_cons_succ])
      refine takeE (i := 7) (d := 44) (v := ?_) (by kernel_rfl) (by kernel_rfl) (by kernel_rfl) (by kernel_rfl) (fun _ _ _ h => h) (by assumption) ⟨?_, ?_, ?_, ?_, ?_⟩ ?_
      rotate_left
      rotate_left
      · (try simp only [List.getElem?_toArray, List.getElem?_cons_succ, List.getElem?_cons_zero]); exact rfl
      · rfl
      · rfl
      · intro w' hSw; (try dsimp only at hSw); go_simp; (try with_reducible rfl)
      (try simp only [Act.put, List.setIfInBounds_toArray, List.set_cons_zero, List.set_cons_succ])
      refine takeE (i := 8) (d := 45) (v := ?_) (by kernel_rfl) (by kernel_rfl) (by kernel_rfl) (by kernel_rfl) (fun _ _ _ h => h) (by assumption) ⟨?_, ?_, ?_, ?_, ?_⟩ ?_
      rotate_left
      rotate_left
      · (try simp only [List.getElem?_toArray, List.getElem?_cons_succ, List.getElem?_cons_zero]); exact rfl
      · rfl
      · rfl
      · intro w' hSw; (try dsimp only at hSw); go_simp; (try with_reducible rfl)
      (try simp only [Act.put, List.setIfInBounds_toArray, List.set_cons_zero, List.set_cons_succ])
      refine takeE (i := 9) (d := 46) (v := ?_) (by kernel_rfl) (by kernel_rfl) (by kernel_rfl) (by kernel_rfl) (fun _ _ _ h => h) (by assumption) ⟨?_, ?_, ?_, ?_, ?_⟩ ?_
      rotate_left
      rotate_left
      · (try simp only [List.getElem?_toArray, List.getElem?_cons_succ, List.getElem?_cons_zero]); exact rfl
      · rfl
      · rfl
      · intro w' hSw; (try dsimp only at hSw); go_simp; (try with_reducible rfl)
      (try simp only [Act.put, List.setIfInBounds_toArray, List.set_cons_zero, List.set_cons_succ])
      refine takeE (i := 10) (d := 47) (v := ?_) (by kernel_rfl) (by kernel_rfl) (by kernel_rfl) (by kernel_rfl) (fun _ _ _ h => h) (by assumption) ⟨?_, ?_, ?_, ?_, ?_⟩ ?_
      rotate_left
      rotate_left
      · (try simp only [List.getElem?_toArray, List.getElem?_cons_succ, List.getElem?_cons_zero]); exact rfl
      · rfl
      · rfl
      · intro w' hSw; (try dsimp only at hSw); go_simp; (try with_reducible rfl)
      (try simp only [Act.put, List.setIfInBounds_toArray, List.set_cons_zero, List.set_cons_succ])
      refine takeE (i := 11) (d := 48) (v := ?_) (by kernel_rfl) (by kernel_rfl) (by kernel_rfl) (by kernel_rfl) (fun _ _ _ h => h) (by assumption) ⟨?_, ?_, ?_, ?_, ?_⟩ ?_
      rotate_left
      rotate_left
      · (try simp only [List.getElem?_toArray, List.getElem?_cons_succ, List.getElem?_cons_zero]); exact rfl
      · rfl
      · rfl
      · intro w' hSw; (try dsimp only at hSw); go_simp; (try with_reducible rfl)
      (try simp only [Act.put, List.setIfInBounds_toArray, List.set_cons_zero, List.set_cons_succ])
      refine takeE (i := 12) (d := 49) (v := ?_) (by kernel_rfl) (by kernel_rfl) (by kernel_rfl) (by kernel_rfl) (fun _ _ _ h => h) (by assumption) ⟨?_, ?_, ?_, ?_, ?_⟩ ?_
      rotate_left
      rotate_left
      · (try simp only [List.getElem?_toArray, List.getElem?_cons_succ, List.getElem?_cons_zero]); exact rfl
      · rfl
      · rfl
      · intro w' hSw; (try dsimp only at hSw); go_simp; (try with_reducible rfl)
      (try simp only [Act.put, List.setIfInBounds_toArray, List.set_cons_zero, List.set_cons_succ])
      refine takeE (i := 13) (d := 50) (v := ?_) (by kernel_rfl) (by kernel_rfl) (by kernel_rfl) (by kernel_rfl) (fun _ _ _ h => h) (by assumption) ⟨?_, ?_, ?_, ?_, ?_⟩ ?_
      rotate_left
      rotate_left
      · (try simp only [List.getElem?_toArray, List.getElem?_cons_succ, List.getElem?_cons_zero]); exact rfl
      · rfl
      · rfl
      · intro w' hSw; (try dsimp only at hSw); go_simp; (try with_reducible rfl)
      (try simp only [Act.put, List.setIfInBounds_toArray, List.set_cons_zero, List.set_cons_succ])
      refine takeE (i := 14) (d := 51) (v := ?_) (by kernel_rfl) (by kernel_rfl) (by kernel_rfl) (by kernel_rfl) (fun _ _ _ h => h) (by assumption) ⟨?_, ?_, ?_, ?_, ?_⟩ ?_
      rotate_left
      rotate_left
      · (try simp only [List.getElem?_toArray, List.getElem?_cons_succ, List.getElem?_cons_zero]); exact rfl
      · rfl
      · rfl
      · intro w' hSw; (try dsimp only at hSw); go_simp; (try with_reducible rfl)
      (try simp only [Act.put, List.setIfInBounds_toArray, List.set_cons_zero, List.set_cons_succ])
      refine takeE (i := 15) (d := 52) (v := ?_) (by kernel_rfl) (by kernel_rfl) (by kernel_rfl) (by kernel_rfl) (fun _ _ _ h => h) (by assumption) ⟨?_, ?_, ?_, ?_, ?_⟩ ?_
      rotate_left
      rotate_left
      · (try simp only [List.getElem?_toArray, List.getElem?_cons_succ, List.getElem?_cons_zero]); exact rfl
      · rfl
      · rfl
      · intro w' hSw; (try dsimp only at hSw); go_simp; (try with_reducible rfl)
      (try simp only [Act.put, List.setIfInBounds_toArray, List.set_cons_zero, List.set_cons_succ])
      refine takeE (i := 16) (d := 53) (v := ?_) (by kernel_rfl) (by kernel_rfl) (by kernel_rfl) (by kernel_rfl) (fun _ _ _ h => h) (by assumption) ⟨?_, ?_, ?_, ?_, ?_⟩ ?_
      rotate_left
      rotate_left
      · (try simp only [List.getElem?_toArray, List.getElem?_cons_succ, List.getElem?_cons_zero]); exact rfl
      · rfl
      · rfl
      · intro w' hSw; (try dsimp only at hSw); go_simp; (try with_reducible rfl)
      (try simp only [Act.put, List.setIfInBounds_toArray, List.set_cons_zero, List.set_cons_succ])
      refine takeE (i := 17) (d := 54) (v := ?_) (by kernel_rfl) (by kernel_rfl) (by kernel_rfl) (by kernel_rfl) (fun _ _ _ h => h) (by assumption) ⟨?_, ?_, ?_, ?_, ?_⟩ ?_
      rotate_left
      rotate_left
      · (try simp only [List.getElem?_toArray, List.getElem?_cons_succ, List.getElem?_cons_zero]); exact rfl
      · rfl
      · rfl
      · intro w' hSw; (try dsimp only at hSw); go_simp; (try with_reducible rfl)
      (try simp only [Act.put, List.setIfInBounds_toArray, List.set_cons_zero, List.set_cons_succ])
      refine takeE (i := 18) (d := 55) (v := ?_) (by kernel_rfl) (by kernel_rfl) (by kernel_rfl) (by kernel_rfl) (fun _ _ _ h => h) (by assumption) ⟨?_, ?_, ?_, ?_, ?_⟩ ?_
      rotate_left
      rotate_left
      · (try simp only [List.getElem?_toArray, List.getElem?_cons_succ, List.getElem?_cons_zero]); exact rfl
      · rfl
      · rfl
      · intro w' hSw; (try dsimp only at hSw); go_simp; (try with_reducible rfl)
      (try simp only [Act.put, List.setIfInBounds_toArray, List.set_cons_zero, List.set_cons_succ])
      refine takeE (i := 19) (d := 56) (v := ?_) (by kernel_rfl) (by kernel_rfl) (by kernel_rfl) (by kernel_rfl) (fun _ _ _ h => h) (by assumption) ⟨?_, ?_, ?_, ?_, ?_⟩ ?_
      rotate_left
      rotate_left
      · (try simp only [List.getElem?_toArray, List.getElem?_cons_succ, List.getElem?_cons_zero]); exact rfl
      · rfl
      · rfl
      · intro w' hSw; (try dsimp only at hSw); go_simp; (try with_reducible rfl)
      (try simp only [Act.put, List.setIfInBounds_toArray, List.set_cons_zero, List.set_cons_succ])
      refine lastE (o := ?_) (by kernel_rfl) ?_ (fun K hK => ?_)
      rotate_left
      · (try simp only [List.getElem?_toArray, List.getElem?_cons_succ, List.getElem?_cons_zero]); exact rfl
      go_simp
      go_wp2_with fail
      refine hK.out _ _ ?_
      clear hK K
      (try simp only [Act.put, List.setIfInBounds_toArray, List.set_cons_zero, List.set_cons_succ])
      refine doneE (by kernel_rfl) ?_ _
      go_wp2_with fail
      go_roundw
      case rel => exact ⟨k + 1, by omega, by go_num, Lib.hid (by rw [NX.out]; exact OwnI.set_ (OwnI.drew (OwnI.set_ (by (repeat' (first | (with_reducible exact OwnI.madeAt _ _ _ (by first | omega | (simp; done) | (simp; omega) | (simp only [World.size_alloc, World.size_setCell, World.size_drew] at *; omega))) | (with_reducible refine OwnI.far ?_ (by first | omega | (simp; done) | (simp; omega) | (simp only [World.size_alloc, World.size_setCell, World.size_drew] at *; omega)) _) | (with_reducible refine OwnI.alloc ?_ _) | (with_reducible refine OwnI.drewN ?_ _) | (with_reducible refine OwnI.drew ?_) | (with_reducible assumption) | (refine Hid.out ?_; with_reducible assumption) | (apply OwnI.turn; (with_reducible assumption); exact (by first | omega | (simp; done) | (simp; omega) | (simp only [World.size_alloc, World.size_setCell, World.size_drew] at *; omega))) | (apply OwnI.only; (with_reducible assumption); exact (by first | omega | (simp; done) | (simp; omega) | (simp only [World.size_alloc, World.size_setCell, World.size_drew] at *; omega))) | (apply OwnI.belowD; (with_reducible assumption))))) Q0.out _)) Q1.out _), by (refine Lib.hid ?_; (repeat' (first | (with_reducible exact Below.refl _ _) | (with_reducible refine belS ?_ (by first | omega | (simp; done) | (simp; omega) | (simp only [World.size_alloc, World.size_setCell, World.size_drew] at *; omega))) | (with_reducible refine belA ?_ (by first | omega | (simp; done) | (simp; omega) | (simp only [World.size_alloc, World.size_setCell, World.size_drew] at *; omega))) | (with_reducible refine bel_drewN ?_ _) | (with_reducible refine Below.drew ?_) | (with_reducible assumption) | (refine Hid.out ?_; with_reducible assumption) | (apply belV; (with_reducible assumption); exact (by first | omega | (simp; done) | (simp; omega) | (simp only [World.size_alloc, World.size_setCell, World.size_drew] at *; omega))))))⟩
      case measure => simp [intOf]; omega
    · have hke : k = ts.length := by have := HL.out; omega
      have BD := Lib.hid (sTab_bd (n := N) NB.out ts.length (Nat.le_refl _) HFA.out)
      have HK := Lib.hid hke
      have hown2 : Hid (OwnI wr w.heap.size (sTab N ts fs ts.length)) := Lib.hid (by rw [← hke]; exact hown.out)
      clear hke
      have h12' : ts.length ≤ 12 := by rw [HL.out]; exact h12
      have H12 := Lib.hid h12'; clear h12'
      go_wp2_with fail
      go_ret
      refine ⟨_, _, (by rw [sTab_len]; rfl), OwnS.of_own hown2.out (Nat.le_refl _) z1 (fun y hy => ?_) (by rw [sTab_len]; omega), hbel.out⟩
      obtain ⟨q, hq⟩ := List.mem_iff_getElem?.1 hy
      have := BD.out q
      have e : (sTab N ts fs ts.length).getD q 0 = y := by simp [List.getD, hq]
      have := H12.out
      exact ⟨by omega, by omega⟩
set_option maxHeartbeats 8000000 in
set_option maxRecDepth 100000 in
theorem spec_FlowValue (A A' : Option Addr) (m c m' c' : Nat) (n s t : Int) (ts : List (Int × Int × Int)) (fs : List Int) (w : World) (hI : TriS w A m ts) (hm : m ≤ maxLen) (hJ : Ints w A' m' fs) (hm' : m' ≤ maxLen) :
    Calls Try.prog 40 #[.int .i64 n, .slice A m c, .int .i64 s, .int .i64 t, .slice A' m' c'] w (FlowEnd n ts s t fs w) := by
  have HL := Lib.hid hI.len
  have HL' := Lib.hid hJ.len
  have HI := Lib.hid hI; clear hI
  have HJ := Lib.hid hJ; clear hJ
  cases h1 : netB n ts s t
  · have E := Lib.hid (flow_1 (fs := fs) h1)
    go_enter Try.func40, Try.ntmps40
    go_wp2_with fail
    refine (spec_validArcs _ _ _ n s t ts _ (HI.out.below (by (repeat' (first | (with_reducible exact Below.refl _ _) | (with_reducible refine belS ?_ (by first | omega | (simp; done) | (simp; omega) | (simp only [World.size_alloc, World.size_setCell, World.size_drew] at *; omega))) | (with_reducible refine belA ?_ (by first | omega | (simp; done) | (simp; omega) | (simp only [World.size_alloc, World.size_setCell, World.size_drew] at *; omega))) | (with_reducible refine bel_drewN ?_ _) | (with_reducible refine Below.drew ?_) | (with_reducible assumption) | (refine Hid.out ?_; with_reducible assumption) | (apply belV; (with_reducible assumption); exact (by first | omega | (simp; done) | (simp; omega) | (simp only [World.size_alloc, World.size_setCell, World.size_drew] at *; omega))))))) hm).mono ?_
    rintro e wv ⟨rfl, hb⟩
    have Gv : Hid (Below w.heap.size w wv) := belU hb (by (repeat' (first | (with_reducible exact Below.refl _ _) | (with_reducible refine belS ?_ (by first | omega | (simp; done) | (simp; omega) | (simp only [World.size_alloc, World.size_setCell, World.size_drew] at *; omega))) | (with_reducible refine belA ?_ (by first | omega | (simp; done) | (simp; omega) | (simp only [World.size_alloc, World.size_setCell, World.size_drew] at *; omega))) | (with_reducible refine bel_drewN ?_ _) | (with_reducible refine Below.drew ?_) | (with_reducible assumption) | (refine Hid.out ?_; with_reducible assumption) | (apply belV; (with_reducible assumption); exact (by first | omega | (simp; done) | (simp; omega) | (simp only [World.size_alloc, World.size_setCell, World.size_drew] at *; omega)))))) (by first | omega | (simp; done) | (simp; omega) | (simp only [World.size_alloc, World.size_setCell, World.size_drew] at *; omega))
    have zv := hb.size
    (try simp at zv)
    have Dv := Lib.hid hb; clear hb
    rw [h1]
    go_wp2_with fail
    go_ret2
    exact FlowEnd.no E.out (by (repeat' (first | (with_reducible exact Below.refl _ _) | (with_reducible refine belS ?_ (by first | omega | (simp; done) | (simp; omega) | (simp only [World.size_alloc, World.size_setCell, World.size_drew] at *; omega))) | (with_reducible refine belA ?_ (by first | omega | (simp; done) | (simp; omega) | (simp only [World.size_alloc, World.size_setCell, World.size_drew] at *; omega))) | (with_reducible refine bel_drewN ?_ _) | (with_reducible refine Below.drew ?_) | (with_reducible assumption) | (refine Hid.out ?_; with_reducible assumption) | (apply belV; (with_reducible assumption); exact (by first | omega | (simp; done) | (simp; omega) | (simp only [World.size_alloc, World.size_setCell, World.size_drew] at *; omega))))))
  by_cases h2 : m' = m
  rotate_left
  · have E := Lib.hid (flow_2 (n := n) (s := s) (t := t) (ts := ts) (fs := fs) (by rw [HL.out, HL'.out]; exact h2))
    have hd : ((m' : Int) != (m : Int)) = true := by simp; omega
    go_enter Try.func40, Try.ntmps40
    go_wp2_with fail
    refine (spec_validArcs _ _ _ n s t ts _ (HI.out.below (by (repeat' (first | (with_reducible exact Below.refl _ _) | (with_reducible refine belS ?_ (by first | omega | (simp; done) | (simp; omega) | (simp only [World.size_alloc, World.size_setCell, World.size_drew] at *; omega))) | (with_reducible refine belA ?_ (by first | omega | (simp; done) | (simp; omega) | (simp only [World.size_alloc, World.size_setCell, World.size_drew] at *; omega))) | (with_reducible refine bel_drewN ?_ _) | (with_reducible refine Below.drew ?_) | (with_reducible assumption) | (refine Hid.out ?_; with_reducible assumption) | (apply belV; (with_reducible assumption); exact (by first | omega | (simp; done) | (simp; omega) | (simp only [World.size_alloc, World.size_setCell, World.size_drew] at *; omega))))))) hm).mono ?_
    rintro e wv ⟨rfl, hb⟩
    have Gv : Hid (Below w.heap.size w wv) := belU hb (by (repeat' (first | (with_reducible exact Below.refl _ _) | (with_reducible refine belS ?_ (by first | omega | (simp; done) | (simp; omega) | (simp only [World.size_alloc, World.size_setCell, World.size_drew] at *; omega))) | (with_reducible refine belA ?_ (by first | omega | (simp; done) | (simp; omega) | (simp only [World.size_alloc, World.size_setCell, World.size_drew] at *; omega))) | (with_reducible refine bel_drewN ?_ _) | (with_reducible refine Below.drew ?_) | (with_reducible assumption) | (refine Hid.out ?_; with_reducible assumption) | (apply belV; (with_reducible assumption); exact (by first | omega | (simp; done) | (simp; omega) | (simp only [World.size_alloc, World.size_setCell, World.size_drew] at *; omega)))))) (by first | omega | (simp; done) | (simp; omega) | (simp only [World.size_alloc, World.size_setCell, World.size_drew] at *; omega))
    have zv := hb.size
    (try simp at zv)
    have Dv := Lib.hid hb; clear hb
    rw [h1]
    go_wp2_with fail
    go_ret2
    exact FlowEnd.no E.out (by (repeat' (first | (with_reducible exact Below.refl _ _) | (with_reducible refine belS ?_ (by first | omega | (simp; done) | (simp; omega) | (simp only [World.size_alloc, World.size_setCell, World.size_drew] at *; omega))) | (with_reducible refine belA ?_ (by first | omega | (simp; done) | (simp; omega) | (simp only [World.size_alloc, World.size_setCell, World.size_drew] at *; omega))) | (with_reducible refine bel_drewN ?_ _) | (with_reducible refine Below.drew ?_) | (with_reducible assumption) | (refine Hid.out ?_; with_reducible assumption) | (apply belV; (with_reducible assumption); exact (by first | omega | (simp; done) | (simp; omega) | (simp only [World.size_alloc, World.size_setCell, World.size_drew] at *; omega))))))
  subst h2
  have NF := Lib.hid (netB_facts h1)
  have NB := Lib.hid h1
  obtain ⟨⟨n0, n1⟩, h12, ⟨⟨s0, s1⟩, ⟨t0, t1⟩, hst⟩, -⟩ := NF.out
  rw [HL.out] at h12
  obtain ⟨N, rfl⟩ := Int.eq_ofNat_of_zero_le (show 0 ≤ n by omega)
  obtain ⟨S, rfl⟩ := Int.eq_ofNat_of_zero_le s0
  have N8 : N ≤ 8 := by omega
  have hS : S < N := by omega
  have F3 := Lib.hid (fun k hk h => flow_3 (n := (N : Int)) (s := (S : Int)) (t := t) (ts := ts) (fs := fs) (k := k) hk h)
  have F4 := Lib.hid (fun h => flow_4 (n := (N : Int)) (s := (S : Int)) (t := t) (ts := ts) (fs := fs) h)
  have F5 := Lib.hid (fun h3 h4 => flow_5 (n := (N : Int)) (s := (S : Int)) (t := t) (ts := ts) (fs := fs) h1 (by rw [HL.out, HL'.out]) h3 h4)
  clear hst
  go_enter Try.func40, Try.ntmps40
  go_wp2_with fail
  refine (spec_validArcs _ _ _ (N : Int) (S : Int) t ts _ (HI.out.below (by (repeat' (first | (with_reducible exact Below.refl _ _) | (with_reducible refine belS ?_ (by first | omega | (simp; done) | (simp; omega) | (simp only [World.size_alloc, World.size_setCell, World.size_drew] at *; omega))) | (with_reducible refine belA ?_ (by first | omega | (simp; done) | (simp; omega) | (simp only [World.size_alloc, World.size_setCell, World.size_drew] at *; omega))) | (with_reducible refine bel_drewN ?_ _) | (with_reducible refine Below.drew ?_) | (with_reducible assumption) | (refine Hid.out ?_; with_reducible assumption) | (apply belV; (with_reducible assumption); exact (by first | omega | (simp; done) | (simp; omega) | (simp only [World.size_alloc, World.size_setCell, World.size_drew] at *; omega))))))) hm).mono ?_
  rintro e wv ⟨rfl, hb⟩
  have Gv : Hid (Below w.heap.size w wv) := belU hb (by (repeat' (first | (with_reducible exact Below.refl _ _) | (with_reducible refine belS ?_ (by first | omega | (simp; done) | (simp; omega) | (simp only [World.size_alloc, World.size_setCell, World.size_drew] at *; omega))) | (with_reducible refine belA ?_ (by first | omega | (simp; done) | (simp; omega) | (simp only [World.size_alloc, World.size_setCell, World.size_drew] at *; omega))) | (with_reducible refine bel_drewN ?_ _) | (with_reducible refine Below.drew ?_) | (with_reducible assumption) | (refine Hid.out ?_; with_reducible assumption) | (apply belV; (with_reducible assumption); exact (by first | omega | (simp; done) | (simp; omega) | (simp only [World.size_alloc, World.size_setCell, World.size_drew] at *; omega)))))) (by first | omega | (simp; done) | (simp; omega) | (simp only [World.size_alloc, World.size_setCell, World.size_drew] at *; omega))
  have zv := hb.size
  (try simp at zv)
  have Dv := Lib.hid hb; clear hb
  rw [h1]
  clear h1
  go_wp2_with fail
  go_loopw [12] (fun s12 wr => ∃ k : Nat, k ≤ m' ∧ s12 = .int .i64 k ∧ Hid (fAll ts fs k = true) ∧ Hid (Below w.heap.size w wr)) (fun s12 _ => m' - (intOf s12).toNat)
  case atStart => exact ⟨0, by omega, rfl, Lib.hid (fAll_0 _ _), by (refine Lib.hid ?_; (repeat' (first | (with_reducible exact Below.refl _ _) | (with_reducible refine belS ?_ (by first | omega | (simp; done) | (simp; omega) | (simp only [World.size_alloc, World.size_setCell, World.size_drew] at *; omega))) | (with_reducible refine belA ?_ (by first | omega | (simp; done) | (simp; omega) | (simp only [World.size_alloc, World.size_setCell, World.size_drew] at *; omega))) | (with_reducible refine bel_drewN ?_ _) | (with_reducible refine Below.drew ?_) | (with_reducible assumption) | (refine Hid.out ?_; with_reducible assumption) | (apply belV; (with_reducible assumption); exact (by first | omega | (simp; done) | (simp; omega) | (simp only [World.size_alloc, World.size_setCell, World.size_drew] at *; omega))))))⟩
  case round =>
    obtain ⟨k, hk, rfl, hal, hbel⟩ := hrel
    have z0 := hbel.out.size
    by_cases hlt : k < m'
    · obtain ⟨b, off, x, y, z, rfl, hb, hx, ix, iy, iz, c0, c1, c2⟩ := (HI.out.below hbel.out).at_ hlt
      obtain ⟨bf, off', f, rfl, hbf, hf0, flo, fhi, cf⟩ := (HJ.out.below hbel.out).at_ hlt
      have FO := Lib.hid (fOk_at hx hf0)
      clear hx hf0
      cases hf : inB f 0 z
      · have E := Lib.hid (F3.out k (by rw [HL.out]; exact hlt) (FO.out.trans hf))
        go_wp2_with fail
        go_quiet ((go_at_call 90; exact q_same (spec_inRange _ _ _ _)))
        go_wp2_with fail
        go_ret2
        exact FlowEnd.no E.out (by (repeat' (first | (with_reducible exact Below.refl _ _) | (with_reducible refine belS ?_ (by first | omega | (simp; done) | (simp; omega) | (simp only [World.size_alloc, World.size_setCell, World.size_drew] at *; omega))) | (with_reducible refine belA ?_ (by first | omega | (simp; done) | (simp; omega) | (simp only [World.size_alloc, World.size_setCell, World.size_drew] at *; omega))) | (with_reducible refine bel_drewN ?_ _) | (with_reducible refine Below.drew ?_) | (with_reducible assumption) | (refine Hid.out ?_; with_reducible assumption) | (apply belV; (with_reducible assumption); exact (by first | omega | (simp; done) | (simp; omega) | (simp only [World.size_alloc, World.size_setCell, World.size_drew] at *; omega))))))
      have NA := Lib.hid (fAll_yes hal.out (FO.out.trans hf))
      go_wp2_with fail
      go_quiet ((go_at_call 90; exact q_same (spec_inRange _ _ _ _)))
      go_wp2_with fail
      go_roundw
      case rel => exact ⟨k + 1, by omega, by go_num, NA, by (refine Lib.hid ?_; (repeat' (first | (with_reducible exact Below.refl _ _) | (with_reducible refine belS ?_ (by first | omega | (simp; done) | (simp; omega) | (simp only [World.size_alloc, World.size_setCell, World.size_drew] at *; omega))) | (with_reducible refine belA ?_ (by first | omega | (simp; done) | (simp; omega) | (simp only [World.size_alloc, World.size_setCell, World.size_drew] at *; omega))) | (with_reducible refine bel_drewN ?_ _) | (with_reducible refine Below.drew ?_) | (with_reducible assumption) | (refine Hid.out ?_; with_reducible assumption) | (apply belV; (with_reducible assumption); exact (by first | omega | (simp; done) | (simp; omega) | (simp only [World.size_alloc, World.size_setCell, World.size_drew] at *; omega))))))⟩
      case measure => simp [intOf]; omega
    · have hke : k = m' := by omega
      subst hke
      have HAL : Hid (fAll ts fs ts.length = true) := Lib.hid (by rw [HL.out]; exact hal.out)
      clear hal
      have F4' : Hid (balB (sTab N ts fs ts.length) (S : Int) t N = false → flowB (N : Int) ts (S : Int) t fs = false ∧ flowV (N : Int) ts (S : Int) t fs = 0) := Lib.hid (fun h => F4.out (by rw [Int.toNat_natCast]; exact h))
      have F5' : Hid (balB (sTab N ts fs ts.length) (S : Int) t N = true → flowB (N : Int) ts (S : Int) t fs = true ∧ flowV (N : Int) ts (S : Int) t fs = (sTab N ts fs ts.length).getD S 0) := Lib.hid (fun h => by have := F5.out HAL.out (by rw [Int.toNat_natCast]; exact h); rw [Int.toNat_natCast, Int.toNat_natCast] at this; exact this)
      go_wp2_with fail
      refine (spec_surplus _ _ _ _ _ _ N _ (S : Int) t ts fs _ (HI.out.below (by (repeat' (first | (with_reducible exact Below.refl _ _) | (with_reducible refine belS ?_ (by first | omega | (simp; done) | (simp; omega) | (simp only [World.size_alloc, World.size_setCell, World.size_drew] at *; omega))) | (with_reducible refine belA ?_ (by first | omega | (simp; done) | (simp; omega) | (simp only [World.size_alloc, World.size_setCell, World.size_drew] at *; omega))) | (with_reducible refine bel_drewN ?_ _) | (with_reducible refine Below.drew ?_) | (with_reducible assumption) | (refine Hid.out ?_; with_reducible assumption) | (apply belV; (with_reducible assumption); exact (by first | omega | (simp; done) | (simp; omega) | (simp only [World.size_alloc, World.size_setCell, World.size_drew] at *; omega))))))) hm (HJ.out.below (by (repeat' (first | (with_reducible exact Below.refl _ _) | (with_reducible refine belS ?_ (by first | omega | (simp; done) | (simp; omega) | (simp only [World.size_alloc, World.size_setCell, World.size_drew] at *; omega))) | (with_reducible refine belA ?_ (by first | omega | (simp; done) | (simp; omega) | (simp only [World.size_alloc, World.size_setCell, World.size_drew] at *; omega))) | (with_reducible refine bel_drewN ?_ _) | (with_reducible refine Below.drew ?_) | (with_reducible assumption) | (refine Hid.out ?_; with_reducible assumption) | (apply belV; (with_reducible assumption); exact (by first | omega | (simp; done) | (simp; omega) | (simp only [World.size_alloc, World.size_setCell, World.size_drew] at *; omega))))))) rfl rfl NB.out HAL.out).mono ?_
      rintro e wu ⟨AU, cu, rfl, how, hb⟩
      have Gu : Hid (Below w.heap.size w wu) := belU hb (by (repeat' (first | (with_reducible exact Below.refl _ _) | (with_reducible refine belS ?_ (by first | omega | (simp; done) | (simp; omega) | (simp only [World.size_alloc, World.size_setCell, World.size_drew] at *; omega))) | (with_reducible refine belA ?_ (by first | omega | (simp; done) | (simp; omega) | (simp only [World.size_alloc, World.size_setCell, World.size_drew] at *; omega))) | (with_reducible refine bel_drewN ?_ _) | (with_reducible refine Below.drew ?_) | (with_reducible assumption) | (refine Hid.out ?_; with_reducible assumption) | (apply belV; (with_reducible assumption); exact (by first | omega | (simp; done) | (simp; omega) | (simp only [World.size_alloc, World.size_setCell, World.size_drew] at *; omega)))))) (by first | omega | (simp; done) | (simp; omega) | (simp only [World.size_alloc, World.size_setCell, World.size_drew] at *; omega))
      (try simp only [World.size_alloc, World.size_setCell, World.size_drew, World.heap_drewN] at how)
      have W0 := Lib.hid how; clear how
      have zu := hb.size
      (try simp at zu)
      have Du := Lib.hid hb; clear hb
      have SL0 : (sTab N ts fs ts.length).length = N := sTab_len _ _ _ _
      obtain ⟨T, hT⟩ : ∃ T, T = sTab N ts fs ts.length := ⟨_, rfl⟩
      rw [← hT] at W0 F4' F5' SL0
      rw [← hT]
      rw [SL0]
      have SL := Lib.hid SL0
      clear hT SL0
      have TI : Hid (Ints wu AU N T) := Lib.hid (by have := OwnS.ints (OwnS.by_ W0 (by (repeat' (first | (with_reducible exact OwnS.madeAt _ _ _ (by first | omega | (simp; done) | (simp; omega) | (simp only [World.size_alloc, World.size_setCell, World.size_drew] at *; omega))) | (with_reducible refine OwnS.far ?_ (by first | omega | (simp; done) | (simp; omega) | (simp only [World.size_alloc, World.size_setCell, World.size_drew] at *; omega)) _) | (with_reducible refine OwnS.alloc ?_ _) | (with_reducible refine OwnS.drewN ?_ _) | (with_reducible refine OwnS.drew ?_) | (with_reducible assumption) | (refine Hid.out ?_; with_reducible assumption) | (apply OwnS.turn; (with_reducible assumption); exact (by first | omega | (simp; done) | (simp; omega) | (simp only [World.size_alloc, World.size_setCell, World.size_drew] at *; omega))) | (apply OwnS.only; (with_reducible assumption); exact (by first | omega | (simp; done) | (simp; omega) | (simp only [World.size_alloc, World.size_setCell, World.size_drew] at *; omega))) | (apply OwnS.belowD; (with_reducible assumption)))))); rwa [SL.out] at this)
      go_wp2_with fail
      go_loopw [14] (fun s14 wq => ∃ q : Nat, q ≤ N ∧ s14 = .int .i64 q ∧ Hid (balB T (S : Int) t q = true) ∧ Hid (Below wu.heap.size wu wq)) (fun s14 _ => N - (intOf s14).toNat)
      case atStart => exact ⟨0, by omega, rfl, Lib.hid (balB_0 _ _ _), Lib.hid (Below.refl _ _)⟩
      case round =>
        obtain ⟨q, hq, rfl, hba, hbq⟩ := hrel
        have G2 : Hid (Below w.heap.size w wr) := Lib.hid (Gu.out.trans (hbq.out.mono Gu.out.size))
        by_cases hlq : q < N
        · obtain ⟨bt, offt, v, rfl, hbt, hvt, vlo, vhi, oc⟩ := (TI.out.below hbq.out).at_ hlq
          have HV : Hid (T.getD q 0 = v) := Lib.hid (by simp [List.getD, hvt])
          clear hvt
          by_cases g1 : (q : Int) = (S : Int)
          · have NX := Lib.hid (balB_yes hba.out (.inl g1))
            have d1 : ((q : Int) != (S : Int)) = false := by simp; omega
            clear g1
            go_wp2_with fail
            go_roundw
            case rel => exact ⟨q + 1, by omega, by go_num, NX, hbq⟩
            case measure => simp [intOf]; omega
          have d1 : ((q : Int) != (S : Int)) = true := by simp; omega
          by_cases g2 : (q : Int) = t
          · have NX := Lib.hid (balB_yes hba.out (.inr (.inl g2)))
            have d2 : ((q : Int) != t) = false := by simp; omega
            clear g2
            go_wp2_with fail
            go_roundw
            case rel => exact ⟨q + 1, by omega, by go_num, NX, hbq⟩
            case measure => simp [intOf]; omega
          have d2 : ((q : Int) != t) = true := by simp; omega
          by_cases g3 : v = 0
          · have NX := Lib.hid (balB_yes hba.out (.inr (.inr (HV.out.trans g3))))
            have d3 : (v != 0) = false := by simp [g3]
            clear g1 g2 g3
            go_wp2_with fail
            go_roundw
            case rel => exact ⟨q + 1, by omega, by go_num, NX, hbq⟩
            case measure => simp [intOf]; omega
          · have E := Lib.hid (F4'.out (balB_no hlq g1 g2 (fun h => g3 (HV.out.symm.trans h))))
            have d3 : (v != 0) = true := by simp [g3]
            clear g1 g2
            go_wp2_with fail
            go_ret2
            exact FlowEnd.no E.out G2.out
        · have hqe : q = N := by omega
          subst hqe
          obtain ⟨bt, offt, v, rfl, hbt, hvt, vlo, vhi, oc⟩ := (TI.out.below hbq.out).at_ hS
          have E := Lib.hid (F5'.out hba.out)
          have HV : Hid (T.getD S 0 = v) := Lib.hid (by simp [List.getD, hvt])
          clear hvt
          go_wp2_with fail
          go_ret2
          exact FlowEnd.yes ⟨E.out.1, E.out.2.trans HV.out⟩ G2.out
end Go.Proofs.Ytjbgjljcgdligaa
