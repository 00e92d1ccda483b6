
/-
  Costs of partitions: the program, and the model's counts.
-/
import Derived.Test.YtppdomoifnokpaaCh
set_option linter.unusedSimpArgs false
set_option linter.unusedVariables false
namespace Go.Proofs.Ytppdomoifnokpaa
open Go.RowKit

theorem chosen_at {cs : List PCol} {ps : List Int} {k : Nat} {p : Int} (ha : ascB ps cs.length = true) (hp : ps[k]? = some p) : ∃ (i : Nat) (d : PCol), p = (i : Int) ∧ i < cs.length ∧ cs[i]? = some d ∧ stopsAt cs (ps.getD k 0) = d.s ∧ costAt cs (ps.getD k 0) = d.c := by
  have := ascB_mem ha p (List.mem_of_getElem? hp)
  obtain ⟨i, rfl⟩ := Int.eq_ofNat_of_zero_le this.1
  have hi : i < cs.length := by omega
  have hx : cs[i]? = some cs[i] := List.getElem?_eq_getElem hi
  have hg := getD_of hp
  refine ⟨i, cs[i], rfl, hi, hx, ?_, ?_⟩
  · rw [hg]; exact stopsAt_of (by rw [Int.toNat_natCast]; exact hx)
  · rw [hg]; exact costAt_of (by rw [Int.toNat_natCast]; exact hx)

set_option maxHeartbeats 8000000 in
set_option maxRecDepth 100000 in
theorem impl_PartitionCost (m : Int) (A B : Option Addr) (n c q d : Nat) (cs : List PCol) (ps : List Int) (w : World) (hI : ColS w A n cs) (hn : n ≤ maxLen) (hJ : Ints w B q ps) (hq : q ≤ maxLen) :
    Calls Try.prog 37 #[.int .i64 m, .slice A n c, .slice B q d] w fun e w' => e = .returned (.int .i64 (pCost m cs ps)) ∧ Below w.heap.size w w' := by
  have hn' := hn
  unfold maxLen at hn'
  have hl := hI.len
  have HL := Lib.hid hI.len
  have HLq := Lib.hid hJ.len
  have HI := Lib.hid hI; clear hI
  have HJ := Lib.hid hJ; clear hJ
  cases h1 : vCols m cs
  · have E := Lib.hid (pCost_1 (ps := ps) h1)
    clear hl
    go_enter Try.func37, Try.ntmps37
    go_wp2_with fail
    refine (impl_validColumns m _ _ _ cs _ HI.out hn).mono ?_
    rintro e w1 ⟨rfl, hb⟩
    have G1 : Hid (Below w.heap.size w w1) := belU hb (by (repeat' (first | (with_reducible exact Below.refl _ _) | (with_reducible refine belS ?_ (by first | omega | (simp; done) | (simp; omega) | (simp only [World.size_alloc, World.size_setCell, World.size_drew] at *; omega))) | (with_reducible refine belA ?_ (by first | omega | (simp; done) | (simp; omega) | (simp only [World.size_alloc, World.size_setCell, World.size_drew] at *; omega))) | (with_reducible refine bel_drewN ?_ _) | (with_reducible refine Below.drew ?_) | (with_reducible assumption) | (refine Hid.out ?_; with_reducible assumption) | (apply belV; (with_reducible assumption); exact (by first | omega | (simp; done) | (simp; omega) | (simp only [World.size_alloc, World.size_setCell, World.size_drew] at *; omega)))))) (by first | omega | (simp; done) | (simp; omega) | (simp only [World.size_alloc, World.size_setCell, World.size_drew] at *; omega))
    have z1 := hb.size
    (try simp at z1)
    have D1 := Lib.hid hb; clear hb
    rw [h1]
    go_wp2_with fail
    go_ret
    exact ⟨ret_i E.out.symm, by (repeat' (first | (with_reducible exact Below.refl _ _) | (with_reducible refine belS ?_ (by first | omega | (simp; done) | (simp; omega) | (simp only [World.size_alloc, World.size_setCell, World.size_drew] at *; omega))) | (with_reducible refine belA ?_ (by first | omega | (simp; done) | (simp; omega) | (simp only [World.size_alloc, World.size_setCell, World.size_drew] at *; omega))) | (with_reducible refine bel_drewN ?_ _) | (with_reducible refine Below.drew ?_) | (with_reducible assumption) | (refine Hid.out ?_; with_reducible assumption) | (apply belV; (with_reducible assumption); exact (by first | omega | (simp; done) | (simp; omega) | (simp only [World.size_alloc, World.size_setCell, World.size_drew] at *; omega)))))⟩
  obtain ⟨⟨f1, f1'⟩, f2, f3⟩ := vCols_facts h1
  have hc31 : n ≤ 31 := by omega
  obtain ⟨N, rfl⟩ := Int.eq_ofNat_of_zero_le f1
  cases h2 : ascB ps n
  · have E := Lib.hid (pCost_2 (n := (N : Int)) (cs := cs) (ps := ps) (by rw [hl]; exact h2))
    clear hl
    go_enter Try.func37, Try.ntmps37
    go_wp2_with fail
    refine (impl_validColumns _ _ _ _ cs _ HI.out hn).mono ?_
    rintro e w1 ⟨rfl, hb⟩
    have G1 : Hid (Below w.heap.size w w1) := belU hb (by (repeat' (first | (with_reducible exact Below.refl _ _) | (with_reducible refine belS ?_ (by first | omega | (simp; done) | (simp; omega) | (simp only [World.size_alloc, World.size_setCell, World.size_drew] at *; omega))) | (with_reducible refine belA ?_ (by first | omega | (simp; done) | (simp; omega) | (simp only [World.size_alloc, World.size_setCell, World.size_drew] at *; omega))) | (with_reducible refine bel_drewN ?_ _) | (with_reducible refine Below.drew ?_) | (with_reducible assumption) | (refine Hid.out ?_; with_reducible assumption) | (apply belV; (with_reducible assumption); exact (by first | omega | (simp; done) | (simp; omega) | (simp only [World.size_alloc, World.size_setCell, World.size_drew] at *; omega)))))) (by first | omega | (simp; done) | (simp; omega) | (simp only [World.size_alloc, World.size_setCell, World.size_drew] at *; omega))
    have z1 := hb.size
    (try simp at z1)
    have D1 := Lib.hid hb; clear hb
    rw [h1]
    go_wp2_with (go_at_call 85; ((with_reducible refine (impl_ascends _ _ _ (n : Int) ps _ (HJ.out.below (by (repeat' (first | (with_reducible exact Below.refl _ _) | (with_reducible refine belS ?_ (by first | omega | (simp; done) | (simp; omega) | (simp only [World.size_alloc, World.size_setCell, World.size_drew] at *; omega))) | (with_reducible refine belA ?_ (by first | omega | (simp; done) | (simp; omega) | (simp only [World.size_alloc, World.size_setCell, World.size_drew] at *; omega))) | (with_reducible refine bel_drewN ?_ _) | (with_reducible refine Below.drew ?_) | (with_reducible assumption) | (refine Hid.out ?_; with_reducible assumption) | (apply belV; (with_reducible assumption); exact (by first | omega | (simp; done) | (simp; omega) | (simp only [World.size_alloc, World.size_setCell, World.size_drew] at *; omega))))))) hq (by omega) (by omega)).mono ?_); rintro e w' ⟨rfl, rfl⟩))
    go_ret
    exact ⟨ret_i E.out.symm, by (repeat' (first | (with_reducible exact Below.refl _ _) | (with_reducible refine belS ?_ (by first | omega | (simp; done) | (simp; omega) | (simp only [World.size_alloc, World.size_setCell, World.size_drew] at *; omega))) | (with_reducible refine belA ?_ (by first | omega | (simp; done) | (simp; omega) | (simp only [World.size_alloc, World.size_setCell, World.size_drew] at *; omega))) | (with_reducible refine bel_drewN ?_ _) | (with_reducible refine Below.drew ?_) | (with_reducible assumption) | (refine Hid.out ?_; with_reducible assumption) | (apply belV; (with_reducible assumption); exact (by first | omega | (simp; done) | (simp; omega) | (simp only [World.size_alloc, World.size_setCell, World.size_drew] at *; omega)))))⟩
  have ha : ascB ps cs.length = true := by rw [hl]; exact h2
  have hq31 : q ≤ 31 := by have := asc_le ha; have := HLq.out; omega
  have HA := Lib.hid ha
  have H1 := Lib.hid h1
  have HS : Hid (∀ x ∈ cs, ∀ s ∈ x.s, 0 ≤ s ∧ s < (N : Int)) := Lib.hid (fun x hx s hs => by have := ascB_mem (f3 x hx).2 s hs; omega)
  have HCB := Lib.hid (costF_bd (ps := ps) (fun x hx => (f3 x hx).1))
  have HCC : Hid (∀ x ∈ cs, 0 ≤ x.c ∧ x.c ≤ 9999) := Lib.hid (fun x hx => (f3 x hx).1)
  have LS := Lib.hid (left_start N cs ps (by omega))
  clear ha f3 hl f2
  have hN5 : N ≤ 5 := by omega
  go_enter Try.func37, Try.ntmps37
  go_wp2_with fail
  refine (impl_validColumns _ _ _ _ cs _ HI.out hn).mono ?_
  rintro e w1 ⟨rfl, hb⟩
  have G1 : Hid (Below w.heap.size w w1) := belU hb (by (repeat' (first | (with_reducible exact Below.refl _ _) | (with_reducible refine belS ?_ (by first | omega | (simp; done) | (simp; omega) | (simp only [World.size_alloc, World.size_setCell, World.size_drew] at *; omega))) | (with_reducible refine belA ?_ (by first | omega | (simp; done) | (simp; omega) | (simp only [World.size_alloc, World.size_setCell, World.size_drew] at *; omega))) | (with_reducible refine bel_drewN ?_ _) | (with_reducible refine Below.drew ?_) | (with_reducible assumption) | (refine Hid.out ?_; with_reducible assumption) | (apply belV; (with_reducible assumption); exact (by first | omega | (simp; done) | (simp; omega) | (simp only [World.size_alloc, World.size_setCell, World.size_drew] at *; omega)))))) (by first | omega | (simp; done) | (simp; omega) | (simp only [World.size_alloc, World.size_setCell, World.size_drew] at *; omega))
  have z1 := hb.size
  (try simp at z1)
  have D1 := Lib.hid hb; clear hb
  rw [h1]
  go_wp2_with (first | (go_at_call 85; ((with_reducible refine (impl_ascends _ _ _ (n : Int) ps _ (HJ.out.below (by (repeat' (first | (with_reducible exact Below.refl _ _) | (with_reducible refine belS ?_ (by first | omega | (simp; done) | (simp; omega) | (simp only [World.size_alloc, World.size_setCell, World.size_drew] at *; omega))) | (with_reducible refine belA ?_ (by first | omega | (simp; done) | (simp; omega) | (simp only [World.size_alloc, World.size_setCell, World.size_drew] at *; omega))) | (with_reducible refine bel_drewN ?_ _) | (with_reducible refine Below.drew ?_) | (with_reducible assumption) | (refine Hid.out ?_; with_reducible assumption) | (apply belV; (with_reducible assumption); exact (by first | omega | (simp; done) | (simp; omega) | (simp only [World.size_alloc, World.size_setCell, World.size_drew] at *; omega))))))) hq (by omega) (by omega)).mono ?_); rintro e w' ⟨rfl, rfl⟩)) | (go_at_call 86; ((with_reducible refine (impl_firstNumbers N _ _ rfl hN5).mono ?_); rintro e w' ⟨rfl, rfl⟩)))
  clear h1
  obtain ⟨L0, hL0⟩ : ∃ L0, L0 = 2 ^ N - 1 := ⟨_, rfl⟩
  rw [← hL0]
  rw [← hL0] at LS
  clear hL0
  go_loopw [7, 8, 10, 11, 27] (fun s7 s8 s10 s11 s27 wr => ∃ (k L : Nat) (y : Int) (u10 u11 : Value), k ≤ q ∧ s7 = .int .i64 y ∧ s8 = .int .u64 (L : Nat) ∧ u10 = s10 ∧ u11 = s11 ∧ s27 = .int .i64 k ∧ Hid (y = costF cs ps k) ∧ Hid (LeftN N cs ps k L) ∧ Hid (Below w.heap.size w wr)) (fun _ _ _ _ s27 _ => q - (intOf s27).toNat)
  case atStart => exact ⟨0, L0, 0, _, _, by omega, rfl, rfl, rfl, rfl, rfl, rfl, LS, by (refine Lib.hid ?_; (repeat' (first | (with_reducible exact Below.refl _ _) | (with_reducible refine belS ?_ (by first | omega | (simp; done) | (simp; omega) | (simp only [World.size_alloc, World.size_setCell, World.size_drew] at *; omega))) | (with_reducible refine belA ?_ (by first | omega | (simp; done) | (simp; omega) | (simp only [World.size_alloc, World.size_setCell, World.size_drew] at *; omega))) | (with_reducible refine bel_drewN ?_ _) | (with_reducible refine Below.drew ?_) | (with_reducible assumption) | (refine Hid.out ?_; with_reducible assumption) | (apply belV; (with_reducible assumption); exact (by first | omega | (simp; done) | (simp; omega) | (simp only [World.size_alloc, World.size_setCell, World.size_drew] at *; omega))))))⟩
  case round =>
    obtain ⟨k, L, y, u10, u11, hk, rfl, rfl, rfl, rfl, rfl, hy, hL, hbel⟩ := hrel
    have z0 := hbel.out.size
    have hL32 := hL.out.1
    have yb := HCB.out k
    rw [← hy.out] at yb
    obtain ⟨y0, y1⟩ := yb
    by_cases hlt : k < q
    · obtain ⟨b, off, p, rfl, hb, hp, hplo, hphi, hpc⟩ := (HJ.out.below hbel.out).at_ hlt
      obtain ⟨i, x', rfl, hi, hxi, hst, hco⟩ := chosen_at HA.out hp
      have hin : i < n := by have := HL.out; omega
      obtain ⟨b2, off2, x, A', c', rfl, hb2, hx, hxs, lx, mx, hcc, hc0, hc1⟩ := (HI.out.below hbel.out).at_ hin
      rw [hxi] at hx
      injection hx with hx
      subst hx
      have hm5 : x'.s.length ≤ maxLen := Nat.le_trans lx mx
      have HV := Lib.hid hxs; clear hxs
      obtain ⟨cc0, cc1⟩ := HCC.out x' (List.mem_of_getElem? hxi)
      have HSX := HS.out x' (List.mem_of_getElem? hxi)
      have HS4 : Hid (∀ s ∈ x'.s, 0 ≤ s ∧ s ≤ 4) := Lib.hid (fun s hs => by have := HSX s hs; omega)
      have s32 := setN_lt x'.s HS4.out
      have HST := Lib.hid hst
      have HCO := Lib.hid hco
      have HSX' := Lib.hid HSX
      clear hst hco HSX hp hxi
      obtain ⟨S, hS⟩ : ∃ S, S = setN x'.s := ⟨_, rfl⟩
      rw [← hS] at s32
      have HSS := Lib.hid hS; clear hS
      have hAN := u64_andNot_nat L S (by omega) (by omega)
      have HNY : Hid (y + x'.c = costF cs ps (k + 1)) := Lib.hid (by rw [costF, HCO.out, hy.out])
      by_cases hp : S ||| L = L
      · have NX : Hid (LeftN N cs ps (k + 1) (L &&& (18446744073709551615 - S))) := Lib.hid (by have := left_next hL.out (by rw [HST.out]; exact HSX'.out) (by rw [HST.out, ← HSS.out]; exact s32) (by rw [HST.out, ← HSS.out]; exact hp); rw [HST.out, ← HSS.out] at this; exact this)
        have HP := Lib.hid hp; clear hp
        have hdec : decide (S ||| L = L) = true := decide_eq_true HP.out
        go_wp2_with (first | (go_at_call 87; ((with_reducible refine (impl_setOf _ _ _ x'.s _ HV.out hm5 HS4.out).mono ?_); rintro e w' ⟨rfl, rfl⟩; rw [← HSS.out])) | (go_at_call 58; ((with_reducible refine (impl_partN _ _ _ s32 hL32).mono ?_); rintro e w' ⟨rfl, rfl⟩)))
        go_roundw
        case rel => exact ⟨k + 1, _, _, _, _, by omega, rfl, rfl, rfl, rfl, by go_num, HNY, NX, hbel⟩
        case measure => simp [intOf]; omega
      · have E := Lib.hid (pCost_3 (n := (N : Int)) (cs := cs) (ps := ps) (by rw [Int.toNat_natCast]; exact left_bad hL.out (by rw [HLq.out]; exact hlt) (by rw [HST.out]; exact HSX'.out) (by rw [HST.out, ← HSS.out]; exact hp)))
        have hdec : decide (S ||| L = L) = false := decide_eq_false hp
        clear hp
        go_wp2_with (first | (go_at_call 87; ((with_reducible refine (impl_setOf _ _ _ x'.s _ HV.out hm5 HS4.out).mono ?_); rintro e w' ⟨rfl, rfl⟩; rw [← HSS.out])) | (go_at_call 58; ((with_reducible refine (impl_partN _ _ _ s32 hL32).mono ?_); rintro e w' ⟨rfl, rfl⟩)))
        go_ret
        exact ⟨ret_i E.out.symm, by (repeat' (first | (with_reducible exact Below.refl _ _) | (with_reducible refine belS ?_ (by first | omega | (simp; done) | (simp; omega) | (simp only [World.size_alloc, World.size_setCell, World.size_drew] at *; omega))) | (with_reducible refine belA ?_ (by first | omega | (simp; done) | (simp; omega) | (simp only [World.size_alloc, World.size_setCell, World.size_drew] at *; omega))) | (with_reducible refine bel_drewN ?_ _) | (with_reducible refine Below.drew ?_) | (with_reducible assumption) | (refine Hid.out ?_; with_reducible assumption) | (apply belV; (with_reducible assumption); exact (by first | omega | (simp; done) | (simp; omega) | (simp only [World.size_alloc, World.size_setCell, World.size_drew] at *; omega)))))⟩
    · have hkq : k = ps.length := by have := HLq.out; omega
      have HK := Lib.hid hkq; clear hkq
      have OB := Lib.hid (left_end (n := N) (cs := cs) (ps := ps) (L := L) (by rw [← HK.out]; exact hL.out))
      by_cases h0 : L = 0
      · subst h0
        have E := Lib.hid (pCost_4 H1.out HA.out (by rw [Int.toNat_natCast, OB.out]; rfl))
        go_wp2_with fail
        go_ret
        exact ⟨ret_i (by rw [E.out, hy.out, HK.out]), by (repeat' (first | (with_reducible exact Below.refl _ _) | (with_reducible refine belS ?_ (by first | omega | (simp; done) | (simp; omega) | (simp only [World.size_alloc, World.size_setCell, World.size_drew] at *; omega))) | (with_reducible refine belA ?_ (by first | omega | (simp; done) | (simp; omega) | (simp only [World.size_alloc, World.size_setCell, World.size_drew] at *; omega))) | (with_reducible refine bel_drewN ?_ _) | (with_reducible refine Below.drew ?_) | (with_reducible assumption) | (refine Hid.out ?_; with_reducible assumption) | (apply belV; (with_reducible assumption); exact (by first | omega | (simp; done) | (simp; omega) | (simp only [World.size_alloc, World.size_setCell, World.size_drew] at *; omega)))))⟩
      · have E := Lib.hid (pCost_3 (n := (N : Int)) (cs := cs) (ps := ps) (by rw [Int.toNat_natCast, OB.out]; exact decide_eq_false h0))
        have hL0 : ((L : Int) != 0) = true := by simp; omega
        go_wp2_with fail
        go_ret
        exact ⟨ret_i E.out.symm, by (repeat' (first | (with_reducible exact Below.refl _ _) | (with_reducible refine belS ?_ (by first | omega | (simp; done) | (simp; omega) | (simp only [World.size_alloc, World.size_setCell, World.size_drew] at *; omega))) | (with_reducible refine belA ?_ (by first | omega | (simp; done) | (simp; omega) | (simp only [World.size_alloc, World.size_setCell, World.size_drew] at *; omega))) | (with_reducible refine bel_drewN ?_ _) | (with_reducible refine Below.drew ?_) | (with_reducible assumption) | (refine Hid.out ?_; with_reducible assumption) | (apply belV; (with_reducible assumption); exact (by first | omega | (simp; done) | (simp; omega) | (simp only [World.size_alloc, World.size_setCell, World.size_drew] at *; omega)))))⟩
end Go.Proofs.Ytppdomoifnokpaa
