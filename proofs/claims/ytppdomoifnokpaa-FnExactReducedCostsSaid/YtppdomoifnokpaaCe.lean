
/-
  Costs of columns minus duals: what the program's function and the model's answer.
-/
import Derived.Test.YtppdomoifnokpaaCd
import Derived.Test.YtppdomoifnokpaaKu
set_option linter.unusedSimpArgs false
set_option linter.unusedVariables false
namespace Go.Proofs.Ytppdomoifnokpaa
open Go.RowKit

/-- The reduced costs of the first k columns, behind zeros. -/
def redP (cs : List PCol) (ds : List Int) (k : Nat) : List Int := (cs.take k).map (fun c => wrap64 (c.c - sumW ds c.s)) ++ List.replicate (cs.length - k) 0
theorem redP_len (cs : List PCol) (ds : List Int) (k : Nat) (hk : k ≤ cs.length) : (redP cs ds k).length = cs.length := by
  simp [redP]; omega
theorem redP_at {cs : List PCol} {ds : List Int} {k : Nat} (hk : k < cs.length) : (redP cs ds k)[k]? = some 0 := by
  unfold redP
  rw [List.getElem?_append_right (by rw [List.length_map, List.length_take]; omega), List.length_map, List.length_take, Nat.min_eq_left (by omega), Nat.sub_self, List.getElem?_replicate, if_pos (by omega)]
theorem redP_step {cs : List PCol} {ds : List Int} {k : Nat} {d : PCol} (hx : cs[k]? = some d) : (redP cs ds k).set k (wrap64 (d.c - sumW ds d.s)) = redP cs ds (k + 1) := by
  have hk : k < cs.length := (List.getElem?_eq_some_iff.1 hx).1
  unfold redP
  rw [List.take_add_one, hx, List.set_append_right _ _ (by rw [List.length_map, List.length_take]; omega), List.length_map, List.length_take, Nat.min_eq_left (by omega), Nat.sub_self]
  obtain ⟨m, hm⟩ : ∃ m, cs.length - k = m + 1 := ⟨cs.length - k - 1, by omega⟩
  rw [hm, show cs.length - (k + 1) = m by omega, List.replicate_succ, List.set_cons_zero]
  simp
theorem redP_end {cs : List PCol} {ds : List Int} {k : Nat} (hk : k = cs.length) : redP cs ds k = cs.map (fun c => wrap64 (c.c - sumW ds c.s)) := by
  subst hk; simp [redP]

theorem impl_sumAtB (A A' : Option Addr) (n n' c c' : Nat) (xs ps : List Int) (w : World) (hI : Ints w A n xs) (hJ : Ints w A' n' ps) (hn : n ≤ maxLen) (hn' : n' ≤ maxLen) (hp : ∀ p ∈ ps, 0 ≤ p ∧ p < n) :
    Calls Try.prog 92 #[.slice A n c, .slice A' n' c'] w fun e w' => e = .returned (.int .i64 (sumW xs ps)) ∧ Below w.heap.size w w' :=
  (impl_sumAt A A' n n' c c' xs ps w hI hJ hn hn' hp).mono fun _ _ ⟨he, hw⟩ => ⟨he, hw ▸ Below.refl _ _⟩
theorem spec_sumAtB (A A' : Option Addr) (n n' c c' : Nat) (xs ps : List Int) (w : World) (hI : Ints w A n xs) (hJ : Ints w A' n' ps) (hn : n ≤ maxLen) (hn' : n' ≤ maxLen) (hp : ∀ p ∈ ps, 0 ≤ p ∧ p < n) :
    Calls Try.prog 108 #[.slice A n c, .slice A' n' c'] w fun e w' => e = .returned (.int .i64 (sumW xs ps)) ∧ Below w.heap.size w w' :=
  (spec_sumAt A A' n n' c c' xs ps w hI hJ hn hn' hp).mono fun _ _ ⟨he, hw⟩ => ⟨he, hw ▸ Below.refl _ _⟩

set_option maxHeartbeats 8000000 in
set_option maxRecDepth 100000 in
theorem impl_ReducedCosts (m : Int) (A B : Option Addr) (n c q d : Nat) (cs : List PCol) (ds : List Int) (w : World) (hI : ColS w A n cs) (hn : n ≤ maxLen) (hJ : Ints w B q ds) (hq : q ≤ maxLen) :
    Calls Try.prog 40 #[.int .i64 m, .slice A n c, .slice B q d] w (SliceEnd (redV m cs ds) w) := by
  obtain ⟨i0, hi0, hz0, hz1, hz2⟩ := info_parts info_int
  have hn' := hn
  unfold maxLen at hn'
  have HL := Lib.hid hI.len
  have HLq := Lib.hid hJ.len
  have HI := Lib.hid hI; clear hI
  have HJ := Lib.hid hJ; clear hJ
  cases h1 : vCols m cs
  · have E := Lib.hid (redV_1 (ds := ds) h1)
    go_enter Try.func40, Try.ntmps40
    go_wp2_with fail
    refine (impl_validColumns m _ _ _ cs _ HI.out hn).mono ?_
    rintro e w1 ⟨rfl, hb⟩
    have G1 : Hid (Below w.heap.size w w1) := belU hb (by (repeat' (first | (with_reducible exact Below.refl _ _) | (with_reducible refine belS ?_ (by first | omega | (simp; done) | (simp; omega) | (simp only [World.size_alloc, World.size_setCell, World.size_drew] at *; omega))) | (with_reducible refine belA ?_ (by first | omega | (simp; done) | (simp; omega) | (simp only [World.size_alloc, World.size_setCell, World.size_drew] at *; omega))) | (with_reducible refine bel_drewN ?_ _) | (with_reducible refine Below.drew ?_) | (with_reducible assumption) | (refine Hid.out ?_; with_reducible assumption) | (apply belV; (with_reducible assumption); exact (by first | omega | (simp; done) | (simp; omega) | (simp only [World.size_alloc, World.size_setCell, World.size_drew] at *; omega)))))) (by first | omega | (simp; done) | (simp; omega) | (simp only [World.size_alloc, World.size_setCell, World.size_drew] at *; omega))
    have z1 := hb.size
    (try simp at z1)
    have D1 := Lib.hid hb; clear hb
    rw [h1]
    go_wp2_with fail
    go_ret
    exact SliceEnd.nil E.out (by (repeat' (first | (with_reducible exact Below.refl _ _) | (with_reducible refine belS ?_ (by first | omega | (simp; done) | (simp; omega) | (simp only [World.size_alloc, World.size_setCell, World.size_drew] at *; omega))) | (with_reducible refine belA ?_ (by first | omega | (simp; done) | (simp; omega) | (simp only [World.size_alloc, World.size_setCell, World.size_drew] at *; omega))) | (with_reducible refine bel_drewN ?_ _) | (with_reducible refine Below.drew ?_) | (with_reducible assumption) | (refine Hid.out ?_; with_reducible assumption) | (apply belV; (with_reducible assumption); exact (by first | omega | (simp; done) | (simp; omega) | (simp only [World.size_alloc, World.size_setCell, World.size_drew] at *; omega))))))
  cases h2 : vDual m ds
  · have E := Lib.hid (redV_2 (cs := cs) h2)
    go_enter Try.func40, Try.ntmps40
    go_wp2_with fail
    refine (impl_validColumns m _ _ _ cs _ HI.out hn).mono ?_
    rintro e w1 ⟨rfl, hb⟩
    have G1 : Hid (Below w.heap.size w w1) := belU hb (by (repeat' (first | (with_reducible exact Below.refl _ _) | (with_reducible refine belS ?_ (by first | omega | (simp; done) | (simp; omega) | (simp only [World.size_alloc, World.size_setCell, World.size_drew] at *; omega))) | (with_reducible refine belA ?_ (by first | omega | (simp; done) | (simp; omega) | (simp only [World.size_alloc, World.size_setCell, World.size_drew] at *; omega))) | (with_reducible refine bel_drewN ?_ _) | (with_reducible refine Below.drew ?_) | (with_reducible assumption) | (refine Hid.out ?_; with_reducible assumption) | (apply belV; (with_reducible assumption); exact (by first | omega | (simp; done) | (simp; omega) | (simp only [World.size_alloc, World.size_setCell, World.size_drew] at *; omega)))))) (by first | omega | (simp; done) | (simp; omega) | (simp only [World.size_alloc, World.size_setCell, World.size_drew] at *; omega))
    have z1 := hb.size
    (try simp at z1)
    have D1 := Lib.hid hb; clear hb
    rw [h1]
    go_wp2_with fail
    refine (impl_validPrizes _ _ _ m ds _ (HJ.out.below (by (repeat' (first | (with_reducible exact Below.refl _ _) | (with_reducible refine belS ?_ (by first | omega | (simp; done) | (simp; omega) | (simp only [World.size_alloc, World.size_setCell, World.size_drew] at *; omega))) | (with_reducible refine belA ?_ (by first | omega | (simp; done) | (simp; omega) | (simp only [World.size_alloc, World.size_setCell, World.size_drew] at *; omega))) | (with_reducible refine bel_drewN ?_ _) | (with_reducible refine Below.drew ?_) | (with_reducible assumption) | (refine Hid.out ?_; with_reducible assumption) | (apply belV; (with_reducible assumption); exact (by first | omega | (simp; done) | (simp; omega) | (simp only [World.size_alloc, World.size_setCell, World.size_drew] at *; omega))))))) hq).mono ?_
    rintro e w2 ⟨rfl, hb⟩
    have G2 : Hid (Below w.heap.size w w2) := belU hb (by (repeat' (first | (with_reducible exact Below.refl _ _) | (with_reducible refine belS ?_ (by first | omega | (simp; done) | (simp; omega) | (simp only [World.size_alloc, World.size_setCell, World.size_drew] at *; omega))) | (with_reducible refine belA ?_ (by first | omega | (simp; done) | (simp; omega) | (simp only [World.size_alloc, World.size_setCell, World.size_drew] at *; omega))) | (with_reducible refine bel_drewN ?_ _) | (with_reducible refine Below.drew ?_) | (with_reducible assumption) | (refine Hid.out ?_; with_reducible assumption) | (apply belV; (with_reducible assumption); exact (by first | omega | (simp; done) | (simp; omega) | (simp only [World.size_alloc, World.size_setCell, World.size_drew] at *; omega)))))) (by first | omega | (simp; done) | (simp; omega) | (simp only [World.size_alloc, World.size_setCell, World.size_drew] at *; omega))
    have z2 := hb.size
    (try simp at z2)
    have D2 := Lib.hid hb; clear hb
    rw [h2]
    go_wp2_with fail
    go_ret
    exact SliceEnd.nil E.out (by (repeat' (first | (with_reducible exact Below.refl _ _) | (with_reducible refine belS ?_ (by first | omega | (simp; done) | (simp; omega) | (simp only [World.size_alloc, World.size_setCell, World.size_drew] at *; omega))) | (with_reducible refine belA ?_ (by first | omega | (simp; done) | (simp; omega) | (simp only [World.size_alloc, World.size_setCell, World.size_drew] at *; omega))) | (with_reducible refine bel_drewN ?_ _) | (with_reducible refine Below.drew ?_) | (with_reducible assumption) | (refine Hid.out ?_; with_reducible assumption) | (apply belV; (with_reducible assumption); exact (by first | omega | (simp; done) | (simp; omega) | (simp only [World.size_alloc, World.size_setCell, World.size_drew] at *; omega))))))
  have E := Lib.hid (redV_3 h1 h2)
  have RB := Lib.hid (redV_bd m cs ds)
  obtain ⟨f1, f2, f3⟩ := vCols_facts h1
  have HF := Lib.hid f3; clear f3
  have hqm : Hid ((q : Int) = m) := Lib.hid (by have := HLq.out; simp only [vDual, Bool.and_eq_true, decide_eq_true_eq] at h2; omega)
  have h31 : n ≤ 31 := by have := HL.out; omega
  clear f2
  have hmk := fun W => run_makeN (P := Try.prog) 22 3 i0 (.int .i64 0) Try.underlying22 hi0 hz0 n (by rw [hz2]; omega) (by omega) W
  simp only [hz1, Nat.mul_one] at hmk
  go_enter Try.func40, Try.ntmps40
  go_wp2_with fail
  refine (impl_validColumns m _ _ _ cs _ HI.out hn).mono ?_
  rintro e w1 ⟨rfl, hb⟩
  have G1 : Hid (Below w.heap.size w w1) := belU hb (by (repeat' (first | (with_reducible exact Below.refl _ _) | (with_reducible refine belS ?_ (by first | omega | (simp; done) | (simp; omega) | (simp only [World.size_alloc, World.size_setCell, World.size_drew] at *; omega))) | (with_reducible refine belA ?_ (by first | omega | (simp; done) | (simp; omega) | (simp only [World.size_alloc, World.size_setCell, World.size_drew] at *; omega))) | (with_reducible refine bel_drewN ?_ _) | (with_reducible refine Below.drew ?_) | (with_reducible assumption) | (refine Hid.out ?_; with_reducible assumption) | (apply belV; (with_reducible assumption); exact (by first | omega | (simp; done) | (simp; omega) | (simp only [World.size_alloc, World.size_setCell, World.size_drew] at *; omega)))))) (by first | omega | (simp; done) | (simp; omega) | (simp only [World.size_alloc, World.size_setCell, World.size_drew] at *; omega))
  have z1 := hb.size
  (try simp at z1)
  have D1 := Lib.hid hb; clear hb
  rw [h1]
  go_wp2_with fail
  refine (impl_validPrizes _ _ _ m ds _ (HJ.out.below (by (repeat' (first | (with_reducible exact Below.refl _ _) | (with_reducible refine belS ?_ (by first | omega | (simp; done) | (simp; omega) | (simp only [World.size_alloc, World.size_setCell, World.size_drew] at *; omega))) | (with_reducible refine belA ?_ (by first | omega | (simp; done) | (simp; omega) | (simp only [World.size_alloc, World.size_setCell, World.size_drew] at *; omega))) | (with_reducible refine bel_drewN ?_ _) | (with_reducible refine Below.drew ?_) | (with_reducible assumption) | (refine Hid.out ?_; with_reducible assumption) | (apply belV; (with_reducible assumption); exact (by first | omega | (simp; done) | (simp; omega) | (simp only [World.size_alloc, World.size_setCell, World.size_drew] at *; omega))))))) hq).mono ?_
  rintro e w2 ⟨rfl, hb⟩
  have G2 : Hid (Below w.heap.size w w2) := belU hb (by (repeat' (first | (with_reducible exact Below.refl _ _) | (with_reducible refine belS ?_ (by first | omega | (simp; done) | (simp; omega) | (simp only [World.size_alloc, World.size_setCell, World.size_drew] at *; omega))) | (with_reducible refine belA ?_ (by first | omega | (simp; done) | (simp; omega) | (simp only [World.size_alloc, World.size_setCell, World.size_drew] at *; omega))) | (with_reducible refine bel_drewN ?_ _) | (with_reducible refine Below.drew ?_) | (with_reducible assumption) | (refine Hid.out ?_; with_reducible assumption) | (apply belV; (with_reducible assumption); exact (by first | omega | (simp; done) | (simp; omega) | (simp only [World.size_alloc, World.size_setCell, World.size_drew] at *; omega)))))) (by first | omega | (simp; done) | (simp; omega) | (simp only [World.size_alloc, World.size_setCell, World.size_drew] at *; omega))
  have z2 := hb.size
  (try simp at z2)
  have D2 := Lib.hid hb; clear hb
  rw [h2]
  go_wp2_with fail
  clear hmk
  go_loopw [8, 9, 25] (fun s8 s9 s25 wr => ∃ (k : Nat) (u8 u9 : Value), k ≤ n ∧ u8 = s8 ∧ u9 = s9 ∧ s25 = .int .i64 k ∧ Hid (OwnI wr w2.heap.size (redP cs ds k)) ∧ Hid (Below w.heap.size w wr)) (fun _ _ s25 _ => n - (intOf s25).toNat)
  case atStart => exact ⟨0, _, _, by omega, rfl, rfl, rfl, Lib.hid (by have e : redP cs ds 0 = List.replicate n 0 := (by simp [redP, HL.out]); rw [e]; (repeat' (first | (with_reducible exact OwnI.madeAt _ _ _ (by first | omega | (simp; done) | (simp; omega) | (simp only [World.size_alloc, World.size_setCell, World.size_drew] at *; omega))) | (with_reducible refine OwnI.far ?_ (by first | omega | (simp; done) | (simp; omega) | (simp only [World.size_alloc, World.size_setCell, World.size_drew] at *; omega)) _) | (with_reducible refine OwnI.alloc ?_ _) | (with_reducible refine OwnI.drewN ?_ _) | (with_reducible refine OwnI.drew ?_) | (with_reducible assumption) | (refine Hid.out ?_; with_reducible assumption) | (apply OwnI.turn; (with_reducible assumption); exact (by first | omega | (simp; done) | (simp; omega) | (simp only [World.size_alloc, World.size_setCell, World.size_drew] at *; omega))) | (apply OwnI.only; (with_reducible assumption); exact (by first | omega | (simp; done) | (simp; omega) | (simp only [World.size_alloc, World.size_setCell, World.size_drew] at *; omega))) | (apply OwnI.belowD; (with_reducible assumption))))), by (refine Lib.hid ?_; (repeat' (first | (with_reducible exact Below.refl _ _) | (with_reducible refine belS ?_ (by first | omega | (simp; done) | (simp; omega) | (simp only [World.size_alloc, World.size_setCell, World.size_drew] at *; omega))) | (with_reducible refine belA ?_ (by first | omega | (simp; done) | (simp; omega) | (simp only [World.size_alloc, World.size_setCell, World.size_drew] at *; omega))) | (with_reducible refine bel_drewN ?_ _) | (with_reducible refine Below.drew ?_) | (with_reducible assumption) | (refine Hid.out ?_; with_reducible assumption) | (apply belV; (with_reducible assumption); exact (by first | omega | (simp; done) | (simp; omega) | (simp only [World.size_alloc, World.size_setCell, World.size_drew] at *; omega))))))⟩
  case round =>
    obtain ⟨k, u8, u9, hk, rfl, rfl, rfl, hown, hbel⟩ := hrel
    have z0 := hown.out.1
    by_cases hlt : k < n
    · obtain ⟨b, off, x, A', c', rfl, hb, hx, hxi, lx, mx, hcc, hc0, hc1⟩ := (HI.out.below hbel.out).at_ hlt
      have HX := Lib.hid hx
      have HV := Lib.hid hxi; clear hxi
      have hm5 : x.s.length ≤ maxLen := Nat.le_trans lx mx
      have HM : Hid (∀ p ∈ x.s, 0 ≤ p ∧ p < (q : Int)) := Lib.hid (fun p hp => by
        have := ascB_mem (HF.out x (List.mem_of_getElem? hx)).2 p hp
        have := hqm.out
        omega)
      clear hx
      have lR : (redP cs ds k).length = n := by rw [redP_len _ _ _ (by rw [HL.out]; omega), HL.out]
      obtain ⟨o1, o2⟩ := hown.out.at_ (k := k) (by omega)
      have e0 : (redP cs ds k).getD k 0 = 0 := getD_of (redP_at (by rw [HL.out]; omega))
      rw [e0] at o1
      clear lR e0
      have STEP := Lib.hid (redP_step (ds := ds) HX.out)
      have AT : Hid ((redP cs ds k)[k]? = some 0) := Lib.hid (redP_at (by rw [HL.out]; omega))
      have LN : Hid ((redP cs ds k).length = n) := Lib.hid (by rw [redP_len _ _ _ (by rw [HL.out]; omega), HL.out])
      go_wp2_with fail
      go_region_held3 (fun w' => w'.cell? ⟨wr.heap.size, 0, none⟩ = some (.int .i64 x.c) ∧ w'.cell? ⟨wr.heap.size, 1, none⟩ = some (.slice A' x.s.length c')) (first | exact ⟨by assumption, by assumption⟩ | (refine (fun (h0 : Box _ (wr.heap.size) #[.int .i64 x.c, .slice A' x.s.length c']) => ⟨h0.at 0 rfl, h0.at 1 rfl⟩) ?_ <;> (repeat' (first | (with_reducible exact Box.new _ _ _ (by first | omega | (simp; done) | (simp; omega) | (simp only [World.size_alloc, World.size_setCell, World.size_drew] at *; omega))) | (with_reducible refine Box.far ?_ (by first | omega | (simp; done) | (simp; omega) | (simp only [World.size_alloc, World.size_setCell, World.size_drew] at *; omega)) _) | (apply Box.put3_0) | (apply Box.put3_1) | (apply Box.put3_2) | (apply Box.put2_0) | (apply Box.put2_1) | (with_reducible refine Box.alloc ?_ _) | (with_reducible refine Box.drewN ?_ _) | (with_reducible refine Box.drew ?_) | (with_reducible assumption) | (refine Hid.out ?_; with_reducible assumption) | (apply Box.only; (with_reducible assumption); exact (by first | omega | (simp; done) | (simp; omega) | (simp only [World.size_alloc, World.size_setCell, World.size_drew] at *; omega))) | (apply Box.belowD; (with_reducible assumption))))))
        ((first
          | (go_at_call 92; refine (impl_sumAtB _ _ _ _ _ _ ds x.s _ (HJ.out.below (by (repeat' (first | (with_reducible exact Below.refl _ _) | (with_reducible refine belS ?_ (by first | omega | (simp; done) | (simp; omega) | (simp only [World.size_alloc, World.size_setCell, World.size_drew] at *; omega))) | (with_reducible refine belA ?_ (by first | omega | (simp; done) | (simp; omega) | (simp only [World.size_alloc, World.size_setCell, World.size_drew] at *; omega))) | (with_reducible refine bel_drewN ?_ _) | (with_reducible refine Below.drew ?_) | (with_reducible assumption) | (refine Hid.out ?_; with_reducible assumption) | (apply belV; (with_reducible assumption); exact (by first | omega | (simp; done) | (simp; omega) | (simp only [World.size_alloc, World.size_setCell, World.size_drew] at *; omega))))))) (HV.out.below (by (repeat' (first | (with_reducible exact Below.refl _ _) | (with_reducible refine belS ?_ (by first | omega | (simp; done) | (simp; omega) | (simp only [World.size_alloc, World.size_setCell, World.size_drew] at *; omega))) | (with_reducible refine belA ?_ (by first | omega | (simp; done) | (simp; omega) | (simp only [World.size_alloc, World.size_setCell, World.size_drew] at *; omega))) | (with_reducible refine bel_drewN ?_ _) | (with_reducible refine Below.drew ?_) | (with_reducible assumption) | (refine Hid.out ?_; with_reducible assumption) | (apply belV; (with_reducible assumption); exact (by first | omega | (simp; done) | (simp; omega) | (simp only [World.size_alloc, World.size_setCell, World.size_drew] at *; omega))))))) hq hm5 HM.out).mono ?_; rintro e w3 ⟨rfl, hb⟩; have G3 : Hid (Below w.heap.size w w3) := belU hb (by (repeat' (first | (with_reducible exact Below.refl _ _) | (with_reducible refine belS ?_ (by first | omega | (simp; done) | (simp; omega) | (simp only [World.size_alloc, World.size_setCell, World.size_drew] at *; omega))) | (with_reducible refine belA ?_ (by first | omega | (simp; done) | (simp; omega) | (simp only [World.size_alloc, World.size_setCell, World.size_drew] at *; omega))) | (with_reducible refine bel_drewN ?_ _) | (with_reducible refine Below.drew ?_) | (with_reducible assumption) | (refine Hid.out ?_; with_reducible assumption) | (apply belV; (with_reducible assumption); exact (by first | omega | (simp; done) | (simp; omega) | (simp only [World.size_alloc, World.size_setCell, World.size_drew] at *; omega)))))) (by first | omega | (simp; done) | (simp; omega) | (simp only [World.size_alloc, World.size_setCell, World.size_drew] at *; omega)); have X9_3 : Hid (Box w3 (wr.heap.size) #[.int .i64 x.c, .slice A' x.s.length c']) := Lib.hid (Box.below (by (repeat' (first | (with_reducible exact Box.new _ _ _ (by first | omega | (simp; done) | (simp; omega) | (simp only [World.size_alloc, World.size_setCell, World.size_drew] at *; omega))) | (with_reducible refine Box.far ?_ (by first | omega | (simp; done) | (simp; omega) | (simp only [World.size_alloc, World.size_setCell, World.size_drew] at *; omega)) _) | (apply Box.put3_0) | (apply Box.put3_1) | (apply Box.put3_2) | (apply Box.put2_0) | (apply Box.put2_1) | (with_reducible refine Box.alloc ?_ _) | (with_reducible refine Box.drewN ?_ _) | (with_reducible refine Box.drew ?_) | (with_reducible assumption) | (refine Hid.out ?_; with_reducible assumption) | (apply Box.only; (with_reducible assumption); exact (by first | omega | (simp; done) | (simp; omega) | (simp only [World.size_alloc, World.size_setCell, World.size_drew] at *; omega))) | (apply Box.belowD; (with_reducible assumption))))) hb); have yX9_3 : wr.heap.size < w3.heap.size := X9_3.out.1; obtain ⟨X9_3c0, X9_3c1⟩ := Box.facts2 X9_3.out; have z3 := hb.size; (try simp at z3); obtain ⟨hc3, hf3⟩ := bcell hb; (try have yv3_w1 : w1.heap.size < w3.heap.size := by omega); (try have yv3_w2 : w2.heap.size < w3.heap.size := by omega); have D3 := Lib.hid hb; clear hb; have OW3 : Hid (OwnI w3 w2.heap.size (redP cs ds k)) := Lib.hid (by (repeat' (first | (with_reducible exact OwnI.madeAt _ _ _ (by first | omega | (simp; done) | (simp; omega) | (simp only [World.size_alloc, World.size_setCell, World.size_drew] at *; omega))) | (with_reducible refine OwnI.far ?_ (by first | omega | (simp; done) | (simp; omega) | (simp only [World.size_alloc, World.size_setCell, World.size_drew] at *; omega)) _) | (with_reducible refine OwnI.alloc ?_ _) | (with_reducible refine OwnI.drewN ?_ _) | (with_reducible refine OwnI.drew ?_) | (with_reducible assumption) | (refine Hid.out ?_; with_reducible assumption) | (apply OwnI.turn; (with_reducible assumption); exact (by first | omega | (simp; done) | (simp; omega) | (simp only [World.size_alloc, World.size_setCell, World.size_drew] at *; omega))) | (apply OwnI.only; (with_reducible assumption); exact (by first | omega | (simp; done) | (simp; omega) | (simp only [World.size_alloc, World.size_setCell, World.size_drew] at *; omega))) | (apply OwnI.belowD; (with_reducible assumption))))); have p12 := OwnI.at_ OW3.out (k := k) (by rw [LN.out]; exact hlt); rw [getD_of AT.out] at p12; obtain ⟨p1, p2⟩ := p12; have ow1 := OW3.out.1)))
      all_goals
        go_wp2_with fail
        go_roundw
        case rel =>
          refine ⟨k + 1, _, _, by omega, rfl, rfl, by go_num, Lib.hid ?_, by (refine Lib.hid ?_; (repeat' (first | (with_reducible exact Below.refl _ _) | (with_reducible refine belS ?_ (by first | omega | (simp; done) | (simp; omega) | (simp only [World.size_alloc, World.size_setCell, World.size_drew] at *; omega))) | (with_reducible refine belA ?_ (by first | omega | (simp; done) | (simp; omega) | (simp only [World.size_alloc, World.size_setCell, World.size_drew] at *; omega))) | (with_reducible refine bel_drewN ?_ _) | (with_reducible refine Below.drew ?_) | (with_reducible assumption) | (refine Hid.out ?_; with_reducible assumption) | (apply belV; (with_reducible assumption); exact (by first | omega | (simp; done) | (simp; omega) | (simp only [World.size_alloc, World.size_setCell, World.size_drew] at *; omega))))))⟩
          rw [← STEP.out]
          (repeat' (first | (with_reducible refine OwnI.set_ ?_ AT.out _) | (with_reducible refine OwnI.drewN ?_ _) | (with_reducible refine OwnI.drew ?_) | (with_reducible assumption) | (refine Hid.out ?_; with_reducible assumption)))
        case measure => simp [intOf]; omega
    · have hke : k = n := by omega
      subst hke
      go_wp2_with fail
      go_ret
      have RE := redP_end (ds := ds) HL.out.symm
      refine ⟨some ⟨w2.heap.size, 0, none⟩, k, ?_, OwnS.of_own ?_ (by first | omega | (simp; done) | (simp; omega) | (simp only [World.size_alloc, World.size_setCell, World.size_drew] at *; omega)) hown.out.1 RB.out.1 (by have := RB.out.2; omega), hbel.out⟩
      · rw [E.out, List.length_map, HL.out]; rfl
      · rw [E.out, ← RE]; exact hown.out
end Go.Proofs.Ytppdomoifnokpaa
