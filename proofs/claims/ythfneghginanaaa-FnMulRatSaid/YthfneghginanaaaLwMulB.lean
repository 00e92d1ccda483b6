
/-
  The walk of the law FnMulRat.
-/
import Derived.Test.YthfneghginanaaaLwAdd
import Derived.Test.YthfneghginanaaaHq
import Derived.Deep.RegionWith
set_option linter.unusedSimpArgs false
set_option linter.unusedVariables false
namespace Go.Proofs.Ythfneghginanaaa
open Go.RowKit

/-- What stands behind 'a * 1': the product in a block of its own, a as it was. -/
def CutE (w w1 : World) (n d : Int) (s11 s12 : Value) (wx : World) : Prop :=
  ∃ g : Nat, s11 = .pointer (some ⟨g, 0, none⟩) ∧ s12 = .bool (Q.mulB n d 1 1) ∧ Two wx g (.int .i64 (Q.mulN n d 1 1)) (.int .i64 (Q.mulD n d 1 1)) ∧ Two wx w1.heap.size (.int .i64 n) (.int .i64 d) ∧ Below w.heap.size w wx
/-- .. and behind 'a * 0'. -/
def CutF (w w1 : World) (g : Nat) (n d : Int) (s13 s14 : Value) (wx : World) : Prop :=
  ∃ k : Nat, s13 = .pointer (some ⟨k, 0, none⟩) ∧ s14 = .bool (Q.mulB n d 0 1) ∧ Two wx k (.int .i64 (Q.mulN n d 0 1)) (.int .i64 (Q.mulD n d 0 1)) ∧ Two wx g (.int .i64 (Q.mulN n d 1 1)) (.int .i64 (Q.mulD n d 1 1)) ∧ Two wx w1.heap.size (.int .i64 n) (.int .i64 d) ∧ Below w.heap.size w wx
theorem Two.pair3 {w : World} {b b' c : Nat} {x y x' y' u v : Value} (h : Two w b x y) (h' : Two w b' x' y') (k : Two w c u v) : w.cell? ⟨b, 0, none⟩ = some x ∧ w.cell? ⟨b, 1, none⟩ = some y ∧ w.cell? ⟨b', 0, none⟩ = some x' ∧ w.cell? ⟨b', 1, none⟩ = some y' ∧ w.cell? ⟨c, 0, none⟩ = some u ∧ w.cell? ⟨c, 1, none⟩ = some v := ⟨h.1, h.2.1, h'.1, h'.2.1, k.1, k.2.1⟩

set_option maxRecDepth 100000 in
set_option maxHeartbeats 4000000 in
theorem FnMulRat_walk (a : Option Addr) (len cap : Nat) (w : World) (h : By w.heap.size w a len cap) :
    Calls Try.prog 3 #[.slice a len cap] w fun e w' => e = .returned (.bool true) ∧ Below w.heap.size w w' := by
  have hl := h.1
  have hl2 := h.2.1
  unfold maxLen at hl2
  have H := Lib.hid h; clear h
  by_cases hbig : 1048576 < len
  · go_enter Try.func3, Try.ntmps3
    go_wp2_with fail
    go_ret
    exact ⟨rfl, Below.refl _ _⟩
  · go_enter Try.func3, Try.ntmps3
    go_wp2_with fail
    refine (DrawMulRat_any w.heap.size _ _ _ _ H.out (Nat.le_refl _)).mono ?_
    rintro e w1 ⟨n, d, m, f, ⟨bn1, bn2⟩, ⟨bd1, bd2⟩, ⟨bm1, bm2⟩, ⟨bf1, bf2⟩, rfl, hb1⟩
    have hs1 := hb1.size
    clear H
    obtain ⟨t1, t2, t3⟩ := Q.mul_comm n d m f
    go_wp2_with fail
    refine (impl_MulRat _ _ _ _ _).mono ?_
    rintro e w2 ⟨rfl, hb2⟩
    obtain ⟨hc2, hf2⟩ := bcell hb2
    have h2 := belTA2 hb1 hb2
    obtain ⟨s2_0, s2_1⟩ : w1.heap.size < w2.heap.size ∧ w1.heap.size + 1 < w2.heap.size := by have := hb2.size; (first | omega | (simp at this; omega))
    go_wp2_with fail
    refine (spec_MulRat _ _ _ _ _).mono ?_
    rintro e w3 ⟨rfl, hb3⟩
    obtain ⟨hc3, hf3⟩ := bcell hb3
    have h3 := belTA h2 hb3
    obtain ⟨s3_0, s3_1, s3_2⟩ : w1.heap.size < w3.heap.size ∧ w1.heap.size + 1 < w3.heap.size ∧ w2.heap.size < w3.heap.size := by have := hb3.size; (first | omega | (simp at this; omega))
    go_wp2_with fail
    refine (impl_MulRat _ _ _ _ _).mono ?_
    rintro e w4 ⟨rfl, hb4⟩
    obtain ⟨hc4, hf4⟩ := bcell hb4
    have h4 := belTA h3 hb4
    obtain ⟨s4_0, s4_1, s4_2, s4_3⟩ : w1.heap.size < w4.heap.size ∧ w1.heap.size + 1 < w4.heap.size ∧ w2.heap.size < w4.heap.size ∧ w3.heap.size < w4.heap.size := by have := hb4.size; (first | omega | (simp at this; omega))
    rw [t1, t2, t3]
    have TA4 : Hid (Two w4 (w1.heap.size) (.int .i64 (n)) (.int .i64 (d))) := Lib.hid (Two.below (Two.alloc (Two.below (Two.alloc (Two.below (Two.alloc (Two.new _ _ _ _) _) hb2) _) hb3) _) hb4)
    have HB4 := Lib.hid h4
    have q4 := h4.size
    have q12 := hb2.size
    have q23 := hb3.size
    have q34 := hb4.size
    simp at q12 q23 q34
    clear h2 h3 h4
    go_upto_region 9 with fail
    go_cut [11, 12] (fun s11 s12 wx => CutE w w1 n d s11 s12 wx)
    case first =>
      go_region_held3 (fun w' => w'.cell? ⟨w1.heap.size, 0, none⟩ = some (.int .i64 (n)) ∧ w'.cell? ⟨w1.heap.size, 1, none⟩ = some (.int .i64 (d))) (first | exact ⟨by assumption, by assumption⟩ | (refine Two.pair ?_; (repeat' (first | exact Hid.out (by assumption) | assumption | refine Two.alloc ?_ _ | refine Two.drewN ?_ _ | refine Two.drew ?_ | refine Two.set ?_ (by omega)))))
        ((first
          | (go_at_call 8; refine (laws_whole _ _).mono ?_; rintro e w5 ⟨rfl, hb5⟩; obtain ⟨hc5, hf5⟩ := bcell hb5; have sz5 := hb5.size; (try simp at sz5); (try have y5_0 : w4.heap.size < w5.heap.size := by omega); (try have y5_1 : w4.heap.size + 1 < w5.heap.size := by omega); have TA5 : Hid (Two w5 (w1.heap.size) (.int .i64 (n)) (.int .i64 (d))) := Lib.hid (Two.below (by (repeat' (first | exact Hid.out (by assumption) | assumption | refine Two.alloc ?_ _ | refine Two.drewN ?_ _ | refine Two.drew ?_ | refine Two.set ?_ (by omega)))) hb5); obtain ⟨c0, c1, f0, f1, z⟩ := TA5.out; have g5 : Hid (Below w.heap.size w w5) := Lib.hid (Below.trans (by (repeat' (first | exact Below.refl _ _ | exact Hid.out (by assumption) | refine belS ?_ (by omega) | refine belA ?_ (by omega) | refine belA ?_ (by simp; omega) | refine belA ?_ (by simp) | refine bel_drewN ?_ _ | refine Below.drew ?_))) (hb5.mono (by first | omega | (simp; omega) | (simp; done)))))
          | (go_at_call 6; refine (impl_MulRat _ _ _ _ _).mono ?_; rintro e w6 ⟨rfl, hb6⟩; obtain ⟨hc6, hf6⟩ := bcell hb6; have sz6 := hb6.size; (try simp at sz6); (try have y6_0 : w4.heap.size < w6.heap.size := by omega); (try have y6_1 : w4.heap.size + 1 < w6.heap.size := by omega); (try have y6_2 : w5.heap.size < w6.heap.size := by omega); have TA6 : Hid (Two w6 (w1.heap.size) (.int .i64 (n)) (.int .i64 (d))) := Lib.hid (Two.below (by (repeat' (first | exact Hid.out (by assumption) | assumption | refine Two.alloc ?_ _ | refine Two.drewN ?_ _ | refine Two.drew ?_ | refine Two.set ?_ (by omega)))) hb6); obtain ⟨c0, c1, f0, f1, z⟩ := TA6.out; have g6 : Hid (Below w.heap.size w w6) := Lib.hid (Below.trans (by (repeat' (first | exact Below.refl _ _ | exact Hid.out (by assumption) | refine belS ?_ (by omega) | refine belA ?_ (by omega) | refine belA ?_ (by simp; omega) | refine belA ?_ (by simp) | refine bel_drewN ?_ _ | refine Below.drew ?_))) (hb6.mono (by first | omega | (simp; omega) | (simp; done)))))))
      all_goals
        go_wp2_with fail
        go_meet
        refine ⟨_, rfl, rfl, ?_, ?_, ?_⟩
        · first
            | exact Two.new _ _ _ _
            | (refine ⟨?_, ?_, ?_, ?_, ?_⟩ <;> (first | (simp [go_sem, *]; done) | (simp [World.setCell]; omega)))
        · clear TA4 TA5
          (repeat' (first | exact Hid.out (by assumption) | assumption | refine Two.alloc ?_ _ | refine Two.drewN ?_ _ | refine Two.drew ?_ | refine Two.set ?_ (by omega)))
        · clear HB4 g5
          (repeat' (first | exact Below.refl _ _ | exact Hid.out (by assumption) | refine belS ?_ (by omega) | refine belA ?_ (by omega) | refine belA ?_ (by simp; omega) | refine belA ?_ (by simp) | refine bel_drewN ?_ _ | refine Below.drew ?_))
    case rest =>
      obtain ⟨g, rfl, rfl, tg, ta, hbel⟩ := hcut
      have TA := Lib.hid ta
      have TG := Lib.hid tg
      have HB := Lib.hid hbel
      have szc := hbel.size
      obtain ⟨c0, c1, f0, f1, za⟩ := ta
      have zg := tg.2.2.2.2
      clear hbel tg hb1 hb2 hb3 hb4 hc2 hf2 hc3 hf3 hc4 hf4 TA4 HB4
      obtain ⟨wd, rfl⟩ : ∃ wd : World, wd = wc := ⟨_, rfl⟩
      go_upto_region 10 with fail
      go_cut [13, 14] (fun s13 s14 wx => CutF w w1 g n d s13 s14 wx)
      case first =>
        go_region_held3 (fun w' => w'.cell? ⟨w1.heap.size, 0, none⟩ = some (.int .i64 (n)) ∧ w'.cell? ⟨w1.heap.size, 1, none⟩ = some (.int .i64 (d))) (first | exact ⟨by assumption, by assumption⟩ | (refine Two.pair ?_; (repeat' (first | exact Hid.out (by assumption) | assumption | refine Two.alloc ?_ _ | refine Two.drewN ?_ _ | refine Two.drew ?_ | refine Two.set ?_ (by omega)))))
          ((first
            | (go_at_call 8; refine (laws_whole _ _).mono ?_; rintro e w7 ⟨rfl, hb7⟩; obtain ⟨hc7, hf7⟩ := bcell hb7; have sz7 := hb7.size; (try simp at sz7); (try have y7_0 : wd.heap.size < w7.heap.size := by omega); have TA7 : Hid (Two w7 (w1.heap.size) (.int .i64 (n)) (.int .i64 (d))) := Lib.hid (Two.below (by (repeat' (first | exact Hid.out (by assumption) | assumption | refine Two.alloc ?_ _ | refine Two.drewN ?_ _ | refine Two.drew ?_ | refine Two.set ?_ (by omega)))) hb7); obtain ⟨c0, c1, f0, f1, z⟩ := TA7.out; have TG7 : Hid (Two w7 (g) (.int .i64 (Q.mulN n d 1 1)) (.int .i64 (Q.mulD n d 1 1))) := Lib.hid (Two.below (by (repeat' (first | exact Hid.out (by assumption) | assumption | refine Two.alloc ?_ _ | refine Two.drewN ?_ _ | refine Two.drew ?_ | refine Two.set ?_ (by omega)))) hb7); obtain ⟨c0, c1, f0, f1, z⟩ := TG7.out; have g7 : Hid (Below w.heap.size w w7) := Lib.hid (Below.trans (by (repeat' (first | exact Below.refl _ _ | exact Hid.out (by assumption) | refine belS ?_ (by omega) | refine belA ?_ (by omega) | refine belA ?_ (by simp; omega) | refine belA ?_ (by simp) | refine bel_drewN ?_ _ | refine Below.drew ?_))) (hb7.mono (by first | omega | (simp; omega) | (simp; done)))))
            | (go_at_call 6; refine (impl_MulRat _ _ _ _ _).mono ?_; rintro e w8 ⟨rfl, hb8⟩; obtain ⟨hc8, hf8⟩ := bcell hb8; have sz8 := hb8.size; (try simp at sz8); (try have y8_0 : wd.heap.size < w8.heap.size := by omega); (try have y8_1 : w7.heap.size < w8.heap.size := by omega); have TA8 : Hid (Two w8 (w1.heap.size) (.int .i64 (n)) (.int .i64 (d))) := Lib.hid (Two.below (by (repeat' (first | exact Hid.out (by assumption) | assumption | refine Two.alloc ?_ _ | refine Two.drewN ?_ _ | refine Two.drew ?_ | refine Two.set ?_ (by omega)))) hb8); obtain ⟨c0, c1, f0, f1, z⟩ := TA8.out; have TG8 : Hid (Two w8 (g) (.int .i64 (Q.mulN n d 1 1)) (.int .i64 (Q.mulD n d 1 1))) := Lib.hid (Two.below (by (repeat' (first | exact Hid.out (by assumption) | assumption | refine Two.alloc ?_ _ | refine Two.drewN ?_ _ | refine Two.drew ?_ | refine Two.set ?_ (by omega)))) hb8); obtain ⟨c0, c1, f0, f1, z⟩ := TG8.out; have g8 : Hid (Below w.heap.size w w8) := Lib.hid (Below.trans (by (repeat' (first | exact Below.refl _ _ | exact Hid.out (by assumption) | refine belS ?_ (by omega) | refine belA ?_ (by omega) | refine belA ?_ (by simp; omega) | refine belA ?_ (by simp) | refine bel_drewN ?_ _ | refine Below.drew ?_))) (hb8.mono (by first | omega | (simp; omega) | (simp; done)))))))
        all_goals
          go_wp2_with fail
          go_meet
          refine ⟨_, rfl, rfl, ?_, ?_, ?_, ?_⟩
          · first
              | exact Two.new _ _ _ _
              | (refine ⟨?_, ?_, ?_, ?_, ?_⟩ <;> (first | (simp [go_sem, *]; done) | (simp [World.setCell]; omega)))
          · clear TG TG7
            (repeat' (first | exact Hid.out (by assumption) | assumption | refine Two.alloc ?_ _ | refine Two.drewN ?_ _ | refine Two.drew ?_ | refine Two.set ?_ (by omega)))
          · clear TA TA7
            (repeat' (first | exact Hid.out (by assumption) | assumption | refine Two.alloc ?_ _ | refine Two.drewN ?_ _ | refine Two.drew ?_ | refine Two.set ?_ (by omega)))
          · clear HB g7
            (repeat' (first | exact Below.refl _ _ | exact Hid.out (by assumption) | refine belS ?_ (by omega) | refine belA ?_ (by omega) | refine belA ?_ (by simp; omega) | refine belA ?_ (by simp) | refine bel_drewN ?_ _ | refine Below.drew ?_))
      case rest =>
        obtain ⟨k, rfl, rfl, tk, tg, ta, hbel⟩ := hcut
        clear TA TG HB
        have TA := Lib.hid ta
        have TG := Lib.hid tg
        have TK := Lib.hid tk
        have HB := Lib.hid hbel
        have szc2 := hbel.size
        obtain ⟨a0, a1, af0, af1, za⟩ := ta
        obtain ⟨b0, b1, bf0, bf1, zb⟩ := tg
        obtain ⟨k0, k1, kf0, kf1, zk⟩ := tk
        clear hbel
        obtain ⟨m0, m1⟩ := Q.mul_one (an := n) (ad := d)
        obtain ⟨n0, n1⟩ := Q.mul_zero (an := n) (ad := d)
        cases hv : Q.vr n d
        · rw [hv] at m0 n0
          clear m1 n1 b0 b1 bf0 bf1 zb k0 k1 kf0 kf1 zk TG TK szc szc2 bn1 bn2 bd1 bd2
          go_wp2_with fail
          refine wp_region_held_drew (S := fun w' => w'.cell? ⟨w1.heap.size, 0, none⟩ = some (.int .i64 (n)) ∧ w'.cell? ⟨w1.heap.size, 1, none⟩ = some (.int .i64 (d))) (by kernel_rfl) ?_ (fun hHeld => ?_)
          · first | exact ⟨by assumption, by assumption⟩ | (refine Two.pair ?_; (repeat' (first | exact Hid.out (by assumption) | assumption | refine Two.alloc ?_ _ | refine Two.drewN ?_ _ | refine Two.drew ?_ | refine Two.set ?_ (by omega))))
          refine takeH (i := 0) (d := 71) (v := ?_) (by kernel_rfl) (by kernel_rfl) (by kernel_rfl) (fun _ _ _ h => h) (by assumption) ⟨?_, ?_, ?_, ?_, ?_⟩ ?_
          rotate_left
          rotate_left
          · (try simp only [List.getElem?_toArray, List.getElem?_cons_succ, List.getElem?_cons_zero]); exact rfl
          · rfl
          · rfl
          · intro w' hSw; (try dsimp only at hSw); go_simp; (try with_reducible rfl)
          (try simp only [Act.put, List.setIfInBounds_toArray, List.set_cons_zero, List.set_cons_succ])
          refine takeH (i := 1) (d := 72) (v := ?_) (by kernel_rfl) (by kernel_rfl) (by kernel_rfl) (fun _ _ _ h => h) (by assumption) ⟨?_, ?_, ?_, ?_, ?_⟩ ?_
          rotate_left
          rotate_left
          · (try simp only [List.getElem?_toArray, List.getElem?_cons_succ, List.getElem?_cons_zero]); exact rfl
          · rfl
          · rfl
          · intro w' hSw; (try dsimp only at hSw); go_simp; (try with_reducible rfl)
          (try simp only [Act.put, List.setIfInBounds_toArray, List.set_cons_zero, List.set_cons_succ])
          refine wpAnyH_ready (rs := [2]) (by kernel_rfl) (by simp) ?_
          refine AllReadyH.cons (o := ?_) ?_ (fun K hK => ?_) AllReadyH.nil
          rotate_left
          · (try simp only [List.getElem?_toArray, List.getElem?_cons_succ, List.getElem?_cons_zero]); exact rfl
          go_simp
          refine (impl_ValidRat _ _ _).mono ?_
          rintro e w9 ⟨rfl, hb9⟩
          obtain ⟨hc9, hf9⟩ := bcell hb9
          have sz9 := hb9.size
          (try simp at sz9)
          have TA9 : Hid (Two w9 (w1.heap.size) (.int .i64 (n)) (.int .i64 (d))) := Lib.hid (Two.below (by (repeat' (first | exact Hid.out (by assumption) | assumption | refine Two.alloc ?_ _ | refine Two.drewN ?_ _ | refine Two.drew ?_ | refine Two.set ?_ (by omega)))) hb9)
          obtain ⟨c0, c1, f0, f1, z⟩ := TA9.out
          have g9 : Hid (Below w.heap.size w w9) := Lib.hid (Below.trans (by (repeat' (first | exact Below.refl _ _ | exact Hid.out (by assumption) | refine belS ?_ (by omega) | refine belA ?_ (by omega) | refine belA ?_ (by simp; omega) | refine belA ?_ (by simp) | refine bel_drewN ?_ _ | refine Below.drew ?_))) (hb9.mono (by first | omega | (simp; omega) | (simp; done))))
          go_wp2_with fail
          refine hK.out _ _ ?_ (fun hHeld => ?_)
          · exact ⟨c0, c1⟩
          clear hK K
          (try simp only [Act.put, List.setIfInBounds_toArray, List.set_cons_zero, List.set_cons_succ])
          refine takeH (i := 3) (d := 74) (v := ?_) (by kernel_rfl) (by kernel_rfl) (by kernel_rfl) (fun _ _ _ h => h) (by assumption) ⟨?_, ?_, ?_, ?_, ?_⟩ ?_
          rotate_left
          rotate_left
          · (try simp only [List.getElem?_toArray, List.getElem?_cons_succ, List.getElem?_cons_zero]); exact rfl
          · rfl
          · rfl
          · intro w' hSw; (try dsimp only at hSw); go_simp; (try with_reducible rfl)
          (try simp only [Act.put, List.setIfInBounds_toArray, List.set_cons_zero, List.set_cons_succ])
          refine takeH (i := 4) (d := 75) (v := ?_) (by kernel_rfl) (by kernel_rfl) (by kernel_rfl) (fun _ _ _ h => h) (by assumption) ⟨?_, ?_, ?_, ?_, ?_⟩ ?_
          rotate_left
          rotate_left
          · (try simp only [List.getElem?_toArray, List.getElem?_cons_succ, List.getElem?_cons_zero]); exact rfl
          · rfl
          · rfl
          · intro w' hSw; (try dsimp only at hSw); go_simp; (try with_reducible rfl)
          (try simp only [Act.put, List.setIfInBounds_toArray, List.set_cons_zero, List.set_cons_succ])
          refine takeH (i := 5) (d := 76) (v := ?_) (by kernel_rfl) (by kernel_rfl) (by kernel_rfl) (fun _ _ _ h => h) (by assumption) ⟨?_, ?_, ?_, ?_, ?_⟩ ?_
          rotate_left
          rotate_left
          · (try simp only [List.getElem?_toArray, List.getElem?_cons_succ, List.getElem?_cons_zero]); exact rfl
          · rfl
          · rfl
          · intro w' hSw; (try dsimp only at hSw); go_simp; (try with_reducible rfl)
          (try simp only [Act.put, List.setIfInBounds_toArray, List.set_cons_zero, List.set_cons_succ])
          refine takeH (i := 6) (d := 77) (v := ?_) (by kernel_rfl) (by kernel_rfl) (by kernel_rfl) (fun _ _ _ h => h) (by assumption) ⟨?_, ?_, ?_, ?_, ?_⟩ ?_
          rotate_left
          rotate_left
          · (try simp only [List.getElem?_toArray, List.getElem?_cons_succ, List.getElem?_cons_zero]); exact rfl
          · rfl
          · rfl
          · intro w' hSw; (try dsimp only at hSw); go_simp; (try with_reducible rfl)
          (try simp only [Act.put, List.setIfInBounds_toArray, List.set_cons_zero, List.set_cons_succ])
          refine takeH (i := 7) (d := 78) (v := ?_) (by kernel_rfl) (by kernel_rfl) (by kernel_rfl) (fun _ _ _ h => h) (by assumption) ⟨?_, ?_, ?_, ?_, ?_⟩ ?_
          rotate_left
          rotate_left
          · (try simp only [List.getElem?_toArray, List.getElem?_cons_succ, List.getElem?_cons_zero]); exact rfl
          · rfl
          · rfl
          · intro w' hSw; (try dsimp only at hSw); go_simp; (try with_reducible rfl)
          (try simp only [Act.put, List.setIfInBounds_toArray, List.set_cons_zero, List.set_cons_succ])
          refine takeH (i := 8) (d := 79) (v := ?_) (by kernel_rfl) (by kernel_rfl) (by kernel_rfl) (fun _ _ _ h => h) (by assumption) ⟨?_, ?_, ?_, ?_, ?_⟩ ?_
          rotate_left
          rotate_left
          · (try simp only [List.getElem?_toArray, List.getElem?_cons_succ, List.getElem?_cons_zero]); exact rfl
          · rfl
          · rfl
          · intro w' hSw; (try dsimp only at hSw); go_simp; (try with_reducible rfl)
          (try simp only [Act.put, List.setIfInBounds_toArray, List.set_cons_zero, List.set_cons_succ])
          refine takeH (i := 9) (d := 80) (v := ?_) (by kernel_rfl) (by kernel_rfl) (by kernel_rfl) (fun _ _ _ h => h) (by assumption) ⟨?_, ?_, ?_, ?_, ?_⟩ ?_
          rotate_left
          rotate_left
          · (try simp only [List.getElem?_toArray, List.getElem?_cons_succ, List.getElem?_cons_zero]); exact rfl
          · rfl
          · rfl
          · intro w' hSw; (try dsimp only at hSw); go_simp; (try with_reducible rfl)
          (try simp only [Act.put, List.setIfInBounds_toArray, List.set_cons_zero, List.set_cons_succ])
          refine takeH (i := 10) (d := 81) (v := ?_) (by kernel_rfl) (by kernel_rfl) (by kernel_rfl) (fun _ _ _ h => h) (by assumption) ⟨?_, ?_, ?_, ?_, ?_⟩ ?_
          rotate_left
          rotate_left
          · (try simp only [List.getElem?_toArray, List.getElem?_cons_succ, List.getElem?_cons_zero]); exact rfl
          · rfl
          · rfl
          · intro w' hSw; (try dsimp only at hSw); go_simp; (try with_reducible rfl)
          (try simp only [Act.put, List.setIfInBounds_toArray, List.set_cons_zero, List.set_cons_succ])
          refine takeH (i := 11) (d := 82) (v := ?_) (by kernel_rfl) (by kernel_rfl) (by kernel_rfl) (fun _ _ _ h => h) (by assumption) ⟨?_, ?_, ?_, ?_, ?_⟩ ?_
          rotate_left
          rotate_left
          · (try simp only [List.getElem?_toArray, List.getElem?_cons_succ, List.getElem?_cons_zero]); exact rfl
          · rfl
          · rfl
          · intro w' hSw; (try dsimp only at hSw); go_simp; (try with_reducible rfl)
          (try simp only [Act.put, List.setIfInBounds_toArray, List.set_cons_zero, List.set_cons_succ])
          refine takeH (i := 12) (d := 83) (v := ?_) (by kernel_rfl) (by kernel_rfl) (by kernel_rfl) (fun _ _ _ h => h) (by assumption) ⟨?_, ?_, ?_, ?_, ?_⟩ ?_
          rotate_left
          rotate_left
          · (try simp only [List.getElem?_toArray, List.getElem?_cons_succ, List.getElem?_cons_zero]); exact rfl
          · rfl
          · rfl
          · intro w' hSw; (try dsimp only at hSw); go_simp; (try with_reducible rfl)
          (try simp only [Act.put, List.setIfInBounds_toArray, List.set_cons_zero, List.set_cons_succ])
          refine skipH (i := 13) (d := 84) ⟨_, rfl, rfl, by rfl⟩ (by kernel_rfl) (by kernel_rfl) (by kernel_rfl) (fun _ _ _ h => h) (by assumption) ?_
          (try simp only [Act.put, List.setIfInBounds_toArray, List.set_cons_zero, List.set_cons_succ])
          refine skipH (i := 14) (d := 85) ⟨_, rfl, rfl, by rfl⟩ (by kernel_rfl) (by kernel_rfl) (by kernel_rfl) (fun _ _ _ h => h) (by assumption) ?_
          (try simp only [Act.put, List.setIfInBounds_toArray, List.set_cons_zero, List.set_cons_succ])
          refine skipH (i := 15) (d := 86) ⟨_, rfl, rfl, by rfl⟩ (by kernel_rfl) (by kernel_rfl) (by kernel_rfl) (fun _ _ _ h => h) (by assumption) ?_
          (try simp only [Act.put, List.setIfInBounds_toArray, List.set_cons_zero, List.set_cons_succ])
          refine skipH (i := 16) (d := 87) ⟨_, rfl, rfl, by rfl⟩ (by kernel_rfl) (by kernel_rfl) (by kernel_rfl) (fun _ _ _ h => h) (by assumption) ?_
          (try simp only [Act.put, List.setIfInBounds_toArray, List.set_cons_zero, List.set_cons_succ])
          refine skipH (i := 17) (d := 88) ⟨_, rfl, rfl, by rfl⟩ (by kernel_rfl) (by kernel_rfl) (by kernel_rfl) (fun _ _ _ h => h) (by assumption) ?_
          (try simp only [Act.put, List.setIfInBounds_toArray, List.set_cons_zero, List.set_cons_succ])
          refine skipH (i := 18) (d := 89) ⟨_, rfl, rfl, by rfl⟩ (by kernel_rfl) (by kernel_rfl) (by kernel_rfl) (fun _ _ _ h => h) (by assumption) ?_
          (try simp only [Act.put, List.setIfInBounds_toArray, List.set_cons_zero, List.set_cons_succ])
          refine skipH (i := 19) (d := 90) ⟨_, rfl, rfl, by rfl⟩ (by kernel_rfl) (by kernel_rfl) (by kernel_rfl) (fun _ _ _ h => h) (by assumption) ?_
          (try simp only [Act.put, List.setIfInBounds_toArray, List.set_cons_zero, List.set_cons_succ])
          refine skipH (i := 20) (d := 91) ⟨_, rfl, rfl, by rfl⟩ (by kernel_rfl) (by kernel_rfl) (by kernel_rfl) (fun _ _ _ h => h) (by assumption) ?_
          (try simp only [Act.put, List.setIfInBounds_toArray, List.set_cons_zero, List.set_cons_succ])
          refine takeH (i := 21) (d := 92) (v := ?_) (by kernel_rfl) (by kernel_rfl) (by kernel_rfl) (fun _ _ _ h => h) (by assumption) ⟨?_, ?_, ?_, ?_, ?_⟩ ?_
          rotate_left
          rotate_left
          · (try simp only [List.getElem?_toArray, List.getElem?_cons_succ, List.getElem?_cons_zero]); exact rfl
          · rfl
          · rfl
          · intro w' hSw; (try dsimp only at hSw); go_simp; (try with_reducible rfl)
          (try simp only [Act.put, List.setIfInBounds_toArray, List.set_cons_zero, List.set_cons_succ])
          refine takeH (i := 22) (d := 93) (v := ?_) (by kernel_rfl) (by kernel_rfl) (by kernel_rfl) (fun _ _ _ h => h) (by assumption) ⟨?_, ?_, ?_, ?_, ?_⟩ ?_
          rotate_left
          rotate_left
          · (try simp only [List.getElem?_toArray, List.getElem?_cons_succ, List.getElem?_cons_zero]); exact rfl
          · rfl
          · rfl
          · intro w' hSw; (try dsimp only at hSw); go_simp; (try with_reducible rfl)
          (try simp only [Act.put, List.setIfInBounds_toArray, List.set_cons_zero, List.set_cons_succ])
          refine takeH (i := 23) (d := 2) (v := ?_) (by kernel_rfl) (by kernel_rfl) (by kernel_rfl) (fun _ _ _ h => h) (by assumption) ⟨?_, ?_, ?_, ?_, ?_⟩ ?_
          rotate_left
          rotate_left
          · (try simp only [List.getElem?_toArray, List.getElem?_cons_succ, List.getElem?_cons_zero]); exact rfl
          · rfl
          · rfl
          · intro w' hSw; (try dsimp only at hSw); go_simp; (try with_reducible rfl)
          (try simp only [Act.put, List.setIfInBounds_toArray, List.set_cons_zero, List.set_cons_succ])
          refine wpAnyH_done (by kernel_rfl) ?_ _
          go_wp2_with fail
          go_ret
          exact ⟨rfl, g9.out⟩
        · obtain ⟨m1, m2⟩ := m1 hv
          obtain ⟨n1, n2⟩ := n1 hv
          rw [hv] at m0 n0
          rw [m1] at b0
          rw [m2] at b1
          rw [n1] at k0
          rw [n2] at k1
          rw [m1, m2] at TG
          rw [n1, n2] at TK
          go_wp2_with fail
          go_region_held3 (fun w' => w'.cell? ⟨w1.heap.size, 0, none⟩ = some (.int .i64 (n)) ∧ w'.cell? ⟨w1.heap.size, 1, none⟩ = some (.int .i64 (d)) ∧ w'.cell? ⟨g, 0, none⟩ = some (.int .i64 (n)) ∧ w'.cell? ⟨g, 1, none⟩ = some (.int .i64 (d)) ∧ w'.cell? ⟨k, 0, none⟩ = some (.int .i64 (0)) ∧ w'.cell? ⟨k, 1, none⟩ = some (.int .i64 (1))) (first | exact ⟨by assumption, by assumption, by assumption, by assumption, by assumption, by assumption⟩ | (refine Two.pair3 ?_ ?_ ?_ <;> (repeat' (first | exact Hid.out (by assumption) | assumption | refine Two.alloc ?_ _ | refine Two.drewN ?_ _ | refine Two.drew ?_ | refine Two.set ?_ (by omega)))))
            ((first
              | (go_at_call 9; refine (impl_ValidRat _ _ _).mono ?_; rintro e w9 ⟨rfl, hb9⟩; obtain ⟨hc9, hf9⟩ := bcell hb9; have sz9 := hb9.size; (try simp at sz9); have TA9 : Hid (Two w9 (w1.heap.size) (.int .i64 (n)) (.int .i64 (d))) := Lib.hid (Two.below (by (repeat' (first | exact Hid.out (by assumption) | assumption | refine Two.alloc ?_ _ | refine Two.drewN ?_ _ | refine Two.drew ?_ | refine Two.set ?_ (by omega)))) hb9); obtain ⟨c0, c1, f0, f1, z⟩ := TA9.out; have TG9 : Hid (Two w9 (g) (.int .i64 (n)) (.int .i64 (d))) := Lib.hid (Two.below (by (repeat' (first | exact Hid.out (by assumption) | assumption | refine Two.alloc ?_ _ | refine Two.drewN ?_ _ | refine Two.drew ?_ | refine Two.set ?_ (by omega)))) hb9); obtain ⟨c0, c1, f0, f1, z⟩ := TG9.out; have TK9 : Hid (Two w9 (k) (.int .i64 (0)) (.int .i64 (1))) := Lib.hid (Two.below (by (repeat' (first | exact Hid.out (by assumption) | assumption | refine Two.alloc ?_ _ | refine Two.drewN ?_ _ | refine Two.drew ?_ | refine Two.set ?_ (by omega)))) hb9); obtain ⟨c0, c1, f0, f1, z⟩ := TK9.out; have g9 : Hid (Below w.heap.size w w9) := Lib.hid (Below.trans (by (repeat' (first | exact Below.refl _ _ | exact Hid.out (by assumption) | refine belS ?_ (by omega) | refine belA ?_ (by omega) | refine belA ?_ (by simp; omega) | refine belA ?_ (by simp) | refine bel_drewN ?_ _ | refine Below.drew ?_))) (hb9.mono (by first | omega | (simp; omega) | (simp; done)))))
              | (go_at_call 8; refine (laws_whole _ _).mono ?_; rintro e w10 ⟨rfl, hb10⟩; obtain ⟨hc10, hf10⟩ := bcell hb10; have sz10 := hb10.size; (try simp at sz10); have TA10 : Hid (Two w10 (w1.heap.size) (.int .i64 (n)) (.int .i64 (d))) := Lib.hid (Two.below (by (repeat' (first | exact Hid.out (by assumption) | assumption | refine Two.alloc ?_ _ | refine Two.drewN ?_ _ | refine Two.drew ?_ | refine Two.set ?_ (by omega)))) hb10); obtain ⟨c0, c1, f0, f1, z⟩ := TA10.out; have TG10 : Hid (Two w10 (g) (.int .i64 (n)) (.int .i64 (d))) := Lib.hid (Two.below (by (repeat' (first | exact Hid.out (by assumption) | assumption | refine Two.alloc ?_ _ | refine Two.drewN ?_ _ | refine Two.drew ?_ | refine Two.set ?_ (by omega)))) hb10); obtain ⟨c0, c1, f0, f1, z⟩ := TG10.out; have TK10 : Hid (Two w10 (k) (.int .i64 (0)) (.int .i64 (1))) := Lib.hid (Two.below (by (repeat' (first | exact Hid.out (by assumption) | assumption | refine Two.alloc ?_ _ | refine Two.drewN ?_ _ | refine Two.drew ?_ | refine Two.set ?_ (by omega)))) hb10); obtain ⟨c0, c1, f0, f1, z⟩ := TK10.out; have g10 : Hid (Below w.heap.size w w10) := Lib.hid (Below.trans (by (repeat' (first | exact Below.refl _ _ | exact Hid.out (by assumption) | refine belS ?_ (by omega) | refine belA ?_ (by omega) | refine belA ?_ (by simp; omega) | refine belA ?_ (by simp) | refine bel_drewN ?_ _ | refine Below.drew ?_))) (hb10.mono (by first | omega | (simp; omega) | (simp; done)))))))
          all_goals
            go_wp2_with fail
            go_ret
            exact ⟨rfl, g10.out⟩
end Go.Proofs.Ythfneghginanaaa
