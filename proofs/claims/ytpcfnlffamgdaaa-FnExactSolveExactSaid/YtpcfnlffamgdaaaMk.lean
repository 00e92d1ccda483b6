
/-
  The marks of the exact laws: what they write, and what they find again.
-/
import Derived.Test.YtpcfnlffamgdaaaM3
import Derived.Test.YtpcfnlffamgdaaaTp
set_option linter.unusedSimpArgs false
set_option linter.unusedVariables false
namespace Go.Proofs.Ytpcfnlffamgdaaa
open Go.RowKit

set_option maxHeartbeats 1000000 in
theorem markI (g n c : Nat) (xs : List Int) (k : Int) (w : World) (ho : OwnI w g xs) (hl : xs.length = n) (hn : n ≤ 1048576) (h0 : 0 ≤ k) (h1 : k ≤ 1125899906842624) :
    Calls Try.prog 43 #[.slice (some ⟨g, 0, none⟩) n c, .int .i64 k] w fun e w' => e = .returned (.int .i64 (k + n)) ∧ OwnI w' g (marks k n) ∧ Turn g (g + 1) w w' := by
  have HO := Lib.hid ho; clear ho
  have HL := Lib.hid hl; clear hl
  go_enter Try.func43, Try.ntmps43
  go_wp2
  go_loopw [1, 5] (fun s1 s5 wr => ∃ i : Nat, i ≤ n ∧ s1 = .int .i64 (k + i) ∧ s5 = .int .i64 i ∧ Hid (OwnI wr g (marks k i ++ xs.drop i)) ∧ Hid (Turn g (g + 1) w wr)) (fun _ s5 _ => n - (intOf s5).toNat)
  case atStart => exact ⟨0, by omega, by simp, rfl, by simpa [marks_zero] using HO, Turn.refl _ _ _⟩
  case round =>
    obtain ⟨i, hi, rfl, rfl, hown, ht⟩ := hrel
    by_cases hlt : i < n
    · obtain ⟨o1, o2⟩ := hown.out.at_ (k := i) (by simp [marks_len]; have := HL.out; omega)
      go_wp2
      go_roundw
      case rel =>
        refine ⟨i + 1, by omega, by congr 1; omega, by go_num, Lib.hid ?_, Lib.hid (ht.out.set (.inl ⟨Nat.le_refl _, Nat.lt_succ_self _⟩) _)⟩
        have hil : i < xs.length := by have := HL.out; omega
        have hx : (marks k i ++ xs.drop i)[i]? = some xs[i] := by
          rw [List.getElem?_append_right (by rw [marks_len]; exact Nat.le_refl _), marks_len, Nat.sub_self, List.getElem?_drop]
          simp [hil]
        have := hown.out.set_ hx (k + i)
        have e : (marks k i ++ xs.drop i).set i (k + i) = marks k (i + 1) ++ xs.drop (i + 1) := by
          rw [List.set_append, marks_len, if_neg (Nat.lt_irrefl _), Nat.sub_self, marks_succ, List.drop_eq_getElem_cons hil, List.set_cons_zero, List.append_assoc]
          rfl
        rwa [e] at this
      case measure => simp [intOf]; omega
    · have hie : i = n := by omega
      subst hie
      go_wp2
      go_ret
      have O := hown.out
      rw [List.drop_of_length_le (by rw [HL.out]; exact Nat.le_refl _), List.append_nil] at O
      exact ⟨rfl, O, ht.out⟩

theorem markOwn (g n c : Nat) (xs : List Int) (k : Int) (w : World) (ho : OwnI w g xs) (hl : xs.length = n) (hn : n ≤ 1048576) (h0 : 0 ≤ k) (h1 : k ≤ 1125899906842624) :
    Calls Try.prog 43 #[.slice (some ⟨g, 0, none⟩) n c, .int .i64 k] w fun e w' => e = .returned (.int .i64 (k + n)) ∧ Turn g (g + 1) w w' :=
  (markI g n c xs k w ho hl hn h0 h1).mono fun _ _ ⟨he, _, ht⟩ => ⟨he, ht⟩
theorem markI0 (A : Option Addr) (c : Nat) (k : Int) (w : World) : Calls Try.prog 43 #[.slice A 0 c, .int .i64 k] w fun e w' => e = .returned (.int .i64 k) ∧ w = w' := by
  go_enter Try.func43, Try.ntmps43
  go_wp2
  go_loop [1, 5] (fun s1 s5 => s1 = .int .i64 k ∧ s5 = .int .i64 0) (fun _ _ => 0)
  case atStart => exact ⟨rfl, rfl⟩
  case round =>
    obtain ⟨rfl, rfl⟩ := hrel
    go_wp2
    go_ret
    exact ⟨rfl, rfl⟩
theorem markS (lo hi : Nat) (A : Option Addr) (c : Nat) (xs : List Int) (k : Int) (w : World) (ho : OwnS w lo hi A xs) (h0 : 0 ≤ k) (h1 : k ≤ 1125899906842624) :
    Calls Try.prog 43 #[.slice A xs.length c, .int .i64 k] w fun e w' => e = .returned (.int .i64 (k + xs.length)) ∧ OwnS w' lo hi A (marks k xs.length) ∧ Turn lo hi w w' := by
  obtain ⟨rfl | ⟨g, rfl, l1, l2, o⟩, h4, h5⟩ := ho
  · exact (markI0 A c k w).mono fun _ _ ⟨he, hw⟩ => ⟨by simpa using he, by simpa [marks_zero] using OwnS.nil _ _ _ _, hw ▸ Turn.refl _ _ _⟩
  · exact (markI g xs.length c xs k w o rfl h5 h0 h1).mono fun _ _ ⟨he, ho', ht⟩ => ⟨he, ⟨.inr ⟨g, rfl, l1, l2, ho'⟩, marks_bd h0 h1 h5, by rw [marks_len]; exact h5⟩, ht.mono l1 l2⟩

set_option maxHeartbeats 1000000 in
theorem heldI (A : Option Addr) (n c : Nat) (k : Int) (w : World) (hI : Ints w A n (marks k n)) (hn : n ≤ 1048576) (h0 : 0 ≤ k) (h1 : k ≤ 1125899906842624) :
    Calls Try.prog 44 #[.slice A n c, .int .i64 k] w fun e w' => e = .returned (.int .i64 (k + n)) ∧ Below w.heap.size w w' := by
  have HI := Lib.hid hI; clear hI
  go_enter Try.func44, Try.ntmps44
  go_wp2
  go_loop [1, 5] (fun s1 s5 => ∃ i : Nat, i ≤ n ∧ s1 = .int .i64 (k + i) ∧ s5 = .int .i64 i) (fun _ s5 => n - (intOf s5).toNat)
  case atStart => exact ⟨0, by omega, by simp, rfl⟩
  case round =>
    obtain ⟨i, hi, rfl, rfl⟩ := hrel
    by_cases hlt : i < n
    · obtain ⟨b, off, x, rfl, hb, hx, hlo, hhi, hc⟩ := HI.out.at_ hlt
      rw [marks_at hlt] at hx
      injection hx with hx
      subst hx
      go_wp2
      go_round
      case rel => exact ⟨i + 1, by omega, by congr 1; omega, by go_num⟩
      case measure => simp [intOf]; omega
    · have hie : i = n := by omega
      subst hie
      go_wp2
      go_ret
      exact ⟨rfl, Below.refl _ _⟩
theorem heldS (lo hi : Nat) (A : Option Addr) (c : Nat) (xs : List Int) (k : Int) (n : Nat) (w : World) (ho : OwnS w lo hi A (marks k n)) (h0 : 0 ≤ k) (h1 : k ≤ 1125899906842624) :
    Calls Try.prog 44 #[.slice A n c, .int .i64 k] w fun e w' => e = .returned (.int .i64 (k + n)) ∧ Below w.heap.size w w' := by
  have hs := ho.small
  rw [marks_len] at hs
  have hi := ho.ints
  rw [marks_len] at hi
  exact heldI A n c k w hi hs h0 h1
/-- All rows from place k on are still the call's own; their headers stand. -/
def RowsLeft (w : World) (g n : Nat) (rs : List PRow) (G : Nat → Nat) (k : Nat) : Prop :=
  (∀ j, j < n * 3 → ∃ v, w.cell? ⟨g, j, none⟩ = some v ∧ w.frozen? ⟨g, j, none⟩ = false) ∧
    ∀ i r, rs[i]? = some r → w.cell? ⟨g, i * 3, none⟩ = some (.slice (some ⟨G i, 0, none⟩) r.cs.length r.cs.length) ∧ (k ≤ i → OwnI w (G i) r.cs)

set_option maxHeartbeats 2000000 in
theorem laws_markRowS (lo hi g n c : Nat) (rs : List PRow) (k : Int) (w w0 : World) (ho : OwnR w0 lo g n rs n) (hw : w0.heap.size = hi) (hsz : w0.heap.size ≤ w.heap.size) (hb : ∀ b, lo ≤ b → b < w0.heap.size → w.heap[b]? = w0.heap[b]?) (hl : rs.length = n) (hs : SmallR rs) (hn : n ≤ 1048576) (h0 : 0 ≤ k) (h1 : k ≤ 17592186044416) :
    Calls Try.prog 86 #[.slice (some ⟨g, 0, none⟩) n c, .int .i64 k] w fun e w' => ∃ v, 0 ≤ v ∧ v ≤ k + n * 1048578 ∧ e = .returned (.int .i64 v) ∧ Turn lo hi w w' := by
  obtain ⟨r0, r1, r2, G, hG, r3⟩ := ho
  subst hw
  have HS := Lib.hid hs; clear hs
  have HL := Lib.hid hl; clear hl
  have hgg := hb g r0 r1
  have HG : Hid (∀ i j, i < j → j < n → G i ≠ G j) := hG
  have R3 := Lib.hid r3
  have gl : ∀ i r, rs[i]? = some r → lo ≤ G i ∧ G i < w0.heap.size ∧ G i ≠ g := fun i r hr => by
    have hi : i < n := by have := (List.getElem?_eq_some_iff.1 hr).1; have := HL.out; omega
    obtain ⟨x, y, o, _⟩ := r3 i r hi hr
    exact ⟨x, o.1, y⟩
  have GL := Lib.hid gl; clear gl
  have left0 : RowsLeft w g n rs G 0 := by
    refine ⟨fun j hj => ?_, fun i r hr => ?_⟩
    · obtain ⟨v, a, b⟩ := r2 j hj
      exact ⟨v, (World.cell?_of_block (w := w0) (a := ⟨g, j, none⟩) hgg).trans a, (World.frozen?_of_block (w := w0) (a := ⟨g, j, none⟩) hgg).trans b⟩
    · have hi : i < n := by have := (List.getElem?_eq_some_iff.1 hr).1; have := HL.out; omega
      obtain ⟨x, y, o, a, b, _⟩ := r3 i r hi hr
      exact ⟨(World.cell?_of_block (w := w0) (a := ⟨g, _, none⟩) hgg).trans b, fun _ => o.keep hsz (hb _ x o.1)⟩
  have L0 := Lib.hid left0; clear left0
  clear hG r2 r3 hb hgg
  go_enter Try.func86, Try.ntmps86
  go_wp2
  go_loopw [1, 5] (fun s1 s5 wr => ∃ (i : Nat) (v : Int), i ≤ n ∧ 0 ≤ v ∧ v ≤ k + i * 1048578 ∧ s1 = .int .i64 v ∧ s5 = .int .i64 i ∧ Hid (RowsLeft wr g n rs G i) ∧ Hid (Turn lo w0.heap.size w wr)) (fun _ s5 _ => n - (intOf s5).toNat)
  case atStart => exact ⟨0, k, by omega, h0, by omega, rfl, rfl, L0, Turn.refl _ _ _⟩
  case round =>
    obtain ⟨i, v, hi, hv0, hv1, rfl, rfl, hleft, ht⟩ := hrel
    by_cases hlt : i < n
    · obtain ⟨r, hr⟩ : ∃ r, rs[i]? = some r := ⟨_, List.getElem?_eq_getElem (by have := HL.out; omega)⟩
      obtain ⟨hh, hoi⟩ := hleft.out.2 i r hr
      have HO := Lib.hid (hoi (Nat.le_refl _)); clear hoi
      have hsl := HS.out.at_ hr
      obtain ⟨gl1, gl2, gl3⟩ := GL.out i r hr
      have HR := Lib.hid hr; clear hr
      have hsz2 := ht.out.size
      go_wp2_with fail
      refine (markI (G i) _ _ r.cs v _ HO.out rfl hsl hv0 (by omega)).mono ?_
      rintro e w1 ⟨rfl, ho1, ht1⟩
      have T1 := Lib.hid ht1; clear ht1
      have hg1 : w1.heap[g]? = wr.heap[g]? := T1.out.block g (by omega) (by omega)
      have keep : ∀ j, w1.cell? ⟨g, j, none⟩ = wr.cell? ⟨g, j, none⟩ ∧ w1.frozen? ⟨g, j, none⟩ = wr.frozen? ⟨g, j, none⟩ := fun j => ⟨World.cell?_of_block (w := wr) (a := ⟨g, j, none⟩) hg1, World.frozen?_of_block (w := wr) (a := ⟨g, j, none⟩) hg1⟩
      obtain ⟨v1, c1, f1⟩ := hleft.out.1 (i * 3 + 1) (by omega)
      obtain ⟨v2, c2, f2⟩ := hleft.out.1 (i * 3 + 2) (by omega)
      have C1 := (keep (i * 3 + 1)).1.trans c1
      have C2 := (keep (i * 3 + 2)).1.trans c2
      have F1 := (keep (i * 3 + 1)).2.trans f1
      have F2 := (keep (i * 3 + 2)).2.trans f2
      have KP := Lib.hid keep
      clear c1 c2 f1 f2 keep hg1 ho1 hh
      go_wp2_with fail
      go_roundw
      case rel =>
        refine ⟨i + 1, _, by omega, ?_, ?_, rfl, by go_num, Lib.hid ?_, Lib.hid ?_⟩
        · omega
        · omega
        · refine ⟨fun j hj => ?_, fun j r' hr' => ⟨?_, fun hij => ?_⟩⟩
          · obtain ⟨v0, a, b⟩ := hleft.out.1 j hj
            refine ⟨_, cell_set (cell_set ((KP.out j).1.trans a)), ?_⟩
            rw [World.frozen?_setCell, World.frozen?_setCell]
            exact (KP.out j).2.trans b
          · have := (hleft.out.2 j r' hr').1
            rw [cell_set (cell_set ((KP.out (j * 3)).1.trans this)), if_neg (by omega), if_neg (by omega)]
          · have hjn : j < n := by have := (List.getElem?_eq_some_iff.1 hr').1; have := HL.out; omega
            have hne := HG.out i j (by omega) hjn
            obtain ⟨_, _, q3⟩ := GL.out j r' hr'
            have o := (hleft.out.2 j r' hr').2 (by omega)
            have o1 : OwnI w1 (G j) r'.cs := OwnI.turn T1 (by omega) o
            exact (o1.far (by simp; omega) _).far (by simp; omega) _
        · have t1 : Turn lo w0.heap.size wr w1 := T1.out.mono gl1 (by omega)
          have tg := hleft.out.1
          exact ((ht.out.trans t1).set (.inl ⟨r0, r1⟩) _).set (.inl ⟨r0, r1⟩) _
      case measure => simp [intOf]; omega
    · go_wp2
      go_ret
      exact ⟨v, hv0, by omega, rfl, ht.out⟩
set_option maxHeartbeats 2000000 in
theorem laws_markProblem (lo hi g0 g1 g2 c0 c1 c2 : Nat) (p : PProb) (k : Int) (w w0 : World) (ho : OwnP w0 lo g0 g1 g2 p) (hw : w0.heap.size = hi) (hb : Below w0.heap.size w0 w) (hs : SmallP p) (h0 : 0 ≤ k) (h1 : k ≤ 8796093022208) :
    Calls Try.prog 42 #[.agg #[.slice (some ⟨g0, 0, none⟩) p.costs.length c0, .slice (some ⟨g1, 0, none⟩) p.uppers.length c1, .slice (some ⟨g2, 0, none⟩) p.rows.length c2], .int .i64 k] w
      fun e w' => ∃ v, 0 ≤ v ∧ v ≤ k + 2199023255552 ∧ e = .returned (.int .i64 v) ∧ Turn lo hi w w' := by
  subst hw
  obtain ⟨l0, l1, o0, o1, lo2, l2, ow⟩ := ho
  obtain ⟨s0, s1, s2⟩ := hs
  have S2 := Lib.hid s2
  have s3 := s2.1
  clear s2
  have O0 : Hid (OwnI w g0 p.costs) := o0.below hb
  have O1 : Hid (OwnI w g1 p.uppers) := o1.below hb
  have b0 := o0.1
  have b1 := o1.1
  clear o0 o1
  have OW := Lib.hid ow
  have hsz := hb.size
  have HB := Lib.hid hb
  clear ow hb
  go_enter Try.func42, Try.ntmps42
  go_wp2_with fail
  refine (markI g0 _ _ p.costs k _ (O0.out.alloc _) rfl s0 h0 (by omega)).mono ?_
  rintro e w1 ⟨rfl, ho1, ht1⟩
  have T1 := Lib.hid ht1
  have B1 : Hid (Box w1 w.heap.size _) := Lib.hid (Box.turn T1 (by omega) (Box.new w 62 _ rfl))
  obtain ⟨x0, x1, x2⟩ := Box.facts3 B1.out
  have z1 := ht1.size
  simp at z1
  clear ho1 ht1
  have O1' : Hid (OwnI w1 g1 p.uppers) := OwnI.turn T1 (by omega) (O1.out.alloc _)
  go_wp2_with fail
  refine (markI g1 _ _ p.uppers _ _ O1'.out rfl s1 (by omega) (by omega)).mono ?_
  rintro e w2 ⟨rfl, ho2, ht2⟩
  have T2 := Lib.hid ht2
  have B2 : Hid (Box w2 w.heap.size _) := Lib.hid (Box.turn T2 (by omega) B1.out)
  obtain ⟨y0, y1, y2⟩ := Box.facts3 B2.out
  have z2 := ht2.size
  clear ho2 ht2
  go_wp2_with fail
  refine (laws_markRowS lo2 _ g2 _ _ p.rows _ _ w0 OW.out rfl (by omega) (fun b hb1 hb2 => ?_) rfl S2.out (by omega) (by omega) (by omega)).mono ?_
  · rw [T2.out.block b (by omega) (by omega), T1.out.block b (by simp; omega) (by omega), Below.heap_alloc _ _ _ (by omega)]
    exact HB.out.block b hb2
  rintro e w3 ⟨v, hv, hv2, rfl, ht3⟩
  have T3 := Lib.hid ht3; clear ht3
  have z3 := T3.out.size
  go_wp2_with fail
  go_ret
  refine ⟨v, hv, by omega, rfl, ?_⟩
  exact ((((Turn.refl lo w0.heap.size w).alloc _).trans (T1.out.mono l0 (by omega))).trans (T2.out.mono (by omega) (by omega))).trans (T3.out.mono (by omega) (Nat.le_refl _))
end Go.Proofs.Ytpcfnlffamgdaaa
