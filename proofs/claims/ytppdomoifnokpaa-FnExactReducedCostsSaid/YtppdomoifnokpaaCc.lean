
/-
  The marks of the exact laws on columns.
-/
import Derived.Test.YtppdomoifnokpaaCb
set_option linter.unusedSimpArgs false
set_option linter.unusedVariables false
namespace Go.Proofs.Ytppdomoifnokpaa
open Go.RowKit

/-- All columns from place k on are still the call's own; their headers stand. -/
def ColsLeft (w : World) (g n : Nat) (cs : List PCol) (G : Nat → Nat) (k : Nat) : Prop :=
  (∀ j, j < n * 2 → ∃ v, w.cell? ⟨g, j, none⟩ = some v ∧ w.frozen? ⟨g, j, none⟩ = false) ∧
    ∀ i c, cs[i]? = some c → w.cell? ⟨g, i * 2 + 1, none⟩ = some (.slice (some ⟨G i, 0, none⟩) c.s.length c.s.length) ∧ (k ≤ i → OwnI w (G i) c.s)

set_option maxHeartbeats 2000000 in
theorem laws_markColumnS (lo hi g n c : Nat) (cs : List PCol) (k : Int) (w w0 : World) (ho : OwnC w0 lo g n cs n) (hw : w0.heap.size = hi) (hsz : w0.heap.size ≤ w.heap.size) (hb : ∀ b, lo ≤ b → b < w0.heap.size → w.heap[b]? = w0.heap[b]?) (hl : cs.length = n) (hs : SmallC cs) (hn : n ≤ 1048576) (h0 : 0 ≤ k) (h1 : k ≤ 17592186044416) :
    Calls Try.prog 41 #[.slice (some ⟨g, 0, none⟩) n c, .int .i64 k] w fun e w' => ∃ v, 0 ≤ v ∧ v ≤ k + n * 1048578 ∧ e = .returned (.int .i64 v) ∧ Turn lo hi w w' := by
  obtain ⟨r0, r1, r2, G, hG, r3⟩ := ho
  subst hw
  have HS := Lib.hid hs; clear hs
  have HL := Lib.hid hl; clear hl
  have hgg := hb g r0 r1
  have HG : Hid (∀ i j, i < j → j < n → G i ≠ G j) := hG
  have gl : ∀ i d, cs[i]? = some d → lo ≤ G i ∧ G i < w0.heap.size ∧ G i ≠ g := fun i d hd => by
    have hi : i < n := by have := (List.getElem?_eq_some_iff.1 hd).1; have := HL.out; omega
    obtain ⟨x, y, o, _⟩ := r3 i d hi hd
    exact ⟨x, o.1, y⟩
  have GL := Lib.hid gl; clear gl
  have left0 : ColsLeft w g n cs G 0 := by
    refine ⟨fun j hj => ?_, fun i d hd => ?_⟩
    · obtain ⟨v, a, b⟩ := r2 j hj
      exact ⟨v, (World.cell?_of_block (w := w0) (a := ⟨g, j, none⟩) hgg).trans a, (World.frozen?_of_block (w := w0) (a := ⟨g, j, none⟩) hgg).trans b⟩
    · have hi : i < n := by have := (List.getElem?_eq_some_iff.1 hd).1; have := HL.out; omega
      obtain ⟨x, y, o, a, b, e, f, h⟩ := r3 i d hi hd
      exact ⟨(World.cell?_of_block (w := w0) (a := ⟨g, _, none⟩) hgg).trans h, fun _ => o.keep hsz (hb _ x o.1)⟩
  have L0 := Lib.hid left0; clear left0
  clear hG r2 r3 hb hgg
  go_enter Try.func41, Try.ntmps41
  go_wp2
  go_loopw [1, 5] (fun s1 s5 wr => ∃ (i : Nat) (v : Int), i ≤ n ∧ 0 ≤ v ∧ v ≤ k + i * 1048578 ∧ s1 = .int .i64 v ∧ s5 = .int .i64 i ∧ Hid (ColsLeft wr g n cs G i) ∧ Hid (Turn lo w0.heap.size w wr)) (fun _ s5 _ => n - (intOf s5).toNat)
  case atStart => exact ⟨0, k, by omega, h0, by omega, rfl, rfl, L0, Turn.refl _ _ _⟩
  case round =>
    obtain ⟨i, v, hi, hv0, hv1, rfl, rfl, hleft, ht⟩ := hrel
    by_cases hlt : i < n
    · obtain ⟨d, hd⟩ : ∃ d, cs[i]? = some d := ⟨_, List.getElem?_eq_getElem (by have := HL.out; omega)⟩
      obtain ⟨hh, hoi⟩ := hleft.out.2 i d hd
      have HO := Lib.hid (hoi (Nat.le_refl _)); clear hoi
      have hsl := HS.out.at_ hd
      obtain ⟨gl1, gl2, gl3⟩ := GL.out i d hd
      have HD := Lib.hid hd; clear hd
      have hsz2 := ht.out.size
      obtain ⟨v1, c1, f1⟩ := hleft.out.1 (i * 2) (by omega)
      go_wp2_with fail
      refine (markI (G i) _ _ d.s (v + 1) _ (HO.out.far (by simp; omega) _) rfl hsl (by omega) (by omega)).mono ?_
      rintro e w1 ⟨rfl, ho1, ht1⟩
      have T1 := Lib.hid ht1; clear ht1 ho1
      clear hh c1 f1
      go_wp2_with fail
      go_roundw
      case rel =>
        refine ⟨i + 1, _, by omega, ?_, ?_, rfl, by go_num, Lib.hid ?_, Lib.hid ?_⟩
        · omega
        · omega
        · have hg1 : w1.heap[g]? = (wr.setCell ⟨g, i * 2, none⟩ (.int .i64 v)).heap[g]? := T1.out.block g (by simp [World.setCell]; omega) (by omega)
          have keep : ∀ j, w1.cell? ⟨g, j, none⟩ = (wr.setCell ⟨g, i * 2, none⟩ (.int .i64 v)).cell? ⟨g, j, none⟩ ∧ w1.frozen? ⟨g, j, none⟩ = (wr.setCell ⟨g, i * 2, none⟩ (.int .i64 v)).frozen? ⟨g, j, none⟩ := fun j => ⟨World.cell?_of_block (w := wr.setCell ⟨g, i * 2, none⟩ (.int .i64 v)) (a := ⟨g, j, none⟩) hg1, World.frozen?_of_block (w := wr.setCell ⟨g, i * 2, none⟩ (.int .i64 v)) (a := ⟨g, j, none⟩) hg1⟩
          refine ⟨fun j hj => ?_, fun j d' hd' => ⟨?_, fun hij => ?_⟩⟩
          · obtain ⟨v0, a, b⟩ := hleft.out.1 j hj
            exact ⟨_, (keep j).1.trans (cell_set a), (keep j).2.trans (by rw [World.frozen?_setCell]; exact b)⟩
          · have := (hleft.out.2 j d' hd').1
            rw [(keep _).1, cell_set this, if_neg (by omega)]
          · have hjn : j < n := by have := (List.getElem?_eq_some_iff.1 hd').1; have := HL.out; omega
            have hne := HG.out i j (by omega) hjn
            obtain ⟨_, _, q3⟩ := GL.out j d' hd'
            have o := (hleft.out.2 j d' hd').2 (by omega)
            exact OwnI.turn T1 (by omega) (o.far (by simp; omega) _)
        · have t1 : Turn lo w0.heap.size (wr.setCell ⟨g, i * 2, none⟩ (.int .i64 v)) w1 := T1.out.mono gl1 (by omega)
          exact (ht.out.set (.inl ⟨r0, r1⟩) _).trans t1
      case measure => simp [intOf]; omega
    · go_wp2
      go_ret
      exact ⟨v, hv0, by omega, rfl, ht.out⟩
theorem laws_markColA (lo hi g n c : Nat) (cs : List PCol) (k : Int) (w w0 : World) (ho : OwnC w0 lo g n cs n) (hw : w0.heap.size = hi) (hb : Below w0.heap.size w0 w) (hl : cs.length = n) (hs : SmallC cs) (hn : n ≤ 1048576) (h0 : 0 ≤ k) (h1 : k ≤ 17592186044416) :
    Calls Try.prog 41 #[.slice (some ⟨g, 0, none⟩) n c, .int .i64 k] w fun e w' => ∃ v, 0 ≤ v ∧ v ≤ k + n * 1048578 ∧ e = .returned (.int .i64 v) ∧ Turn lo hi w w' :=
  laws_markColumnS lo hi g n c cs k w w0 ho hw hb.size (fun b _ h2 => hb.block b h2) hl hs hn h0 h1
end Go.Proofs.Ytppdomoifnokpaa
