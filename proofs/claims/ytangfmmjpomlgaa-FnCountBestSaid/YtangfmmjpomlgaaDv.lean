
/-
  Spoilt lists of numbers out of the reader; the draws of the laws on rows, more.
-/
import Derived.Test.YtangfmmjpomlgaaDu
set_option linter.unusedSimpArgs false
set_option linter.unusedVariables false
namespace Go.Proofs.Ytangfmmjpomlgaa
open Go.RowKit

/-- A slice of numbers in a block from lo on, if there are any. -/
def IntsF (w : World) (lo : Nat) (A : Option Addr) (n : Nat) (xs : List Int) : Prop := Ints w A n xs ∧ (0 < n → ∃ g off : Nat, A = some ⟨g, off, none⟩ ∧ lo ≤ g)
section
variable {w w' : World} {lo n rb : Nat} {A : Option Addr} {xs : List Int}
theorem IntsF.out (h : IntsF w lo A n xs) : Ints w A n xs := h.1
theorem IntsF.keepF (h : IntsF w lo A n xs) (hk : ∀ j, lo ≤ j → j < w.heap.size → w'.heap[j]? = w.heap[j]?) : IntsF w' lo A n xs := by
  obtain ⟨⟨hl, hr, hc⟩, h2⟩ := h
  refine ⟨⟨hl, hr, fun hn => ?_⟩, h2⟩
  obtain ⟨b, off, e, hcell⟩ := hc hn
  obtain ⟨g, off', e', hg⟩ := h2 hn
  rw [e] at e'
  injection e' with e'
  injection e' with e1 e2
  subst e1
  exact ⟨b, off, e, fun i x hx => (World.cell?_of_block (w := w) (a := ⟨b, off + i, none⟩) (hk _ hg (blk_lt (hcell i x hx)))).trans (hcell i x hx)⟩
theorem IntsF.far (h : IntsF w lo A n xs) {p : Addr} (hp : p.block < lo) (u : Value) : IntsF (w.setCell p u) lo A n xs := h.keepF fun j hj _ => Below.heap_setCell _ _ _ _ (by omega)
theorem IntsF.below (h : IntsF w lo A n xs) (hb : Below w.heap.size w w') : IntsF w' lo A n xs := h.keepF fun j _ hj => hb.block j hj
theorem IntsF.belowD {W : World} (hb : Hid (Below W.heap.size W w')) (h : IntsF W lo A n xs) : IntsF w' lo A n xs := h.below hb
theorem IntsF.only (k : Hid (Only rb w w')) (hn : rb < lo) (h : IntsF w lo A n xs) : IntsF w' lo A n xs := h.keepF fun j h1 h2 => k.out.block j h2 (by omega)
theorem IntsF.alloc (h : IntsF w lo A n xs) (o : Obj) : IntsF (w.alloc o) lo A n xs := h.below ((Below.refl _ _).alloc (Nat.le_refl _) _)
theorem IntsF.drewN (h : IntsF w lo A n xs) (m : Nat) : IntsF (w.drewN m) lo A n xs := h.keepF fun _ _ _ => rfl
theorem IntsF.drew (h : IntsF w lo A n xs) : IntsF w.drew lo A n xs := h.keepF fun _ _ _ => rfl
theorem IntsF.at_ {g off : Nat} (h : Ints w (some ⟨g, off, none⟩) n xs) (hg : lo ≤ g) : IntsF w lo (some ⟨g, off, none⟩) n xs := ⟨h, fun _ => ⟨g, off, rfl, hg⟩⟩
end
/-- A list of numbers was drawn, of at most m. -/
def DrewList (B rb P m : Nat) (w : World) (e : Ending) (w' : World) : Prop :=
  ∃ (A : Option Addr) (n c : Nat) (xs : List Int), e = .returned (.slice A n c) ∧ IntsF w' w.heap.size A n xs ∧ n ≤ c ∧ c ≤ maxLen ∧ n ≤ m ∧ Rd B w' rb P ∧ Only rb w w'
theorem DrewList.mk {B rb P m g c : Nat} {xs : List Int} {w w' : World} (hg : w.heap.size ≤ g) (ho : OwnI w' g xs) (hi : ∀ x ∈ xs, I64 x) (lc : xs.length ≤ c) (mc : c ≤ maxLen) (hm : xs.length ≤ m) (hr : Rd B w' rb P) (hO : Only rb w w') :
    DrewList B rb P m w (.returned (.slice (some ⟨g, 0, none⟩) xs.length c)) w' := ⟨_, _, c, xs, rfl, IntsF.at_ (ho.ints hi) hg, lc, mc, hm, hr, hO⟩

theorem Ints.tail {w : World} {g : Nat} {xs : List Int} (h : Ints w (some ⟨g, 0, none⟩) xs.length xs) : Ints w (some ⟨g, 1, none⟩) (xs.length - 1) (xs.drop 1) := by
  refine ⟨by simp, fun x hx => h.2.1 x (List.mem_of_mem_drop hx), fun hn => ?_⟩
  obtain ⟨b, off, e, hc⟩ := h.2.2 (by omega)
  injection e with e
  injection e with e1 e2
  subst e1 e2
  refine ⟨g, 1, rfl, fun i x hx => ?_⟩
  rw [List.getElem?_drop] at hx
  have := hc (1 + i) x hx
  rwa [Nat.zero_add] at this

theorem Ints.tail0 {xs : List Int} (w : World) (A : Option Addr) (h : xs.length ≤ 1) : Ints w A (xs.length - 1) (xs.drop 1) := by
  have e : xs.drop 1 = [] := List.drop_eq_nil_of_le h
  have e2 : xs.length - 1 = 0 := by omega
  rw [e, e2]
  exact Ints.nil _ _

set_option maxHeartbeats 4000000 in
set_option maxRecDepth 100000 in
theorem spoil_any (B rb P b0 off m c : Nat) (xs : List Int) (q : Int) (w : World) (hr : Rd B w rb P) (hI : Ints w (some ⟨b0, off, none⟩) m xs) (hP : P ≤ 700000) (hm : m ≤ 1000) (hq : -1000000 ≤ q ∧ q ≤ 1000000) :
    Calls Try.prog 63 #[.pointer (some ⟨rb, 0, none⟩), .slice (some ⟨b0, off, none⟩) m c, .int .i64 q] w (DrewList B rb (P + 3) (m + 1) w) := by
  obtain ⟨i0, hi0, hz0, hz1, hz2⟩ := info_parts info_int
  obtain ⟨q0, q1⟩ := hq
  have hrb := hr.2.1
  have hB := hr.1
  have HR := Lib.hid hr; clear hr
  obtain rfl := hI.len
  have HI := Lib.hid hI; clear hI
  go_enter Try.func63, Try.ntmps63
  go_wp2_with fail
  refine (spec_copyIntsG _ _ _ _ xs _ (HI.out.below (by (repeat' (first | (with_reducible exact Below.refl _ _) | (with_reducible refine belS ?_ (by first | omega | (simp; done) | (simp; omega) | (simp only [World.size_alloc, World.size_setCell, World.size_drew] at *; omega))) | (with_reducible refine belA ?_ (by first | omega | (simp; done) | (simp; omega) | (simp only [World.size_alloc, World.size_setCell, World.size_drew] at *; omega))) | (with_reducible refine bel_drewN ?_ _) | (with_reducible refine Below.drew ?_) | (with_reducible assumption) | (refine Hid.out ?_; with_reducible assumption) | (apply belV; (with_reducible assumption); exact (by first | omega | (simp; done) | (simp; omega) | (simp only [World.size_alloc, World.size_setCell, World.size_drew] at *; omega))))))) (by omega)).mono ?_
  rintro e w1 ⟨v, hne, rfl, hgr, hb⟩
  have z1 := hb.size
  have R1 := Lib.hid (Rd.below (by (repeat' (first | (with_reducible assumption) | (refine Hid.out ?_; with_reducible assumption) | (with_reducible refine Rd.set ?_ (by first | omega | (simp; done) | (simp; omega) | (simp only [World.size_alloc, World.size_setCell, World.size_drew] at *; omega)) (by first | omega | (simp; done) | (simp; omega) | (simp only [World.size_alloc, World.size_setCell, World.size_drew] at *; omega))) | (with_reducible refine Rd.alloc ?_ _) | (with_reducible refine Rd.drewN ?_ _) | (with_reducible refine Rd.drew ?_)))) hb)
  have D1 := Lib.hid hb; clear hb
  have O1 : Hid (OnlyA rb w w1) := Lib.hid (Only.trans (by (repeat' (first | exact Only.refl _ _ | (with_reducible assumption) | (refine Hid.out ?_; with_reducible assumption) | (refine OnlyA.out ?_; refine Hid.out ?_; with_reducible assumption) | (with_reducible refine Only.setNew ?_ (by first | omega | (simp; done) | (simp; omega) | (simp only [World.size_alloc, World.size_setCell, World.size_drew] at *; omega))) | (with_reducible refine Only.alloc ?_ _) | (with_reducible refine Only.drewN ?_ _) | (with_reducible refine Only.drew ?_) | (apply Only.thenD; (with_reducible assumption)) | (apply Only.belowD; (with_reducible assumption))))) (Only.of_below D1.out))
  (try simp at z1)
  have NE := Lib.hid hne; clear hne
  have GR := Lib.hid hgr; clear hgr
  go_wp2_with fail
  refine (pick_any B rb P _ _ (by (repeat' (first | (with_reducible assumption) | (refine Hid.out ?_; with_reducible assumption) | (with_reducible refine Rd.set ?_ (by first | omega | (simp; done) | (simp; omega) | (simp only [World.size_alloc, World.size_setCell, World.size_drew] at *; omega)) (by first | omega | (simp; done) | (simp; omega) | (simp only [World.size_alloc, World.size_setCell, World.size_drew] at *; omega))) | (with_reducible refine Rd.alloc ?_ _) | (with_reducible refine Rd.drewN ?_ _) | (with_reducible refine Rd.drew ?_)))) (by omega) (by omega) (by omega)).mono ?_
  rintro e w2 ⟨t, t0, t1, rfl, hr, ho⟩
  have z2 := ho.size
  have R2 := Lib.hid hr; clear hr
  have D2 := Lib.hid ho; clear ho
  have O2 : Hid (OnlyA rb w w2) := Lib.hid (Only.trans (by (repeat' (first | exact Only.refl _ _ | (with_reducible assumption) | (refine Hid.out ?_; with_reducible assumption) | (refine OnlyA.out ?_; refine Hid.out ?_; with_reducible assumption) | (with_reducible refine Only.setNew ?_ (by first | omega | (simp; done) | (simp; omega) | (simp only [World.size_alloc, World.size_setCell, World.size_drew] at *; omega))) | (with_reducible refine Only.alloc ?_ _) | (with_reducible refine Only.drewN ?_ _) | (with_reducible refine Only.drew ?_) | (apply Only.thenD; (with_reducible assumption)) | (apply Only.belowD; (with_reducible assumption))))) D2.out)
  (try simp at z2)
  rcases (by omega : t = 0 ∨ t = 1 ∨ t = 2 ∨ 3 ≤ t) with rfl | rfl | rfl | ht
  · have GB : Hid (Grow w2 w.heap.size 3 v xs) := Lib.hid (by (repeat' (first | (with_reducible assumption) | (refine Hid.out ?_; with_reducible assumption) | (with_reducible refine Grow.far ?_ (by first | omega | (simp; done) | (simp; omega) | (simp only [World.size_alloc, World.size_setCell, World.size_drew] at *; omega)) _) | (with_reducible refine Grow.farO ?_ (by first | omega | (simp; done) | (simp; omega) | (simp only [World.size_alloc, World.size_setCell, World.size_drew] at *; omega)) _) | (with_reducible refine Grow.alloc ?_ _) | (with_reducible refine Grow.drewN ?_ _) | (with_reducible refine Grow.drew ?_) | (apply Grow.only; (with_reducible assumption); exact (by first | omega | (simp; done) | (simp; omega) | (simp only [World.size_alloc, World.size_setCell, World.size_drew] at *; omega))) | (apply Grow.belowD; (with_reducible assumption)))))
    go_wp2_with (
      at_builtin
      refine wpList_append_own _ rfl (.tmp 14) (.tmp 16) 23 rfl w.heap.size 3 i0 (.int .i64 0) 1 8 Try.underlying23 hi0 hz0 hz1 hz2 rfl (by decide) v _ _ rfl (GB.out.alloc _).own ⟨w2.heap.size, 0, none⟩ 1 1 [.int .i64 q] rfl rfl ?c1 ?c2 ?c3 ?c4 ?c5 ?_
      case c1 => intro j u hj; (rcases j with _ | j <;> simp at hj); subst hj; simp [go_sem]
      case c2 => intro u hu; simp at hu; subst hu; rfl
      case c3 => unfold maxLen; omega
      case c4 => omega
      case c5 => simp; omega
      intro v' w4 hown' hgrow hnil
      have hrow : ∀ j, v.ownBlock = some j → w.heap.size ≤ j := GB.out.row
      have G4 : Hid (Grow w4 w.heap.size 3 v' (xs ++ [q])) := Lib.hid (Grow.snoc hown')
      have N4 : Hid (v' ≠ .slice none 0 0) := Lib.hid (fun h => by have := hnil.1 h; omega)
      have R4 : Hid (Rd B w4 rb (P + 1)) := Lib.hid (Rd.grown (by (repeat' (first | (with_reducible assumption) | (refine Hid.out ?_; with_reducible assumption) | (with_reducible refine Rd.set ?_ (by first | omega | (simp; done) | (simp; omega) | (simp only [World.size_alloc, World.size_setCell, World.size_drew] at *; omega)) (by first | omega | (simp; done) | (simp; omega) | (simp only [World.size_alloc, World.size_setCell, World.size_drew] at *; omega))) | (with_reducible refine Rd.alloc ?_ _) | (with_reducible refine Rd.drewN ?_ _) | (with_reducible refine Rd.drew ?_)))) hgrow (fun j hj => by have := hrow j hj; omega))
      have O4 : Hid (OnlyA rb w w4) := Lib.hid (Only.grown (by (repeat' (first | exact Only.refl _ _ | (with_reducible assumption) | (refine Hid.out ?_; with_reducible assumption) | (refine OnlyA.out ?_; refine Hid.out ?_; with_reducible assumption) | (with_reducible refine Only.setNew ?_ (by first | omega | (simp; done) | (simp; omega) | (simp only [World.size_alloc, World.size_setCell, World.size_drew] at *; omega))) | (with_reducible refine Only.alloc ?_ _) | (with_reducible refine Only.drewN ?_ _) | (with_reducible refine Only.drew ?_) | (apply Only.thenD; (with_reducible assumption)) | (apply Only.belowD; (with_reducible assumption))))) hgrow (fun j hj => by have := hrow j hj; omega))
      clear hown' hgrow hnil hrow
      obtain ⟨g4, c4, rfl, hg4, og4, lc4, mc4, ig4⟩ := G4.out.block N4.out (fun x hx => by
        rcases List.mem_append.1 hx with h | h
        · exact HI.out.2.1 x h
        · simp at h; subst h; exact ⟨by omega, by omega⟩)
      have IG4 := Lib.hid ig4; clear ig4 og4)
    go_ret
    have e9 : (xs ++ [q]).length = xs.length + 1 := by simp
    have IG5 := IG4.out
    rw [e9] at IG5 lc4
    exact ⟨_, _, c4, _, rfl, IntsF.at_ IG5 hg4, lc4, mc4, by omega, Rd.mono (P := P + 1) (by (repeat' (first | (with_reducible assumption) | (refine Hid.out ?_; with_reducible assumption) | (with_reducible refine Rd.set ?_ (by first | omega | (simp; done) | (simp; omega) | (simp only [World.size_alloc, World.size_setCell, World.size_drew] at *; omega)) (by first | omega | (simp; done) | (simp; omega) | (simp only [World.size_alloc, World.size_setCell, World.size_drew] at *; omega))) | (with_reducible refine Rd.alloc ?_ _) | (with_reducible refine Rd.drewN ?_ _) | (with_reducible refine Rd.drew ?_)))) (by omega), by (repeat' (first | exact Only.refl _ _ | (with_reducible assumption) | (refine Hid.out ?_; with_reducible assumption) | (refine OnlyA.out ?_; refine Hid.out ?_; with_reducible assumption) | (with_reducible refine Only.setNew ?_ (by first | omega | (simp; done) | (simp; omega) | (simp only [World.size_alloc, World.size_setCell, World.size_drew] at *; omega))) | (with_reducible refine Only.alloc ?_ _) | (with_reducible refine Only.drewN ?_ _) | (with_reducible refine Only.drew ?_) | (apply Only.thenD; (with_reducible assumption)) | (apply Only.belowD; (with_reducible assumption))))⟩
  · have GB : Hid (Grow w2 w.heap.size 3 v xs) := Lib.hid (by (repeat' (first | (with_reducible assumption) | (refine Hid.out ?_; with_reducible assumption) | (with_reducible refine Grow.far ?_ (by first | omega | (simp; done) | (simp; omega) | (simp only [World.size_alloc, World.size_setCell, World.size_drew] at *; omega)) _) | (with_reducible refine Grow.farO ?_ (by first | omega | (simp; done) | (simp; omega) | (simp only [World.size_alloc, World.size_setCell, World.size_drew] at *; omega)) _) | (with_reducible refine Grow.alloc ?_ _) | (with_reducible refine Grow.drewN ?_ _) | (with_reducible refine Grow.drew ?_) | (apply Grow.only; (with_reducible assumption); exact (by first | omega | (simp; done) | (simp; omega) | (simp only [World.size_alloc, World.size_setCell, World.size_drew] at *; omega))) | (apply Grow.belowD; (with_reducible assumption)))))
    obtain ⟨g, cg, rfl, hg1, og, lc, mc, ig⟩ := GB.out.block NE.out HI.out.2.1
    have IG := Lib.hid ig; clear ig
    have OG := Lib.hid og; clear og
    go_wp2_with fail
    · go_ret
      exact ⟨_, _, _, xs.drop 1, rfl, IntsF.at_ (Ints.tail0 _ _ (by omega)) hg1, by omega, by omega, by omega, Rd.mono (P := P + 1) (by (repeat' (first | (with_reducible assumption) | (refine Hid.out ?_; with_reducible assumption) | (with_reducible refine Rd.set ?_ (by first | omega | (simp; done) | (simp; omega) | (simp only [World.size_alloc, World.size_setCell, World.size_drew] at *; omega)) (by first | omega | (simp; done) | (simp; omega) | (simp only [World.size_alloc, World.size_setCell, World.size_drew] at *; omega))) | (with_reducible refine Rd.alloc ?_ _) | (with_reducible refine Rd.drewN ?_ _) | (with_reducible refine Rd.drew ?_)))) (by omega), by (repeat' (first | exact Only.refl _ _ | (with_reducible assumption) | (refine Hid.out ?_; with_reducible assumption) | (refine OnlyA.out ?_; refine Hid.out ?_; with_reducible assumption) | (with_reducible refine Only.setNew ?_ (by first | omega | (simp; done) | (simp; omega) | (simp only [World.size_alloc, World.size_setCell, World.size_drew] at *; omega))) | (with_reducible refine Only.alloc ?_ _) | (with_reducible refine Only.drewN ?_ _) | (with_reducible refine Only.drew ?_) | (apply Only.thenD; (with_reducible assumption)) | (apply Only.belowD; (with_reducible assumption))))⟩
    · go_ret
      exact ⟨_, _, _, xs.drop 1, rfl, IntsF.at_ IG.out.tail hg1, by omega, by omega, by omega, Rd.mono (P := P + 1) (by (repeat' (first | (with_reducible assumption) | (refine Hid.out ?_; with_reducible assumption) | (with_reducible refine Rd.set ?_ (by first | omega | (simp; done) | (simp; omega) | (simp only [World.size_alloc, World.size_setCell, World.size_drew] at *; omega)) (by first | omega | (simp; done) | (simp; omega) | (simp only [World.size_alloc, World.size_setCell, World.size_drew] at *; omega))) | (with_reducible refine Rd.alloc ?_ _) | (with_reducible refine Rd.drewN ?_ _) | (with_reducible refine Rd.drew ?_)))) (by omega), by (repeat' (first | exact Only.refl _ _ | (with_reducible assumption) | (refine Hid.out ?_; with_reducible assumption) | (refine OnlyA.out ?_; refine Hid.out ?_; with_reducible assumption) | (with_reducible refine Only.setNew ?_ (by first | omega | (simp; done) | (simp; omega) | (simp only [World.size_alloc, World.size_setCell, World.size_drew] at *; omega))) | (with_reducible refine Only.alloc ?_ _) | (with_reducible refine Only.drewN ?_ _) | (with_reducible refine Only.drew ?_) | (apply Only.thenD; (with_reducible assumption)) | (apply Only.belowD; (with_reducible assumption))))⟩
    · go_ret
      exact DrewList.mk hg1 OG.out HI.out.2.1 lc mc (by omega) (Rd.mono (P := P + 1) (by (repeat' (first | (with_reducible assumption) | (refine Hid.out ?_; with_reducible assumption) | (with_reducible refine Rd.set ?_ (by first | omega | (simp; done) | (simp; omega) | (simp only [World.size_alloc, World.size_setCell, World.size_drew] at *; omega)) (by first | omega | (simp; done) | (simp; omega) | (simp only [World.size_alloc, World.size_setCell, World.size_drew] at *; omega))) | (with_reducible refine Rd.alloc ?_ _) | (with_reducible refine Rd.drewN ?_ _) | (with_reducible refine Rd.drew ?_)))) (by omega)) (by (repeat' (first | exact Only.refl _ _ | (with_reducible assumption) | (refine Hid.out ?_; with_reducible assumption) | (refine OnlyA.out ?_; refine Hid.out ?_; with_reducible assumption) | (with_reducible refine Only.setNew ?_ (by first | omega | (simp; done) | (simp; omega) | (simp only [World.size_alloc, World.size_setCell, World.size_drew] at *; omega))) | (with_reducible refine Only.alloc ?_ _) | (with_reducible refine Only.drewN ?_ _) | (with_reducible refine Only.drew ?_) | (apply Only.thenD; (with_reducible assumption)) | (apply Only.belowD; (with_reducible assumption)))))
  · have GB : Hid (Grow w2 w.heap.size 3 v xs) := Lib.hid (by (repeat' (first | (with_reducible assumption) | (refine Hid.out ?_; with_reducible assumption) | (with_reducible refine Grow.far ?_ (by first | omega | (simp; done) | (simp; omega) | (simp only [World.size_alloc, World.size_setCell, World.size_drew] at *; omega)) _) | (with_reducible refine Grow.farO ?_ (by first | omega | (simp; done) | (simp; omega) | (simp only [World.size_alloc, World.size_setCell, World.size_drew] at *; omega)) _) | (with_reducible refine Grow.alloc ?_ _) | (with_reducible refine Grow.drewN ?_ _) | (with_reducible refine Grow.drew ?_) | (apply Grow.only; (with_reducible assumption); exact (by first | omega | (simp; done) | (simp; omega) | (simp only [World.size_alloc, World.size_setCell, World.size_drew] at *; omega))) | (apply Grow.belowD; (with_reducible assumption)))))
    obtain ⟨g, cg, rfl, hg1, og, lc, mc, ig⟩ := GB.out.block NE.out HI.out.2.1
    clear ig
    have gl := og.1
    have OG := Lib.hid og; clear og
    by_cases hl : 0 < xs.length
    · go_wp2_with fail
      refine (pick_any B rb (P + 1) _ _ (by (repeat' (first | (with_reducible assumption) | (refine Hid.out ?_; with_reducible assumption) | (with_reducible refine Rd.set ?_ (by first | omega | (simp; done) | (simp; omega) | (simp only [World.size_alloc, World.size_setCell, World.size_drew] at *; omega)) (by first | omega | (simp; done) | (simp; omega) | (simp only [World.size_alloc, World.size_setCell, World.size_drew] at *; omega))) | (with_reducible refine Rd.alloc ?_ _) | (with_reducible refine Rd.drewN ?_ _) | (with_reducible refine Rd.drew ?_)))) (by omega) (by omega) (by omega)).mono ?_
      rintro e w3 ⟨k, k0, k1, rfl, hr, ho⟩
      have z3 := ho.size
      have R3 := Lib.hid hr; clear hr
      have D3 := Lib.hid ho; clear ho
      have O3 : Hid (OnlyA rb w w3) := Lib.hid (Only.trans (by (repeat' (first | exact Only.refl _ _ | (with_reducible assumption) | (refine Hid.out ?_; with_reducible assumption) | (refine OnlyA.out ?_; refine Hid.out ?_; with_reducible assumption) | (with_reducible refine Only.setNew ?_ (by first | omega | (simp; done) | (simp; omega) | (simp only [World.size_alloc, World.size_setCell, World.size_drew] at *; omega))) | (with_reducible refine Only.alloc ?_ _) | (with_reducible refine Only.drewN ?_ _) | (with_reducible refine Only.drew ?_) | (apply Only.thenD; (with_reducible assumption)) | (apply Only.belowD; (with_reducible assumption))))) D3.out)
      (try simp at z3)
      obtain ⟨j, rfl⟩ := Int.eq_ofNat_of_zero_le k0
      have hj : j < xs.length := by omega
      go_wp2_with fail
      refine (one_any B rb (P + 2) _ _ [-1, q, 0, 1] _ (by (repeat' (first | (with_reducible assumption) | (refine Hid.out ?_; with_reducible assumption) | (with_reducible refine Rd.set ?_ (by first | omega | (simp; done) | (simp; omega) | (simp only [World.size_alloc, World.size_setCell, World.size_drew] at *; omega)) (by first | omega | (simp; done) | (simp; omega) | (simp only [World.size_alloc, World.size_setCell, World.size_drew] at *; omega))) | (with_reducible refine Rd.alloc ?_ _) | (with_reducible refine Rd.drewN ?_ _) | (with_reducible refine Rd.drew ?_)))) (by omega) (by simp) (by simp) (by first | omega | (simp; done) | (simp; omega) | (simp only [World.size_alloc, World.size_setCell, World.size_drew] at *; omega)) (by simp) (lit_cells (l := [-1, q, 0, 1]))).mono ?_
      rintro e w4 ⟨u, hu, rfl, hr, ho⟩
      have z4 := ho.size
      have R4 := Lib.hid hr; clear hr
      have D4 := Lib.hid ho; clear ho
      have O4 : Hid (OnlyA rb w w4) := Lib.hid (Only.trans (by (repeat' (first | exact Only.refl _ _ | (with_reducible assumption) | (refine Hid.out ?_; with_reducible assumption) | (refine OnlyA.out ?_; refine Hid.out ?_; with_reducible assumption) | (with_reducible refine Only.setNew ?_ (by first | omega | (simp; done) | (simp; omega) | (simp only [World.size_alloc, World.size_setCell, World.size_drew] at *; omega))) | (with_reducible refine Only.alloc ?_ _) | (with_reducible refine Only.drewN ?_ _) | (with_reducible refine Only.drew ?_) | (apply Only.thenD; (with_reducible assumption)) | (apply Only.belowD; (with_reducible assumption))))) D4.out)
      (try simp at z4)
      have bu : -1000000 ≤ u ∧ u ≤ 1000000 := by simp at hu; omega
      clear hu
      have O4g : Hid (OwnI w4 g xs) := Lib.hid (by (repeat' (first | (with_reducible exact OwnI.madeAt _ _ _ (by first | omega | (simp; done) | (simp; omega) | (simp only [World.size_alloc, World.size_setCell, World.size_drew] at *; omega))) | (with_reducible refine OwnI.far ?_ (by first | omega | (simp; done) | (simp; omega) | (simp only [World.size_alloc, World.size_setCell, World.size_drew] at *; omega)) _) | (with_reducible refine OwnI.alloc ?_ _) | (with_reducible refine OwnI.drewN ?_ _) | (with_reducible refine OwnI.drew ?_) | (with_reducible assumption) | (refine Hid.out ?_; with_reducible assumption) | (apply OwnI.turn; (with_reducible assumption); exact (by first | omega | (simp; done) | (simp; omega) | (simp only [World.size_alloc, World.size_setCell, World.size_drew] at *; omega))) | (apply OwnI.only; (with_reducible assumption); exact (by first | omega | (simp; done) | (simp; omega) | (simp only [World.size_alloc, World.size_setCell, World.size_drew] at *; omega))) | (apply OwnI.belowD; (with_reducible assumption)))))
      have hx0 := Lib.hid (show xs[j]? = some xs[j] from List.getElem?_eq_getElem hj)
      obtain ⟨y0, y1⟩ := OwnI.at_ O4g.out hj
      go_wp2_with fail
      go_ret
      have hset : OwnI (w4.setCell ⟨g, j, none⟩ (.int .i64 u)) g (xs.set j u) := OwnI.set_ O4g.out hx0.out u
      have hlen : (xs.set j u).length = xs.length := by simp
      have := DrewList.mk (B := B) (rb := rb) (P := P + 3) (m := xs.length + 1) (c := cg) (w := w) hg1 hset (fun x hx => by
        rcases List.mem_or_eq_of_mem_set hx with h | h
        · exact HI.out.2.1 x h
        · subst h; exact ⟨by omega, by omega⟩) (by omega) mc (by omega) (Rd.mono (P := P + 2 + 1) (by (repeat' (first | (with_reducible assumption) | (refine Hid.out ?_; with_reducible assumption) | (with_reducible refine Rd.set ?_ (by first | omega | (simp; done) | (simp; omega) | (simp only [World.size_alloc, World.size_setCell, World.size_drew] at *; omega)) (by first | omega | (simp; done) | (simp; omega) | (simp only [World.size_alloc, World.size_setCell, World.size_drew] at *; omega))) | (with_reducible refine Rd.alloc ?_ _) | (with_reducible refine Rd.drewN ?_ _) | (with_reducible refine Rd.drew ?_)))) (by omega)) (by (repeat' (first | exact Only.refl _ _ | (with_reducible assumption) | (refine Hid.out ?_; with_reducible assumption) | (refine OnlyA.out ?_; refine Hid.out ?_; with_reducible assumption) | (with_reducible refine Only.setNew ?_ (by first | omega | (simp; done) | (simp; omega) | (simp only [World.size_alloc, World.size_setCell, World.size_drew] at *; omega))) | (with_reducible refine Only.alloc ?_ _) | (with_reducible refine Only.drewN ?_ _) | (with_reducible refine Only.drew ?_) | (apply Only.thenD; (with_reducible assumption)) | (apply Only.belowD; (with_reducible assumption)))))
      rw [hlen] at this
      exact this
    · go_wp2_with fail
      go_ret
      exact DrewList.mk hg1 OG.out HI.out.2.1 lc mc (by omega) (Rd.mono (P := P + 1) (by (repeat' (first | (with_reducible assumption) | (refine Hid.out ?_; with_reducible assumption) | (with_reducible refine Rd.set ?_ (by first | omega | (simp; done) | (simp; omega) | (simp only [World.size_alloc, World.size_setCell, World.size_drew] at *; omega)) (by first | omega | (simp; done) | (simp; omega) | (simp only [World.size_alloc, World.size_setCell, World.size_drew] at *; omega))) | (with_reducible refine Rd.alloc ?_ _) | (with_reducible refine Rd.drewN ?_ _) | (with_reducible refine Rd.drew ?_)))) (by omega)) (by (repeat' (first | exact Only.refl _ _ | (with_reducible assumption) | (refine Hid.out ?_; with_reducible assumption) | (refine OnlyA.out ?_; refine Hid.out ?_; with_reducible assumption) | (with_reducible refine Only.setNew ?_ (by first | omega | (simp; done) | (simp; omega) | (simp only [World.size_alloc, World.size_setCell, World.size_drew] at *; omega))) | (with_reducible refine Only.alloc ?_ _) | (with_reducible refine Only.drewN ?_ _) | (with_reducible refine Only.drew ?_) | (apply Only.thenD; (with_reducible assumption)) | (apply Only.belowD; (with_reducible assumption)))))
  · have GB : Hid (Grow w2 w.heap.size 3 v xs) := Lib.hid (by (repeat' (first | (with_reducible assumption) | (refine Hid.out ?_; with_reducible assumption) | (with_reducible refine Grow.far ?_ (by first | omega | (simp; done) | (simp; omega) | (simp only [World.size_alloc, World.size_setCell, World.size_drew] at *; omega)) _) | (with_reducible refine Grow.farO ?_ (by first | omega | (simp; done) | (simp; omega) | (simp only [World.size_alloc, World.size_setCell, World.size_drew] at *; omega)) _) | (with_reducible refine Grow.alloc ?_ _) | (with_reducible refine Grow.drewN ?_ _) | (with_reducible refine Grow.drew ?_) | (apply Grow.only; (with_reducible assumption); exact (by first | omega | (simp; done) | (simp; omega) | (simp only [World.size_alloc, World.size_setCell, World.size_drew] at *; omega))) | (apply Grow.belowD; (with_reducible assumption)))))
    obtain ⟨g, cg, rfl, hg1, og, lc, mc, ig⟩ := GB.out.block NE.out HI.out.2.1
    have e0 : (t == 0) = false := by simp; omega
    have e1 : (t == 1) = false := by simp; omega
    have e2 : (t == 2) = false := by simp; omega
    go_wp2_with fail
    go_ret
    refine DrewList.mk hg1 og HI.out.2.1 lc mc ?_ ?_ ?_
    · omega
    · exact Rd.mono (P := P + 1) (by (repeat' (first | (with_reducible assumption) | (refine Hid.out ?_; with_reducible assumption) | (with_reducible refine Rd.set ?_ (by first | omega | (simp; done) | (simp; omega) | (simp only [World.size_alloc, World.size_setCell, World.size_drew] at *; omega)) (by first | omega | (simp; done) | (simp; omega) | (simp only [World.size_alloc, World.size_setCell, World.size_drew] at *; omega))) | (with_reducible refine Rd.alloc ?_ _) | (with_reducible refine Rd.drewN ?_ _) | (with_reducible refine Rd.drew ?_)))) (by omega)
    · (repeat' (first | exact Only.refl _ _ | (with_reducible assumption) | (refine Hid.out ?_; with_reducible assumption) | (refine OnlyA.out ?_; refine Hid.out ?_; with_reducible assumption) | (with_reducible refine Only.setNew ?_ (by first | omega | (simp; done) | (simp; omega) | (simp only [World.size_alloc, World.size_setCell, World.size_drew] at *; omega))) | (with_reducible refine Only.alloc ?_ _) | (with_reducible refine Only.drewN ?_ _) | (with_reducible refine Only.drew ?_) | (apply Only.thenD; (with_reducible assumption)) | (apply Only.belowD; (with_reducible assumption))))
end Go.Proofs.Ytangfmmjpomlgaa
