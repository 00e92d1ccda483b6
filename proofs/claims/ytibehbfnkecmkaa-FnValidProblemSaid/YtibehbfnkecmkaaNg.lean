
/-
  Negated rows: what the program's functions and the model's return.
-/
import Derived.Test.YtibehbfnkecmkaaAp
import Derived.Test.YtibehbfnkecmkaaRw
set_option linter.unusedSimpArgs false
set_option linter.unusedVariables false
namespace Go.Proofs.Ytibehbfnkecmkaa
open Go.RowKit

def negS (s : Int) : Int := if s = 1 then 2 else if s = 2 then 1 else s
def negR (r : PRow) : PRow := ⟨r.cs.map (fun x => -x), negS r.s, -r.b⟩
/-- After k rounds. -/
def negK (cs : List Int) (k : Nat) : List Int := (cs.take k).map (fun x => -x) ++ cs.drop k
theorem negK_0 (cs : List Int) : negK cs 0 = cs := by simp [negK]
theorem negK_end (cs : List Int) : negK cs cs.length = cs.map (fun x => -x) := by simp [negK]
theorem negK_len (cs : List Int) (k : Nat) (h : k ≤ cs.length) : (negK cs k).length = cs.length := by simp [negK]; omega
theorem negK_at {cs : List Int} {k : Nat} {x : Int} (h : cs[k]? = some x) : (negK cs k)[k]? = some x := by
  have hk : k < cs.length := (List.getElem?_eq_some_iff.1 h).1
  have hl : ((cs.take k).map (fun x => -x)).length = k := by simp; omega
  unfold negK
  rw [List.getElem?_append_right (by omega), hl, Nat.sub_self, List.getElem?_drop]
  simpa using h
theorem negK_set {cs : List Int} {k : Nat} {x : Int} (h : cs[k]? = some x) : (negK cs k).set k (-x) = negK cs (k + 1) := by
  have hk : k < cs.length := (List.getElem?_eq_some_iff.1 h).1
  have hl : ((cs.take k).map (fun x => -x)).length = k := by simp; omega
  unfold negK
  rw [List.set_append, hl, if_neg (Nat.lt_irrefl _), Nat.sub_self, List.drop_eq_getElem_cons hk, List.set_cons_zero, List.take_add_one, h, List.map_append]
  simp
theorem vRow_in {r : PRow} {m : Int} (h : vRow r m = true) : r.cs.length ≤ 5 ∧ (∀ x ∈ r.cs, -9 ≤ x ∧ x ≤ 9) ∧ (1 ≤ r.s ∧ r.s ≤ 3) ∧ (-99 ≤ r.b ∧ r.b ≤ 99) := by
  simp only [vRow, Bool.and_eq_true, decide_eq_true_eq] at h
  obtain ⟨h1, h2, h3, h4, h5⟩ := h
  have := inB_iff.1 h1
  refine ⟨by omega, fun x hx => ?_, inB_iff.1 h4, inB_iff.1 h5⟩
  rw [vInts, List.all_eq_true] at h3
  exact inB_iff.1 (h3 x hx)
theorem vRow_pos {r : PRow} {m : Int} (h : vRow r m = true) : 1 ≤ (r.cs.length : Int) := by
  simp only [vRow, Bool.and_eq_true, decide_eq_true_eq] at h
  have := inB_iff.1 h.1
  omega
theorem get_of' {xs : List Int} {k : Nat} (h : k < xs.length) : ∃ x, xs[k]? = some x := ⟨_, List.getElem?_eq_getElem h⟩
theorem neg_bd {r : PRow} {m : Int} (h : vRow r m = true) : ∀ x ∈ r.cs.map (fun x => -x), I64 x := by
  intro x hx
  obtain ⟨y, hy, rfl⟩ := List.mem_map.1 hx
  have := (vRow_in h).2.1 y hy
  exact ⟨by omega, by omega⟩

/-- The result is a row of the call's own. -/
def RowEnd (L : PRow) (w : World) (e : Ending) (w' : World) : Prop :=
  ∃ (A : Option Addr) (c : Nat), e = .returned (.agg #[.slice A L.cs.length c, .int .i64 L.s, .int .i64 L.b]) ∧ OwnS w' w.heap.size w'.heap.size A L.cs ∧ Below w.heap.size w w'

theorem OwnS.get {w : World} {lo hi : Nat} {A : Option Addr} {xs : List Int} (h : OwnS w lo hi A xs) (hn : 0 < xs.length) : ∃ g, A = some ⟨g, 0, none⟩ ∧ lo ≤ g ∧ g < hi ∧ OwnI w g xs := by
  rcases h.1 with h0 | h0
  · subst h0; simp at hn
  · exact h0
theorem OwnS.wide {w : World} {lo hi lo' hi' : Nat} {A : Option Addr} {xs : List Int} (h : OwnS w lo hi A xs) (h1 : lo' ≤ lo) (h2 : hi ≤ hi') : OwnS w lo' hi' A xs := by
  obtain ⟨h0 | ⟨g, e, a, b, o⟩, h4⟩ := h
  · exact ⟨.inl h0, h4⟩
  · exact ⟨.inr ⟨g, e, by omega, by omega, o⟩, h4⟩
theorem Box.mk3 {w : World} {b : Nat} {x y z : Value} (h : b < w.heap.size) (c0 : w.cell? ⟨b, 0, none⟩ = some x) (c1 : w.cell? ⟨b, 1, none⟩ = some y) (c2 : w.cell? ⟨b, 2, none⟩ = some z)
    (f0 : w.frozen? ⟨b, 0, none⟩ = false) (f1 : w.frozen? ⟨b, 1, none⟩ = false) (f2 : w.frozen? ⟨b, 2, none⟩ = false) : Box w b #[x, y, z] := by
  refine ⟨h, fun i v hv => ?_⟩
  have hi : i < 3 := by have := (Array.getElem?_eq_some_iff.1 hv).1; simpa using this
  rcases (by omega : i = 0 ∨ i = 1 ∨ i = 2) with rfl | rfl | rfl <;> simp at hv <;> subst hv
  · exact ⟨c0, f0⟩
  · exact ⟨c1, f1⟩
  · exact ⟨c2, f2⟩
theorem negS_1 {s : Int} (h : s = 1) : negS s = 2 := by simp [negS, h]
theorem negS_2 {s : Int} (h : s = 2) : negS s = 1 := by simp [negS, h]
theorem negS_3 {s : Int} (h1 : ¬ s = 1) (h2 : ¬ s = 2) : negS s = s := by simp [negS, h1, h2]
theorem RowEnd.neg {r : PRow} {m : Int} {w w' : World} {g c : Nat} {s : Int} (hv : vRow r m = true) (hs : negS r.s = s) (ho : OwnI w' g (negK r.cs r.cs.length)) (h1 : w.heap.size ≤ g) (h2 : g < w'.heap.size) (hb : Below w.heap.size w w') :
    RowEnd (negR r) w (.returned (.agg #[.slice (some ⟨g, 0, none⟩) r.cs.length c, .int .i64 s, .int .i64 (-r.b)])) w' := by
  subst hs
  rw [negK_end] at ho
  have hl := (vRow_in hv).1
  exact ⟨_, c, by simp [negR], OwnS.of_own ho h1 h2 (neg_bd hv) (by show (r.cs.map _).length ≤ _; rw [List.length_map]; omega), hb⟩
def CutN (b0 c : Nat) (r : PRow) (w : World) (s3 : Value) (wx : World) : Prop :=
  ∃ g h c1 : Nat, s3 = .pointer (some ⟨g, 0, none⟩) ∧ (g ≠ h ∧ w.heap.size + 1 < g ∧ w.heap.size + 1 < h ∧ h < wx.heap.size) ∧ Box wx g #[.slice (some ⟨h, 0, none⟩) r.cs.length c1, .int .i64 r.s, .int .i64 (-r.b)] ∧ OwnI wx h r.cs ∧ Box wx w.heap.size #[.slice (some ⟨b0, 0, none⟩) r.cs.length c, .int .i64 r.s, .int .i64 r.b] ∧ Box wx (w.heap.size + 1) #[.slice none 0 0, .int .i64 0, .int .i64 0] ∧ Below w.heap.size w wx

set_option maxHeartbeats 4000000 in
set_option maxRecDepth 100000 in
theorem spec_negateRow (b0 c : Nat) (r : PRow) (m : Int) (w : World) (hr : RowV w (some ⟨b0, 0, none⟩) c r) (hv : Hid (vRow r m = true)) :
    Calls Try.prog 65 #[.agg #[.slice (some ⟨b0, 0, none⟩) r.cs.length c, .int .i64 r.s, .int .i64 r.b]] w (RowEnd (negR r) w) := by
  obtain ⟨h5, hin, _, v0, v1⟩ := vRow_in hv.out
  have HIN := Lib.hid hin; clear hin
  have hne : 0 < r.cs.length := by have := vRow_pos hv.out; omega
  have HR := Lib.hid hr; clear hr
  have hwn : IntKind.i64.wrap (-r.b) = -r.b := IntWalk.i64_in _ ⟨by omega, by omega⟩
  go_enter Try.func65, Try.ntmps65
  go_upto_region 1 with fail
  go_cut [3] (fun s3 wx => CutN b0 c r w s3 wx)
  case first =>
    go_region_held3 (fun w' => w'.cell? ⟨w.heap.size, 0, none⟩ = some (.slice (some ⟨b0, 0, none⟩) r.cs.length c) ∧ w'.cell? ⟨w.heap.size, 1, none⟩ = some (.int .i64 r.s) ∧ w'.cell? ⟨w.heap.size, 2, none⟩ = some (.int .i64 r.b)) (first | exact ⟨by assumption, by assumption, by assumption⟩ | (refine (fun (h0 : Box _ (w.heap.size) #[.slice (some ⟨b0, 0, none⟩) r.cs.length c, .int .i64 r.s, .int .i64 r.b]) => ⟨h0.at 0 rfl, h0.at 1 rfl, h0.at 2 rfl⟩) ?_ <;> (repeat' (first | (with_reducible exact Box.new _ _ _ (by first | omega | (simp; done) | (simp; omega) | (simp only [World.size_alloc, World.size_setCell, World.size_drew] at *; omega))) | (with_reducible refine Box.far ?_ (by first | omega | (simp; done) | (simp; omega) | (simp only [World.size_alloc, World.size_setCell, World.size_drew] at *; omega)) _) | (with_reducible refine Box.alloc ?_ _) | (with_reducible refine Box.drewN ?_ _) | (with_reducible refine Box.drew ?_) | (with_reducible assumption) | (refine Hid.out ?_; with_reducible assumption) | (apply Box.belowD; (with_reducible assumption))))))
      ((first
        | (go_at_call 102; refine (spec_copyInts _ _ _ _ r.cs _ (HR.out.i.below (by (repeat' (first | (with_reducible exact Below.refl _ _) | (with_reducible refine belS ?_ (by first | omega | (simp; done) | (simp; omega) | (simp only [World.size_alloc, World.size_setCell, World.size_drew] at *; omega))) | (with_reducible refine belA ?_ (by first | omega | (simp; done) | (simp; omega) | (simp only [World.size_alloc, World.size_setCell, World.size_drew] at *; omega))) | (with_reducible refine bel_drewN ?_ _) | (with_reducible refine Below.drew ?_) | (with_reducible assumption) | (refine Hid.out ?_; with_reducible assumption) | (apply belV; (with_reducible assumption); exact (by first | omega | (simp; done) | (simp; omega) | (simp only [World.size_alloc, World.size_setCell, World.size_drew] at *; omega))))))) (by omega)).mono ?_; rintro e w1 ⟨A, c1, rfl, ho, hb⟩; have G1 : Hid (Below w.heap.size w w1) := belU hb (by (repeat' (first | (with_reducible exact Below.refl _ _) | (with_reducible refine belS ?_ (by first | omega | (simp; done) | (simp; omega) | (simp only [World.size_alloc, World.size_setCell, World.size_drew] at *; omega))) | (with_reducible refine belA ?_ (by first | omega | (simp; done) | (simp; omega) | (simp only [World.size_alloc, World.size_setCell, World.size_drew] at *; omega))) | (with_reducible refine bel_drewN ?_ _) | (with_reducible refine Below.drew ?_) | (with_reducible assumption) | (refine Hid.out ?_; with_reducible assumption) | (apply belV; (with_reducible assumption); exact (by first | omega | (simp; done) | (simp; omega) | (simp only [World.size_alloc, World.size_setCell, World.size_drew] at *; omega)))))) (by first | omega | (simp; done) | (simp; omega) | (simp only [World.size_alloc, World.size_setCell, World.size_drew] at *; omega)); (try simp only [World.size_alloc, World.size_setCell, World.size_drew, World.heap_drewN] at ho); have W1 := Lib.hid ho; clear ho; have X_1 : Hid (Box w1 (w.heap.size) #[.slice (some ⟨b0, 0, none⟩) r.cs.length c, .int .i64 r.s, .int .i64 r.b]) := Lib.hid (Box.below (by (repeat' (first | (with_reducible exact Box.new _ _ _ (by first | omega | (simp; done) | (simp; omega) | (simp only [World.size_alloc, World.size_setCell, World.size_drew] at *; omega))) | (with_reducible refine Box.far ?_ (by first | omega | (simp; done) | (simp; omega) | (simp only [World.size_alloc, World.size_setCell, World.size_drew] at *; omega)) _) | (with_reducible refine Box.alloc ?_ _) | (with_reducible refine Box.drewN ?_ _) | (with_reducible refine Box.drew ?_) | (with_reducible assumption) | (refine Hid.out ?_; with_reducible assumption) | (apply Box.belowD; (with_reducible assumption))))) hb); have yX_1 : w.heap.size < w1.heap.size := X_1.out.1; obtain ⟨X_1c0, X_1c1, X_1c2⟩ := Box.facts3 X_1.out; have R_1 : Hid (Box w1 (w.heap.size + 1) #[.slice none 0 0, .int .i64 0, .int .i64 0]) := Lib.hid (Box.below (by (repeat' (first | (with_reducible exact Box.new _ _ _ (by first | omega | (simp; done) | (simp; omega) | (simp only [World.size_alloc, World.size_setCell, World.size_drew] at *; omega))) | (with_reducible refine Box.far ?_ (by first | omega | (simp; done) | (simp; omega) | (simp only [World.size_alloc, World.size_setCell, World.size_drew] at *; omega)) _) | (with_reducible refine Box.alloc ?_ _) | (with_reducible refine Box.drewN ?_ _) | (with_reducible refine Box.drew ?_) | (with_reducible assumption) | (refine Hid.out ?_; with_reducible assumption) | (apply Box.belowD; (with_reducible assumption))))) hb); have yR_1 : w.heap.size + 1 < w1.heap.size := R_1.out.1; obtain ⟨R_1c0, R_1c1, R_1c2⟩ := Box.facts3 R_1.out; have R_1f0 := Box.frz R_1.out 0 (by decide); have R_1f1 := Box.frz R_1.out 1 (by decide); have R_1f2 := Box.frz R_1.out 2 (by decide); have z1 := hb.size; (try simp at z1); obtain ⟨hc1, hf1⟩ := bcell hb; (try have yv1_w : w.heap.size < w1.heap.size := by omega); have D1 := Lib.hid hb; clear hb)))
    all_goals
      go_wp2_with fail
      go_meet
      obtain ⟨hh, rfl, lh1, lh2, oh⟩ := W1.out.get hne
      have OH := Lib.hid oh; clear oh
      refine ⟨_, hh, c1, rfl, ⟨?_, ?_, ?_, ?_⟩, ?_, ?_, ?_, ?_, ?_⟩
      · exact (by first | omega | (simp; done) | (simp; omega) | (simp only [World.size_alloc, World.size_setCell, World.size_drew] at *; omega))
      · exact (by first | omega | (simp; done) | (simp; omega) | (simp only [World.size_alloc, World.size_setCell, World.size_drew] at *; omega))
      · exact (by first | omega | (simp; done) | (simp; omega) | (simp only [World.size_alloc, World.size_setCell, World.size_drew] at *; omega))
      · exact (by first | omega | (simp; done) | (simp; omega) | (simp only [World.size_alloc, World.size_setCell, World.size_drew] at *; omega))
      · first
          | exact Box.new _ _ _ rfl
          | (refine Box.mk3 ?_ ?_ ?_ ?_ ?_ ?_ ?_ <;> (first | (simp [go_sem, *]; done) | (simp [World.setCell]; omega)))
      · (repeat' (first | (with_reducible exact OwnI.madeAt _ _ _ (by first | omega | (simp; done) | (simp; omega) | (simp only [World.size_alloc, World.size_setCell, World.size_drew] at *; omega))) | (with_reducible refine OwnI.far ?_ (by first | omega | (simp; done) | (simp; omega) | (simp only [World.size_alloc, World.size_setCell, World.size_drew] at *; omega)) _) | (with_reducible refine OwnI.alloc ?_ _) | (with_reducible refine OwnI.drewN ?_ _) | (with_reducible refine OwnI.drew ?_) | (with_reducible assumption) | (refine Hid.out ?_; with_reducible assumption) | (apply OwnI.turn; (with_reducible assumption); exact (by first | omega | (simp; done) | (simp; omega) | (simp only [World.size_alloc, World.size_setCell, World.size_drew] at *; omega))) | (apply OwnI.belowD; (with_reducible assumption))))
      · (repeat' (first | (with_reducible exact Box.new _ _ _ (by first | omega | (simp; done) | (simp; omega) | (simp only [World.size_alloc, World.size_setCell, World.size_drew] at *; omega))) | (with_reducible refine Box.far ?_ (by first | omega | (simp; done) | (simp; omega) | (simp only [World.size_alloc, World.size_setCell, World.size_drew] at *; omega)) _) | (with_reducible refine Box.alloc ?_ _) | (with_reducible refine Box.drewN ?_ _) | (with_reducible refine Box.drew ?_) | (with_reducible assumption) | (refine Hid.out ?_; with_reducible assumption) | (apply Box.belowD; (with_reducible assumption))))
      · (repeat' (first | (with_reducible exact Box.new _ _ _ (by first | omega | (simp; done) | (simp; omega) | (simp only [World.size_alloc, World.size_setCell, World.size_drew] at *; omega))) | (with_reducible refine Box.far ?_ (by first | omega | (simp; done) | (simp; omega) | (simp only [World.size_alloc, World.size_setCell, World.size_drew] at *; omega)) _) | (with_reducible refine Box.alloc ?_ _) | (with_reducible refine Box.drewN ?_ _) | (with_reducible refine Box.drew ?_) | (with_reducible assumption) | (refine Hid.out ?_; with_reducible assumption) | (apply Box.belowD; (with_reducible assumption))))
      · (repeat' (first | (with_reducible exact Below.refl _ _) | (with_reducible refine belS ?_ (by first | omega | (simp; done) | (simp; omega) | (simp only [World.size_alloc, World.size_setCell, World.size_drew] at *; omega))) | (with_reducible refine belA ?_ (by first | omega | (simp; done) | (simp; omega) | (simp only [World.size_alloc, World.size_setCell, World.size_drew] at *; omega))) | (with_reducible refine bel_drewN ?_ _) | (with_reducible refine Below.drew ?_) | (with_reducible assumption) | (refine Hid.out ?_; with_reducible assumption) | (apply belV; (with_reducible assumption); exact (by first | omega | (simp; done) | (simp; omega) | (simp only [World.size_alloc, World.size_setCell, World.size_drew] at *; omega)))))
  case rest =>
    clear hwn
    obtain ⟨g, h, c1, rfl, ⟨n1, n2, n3, n4⟩, bg, oh, bx, br, hbel⟩ := hcut
    have zc := bg.1
    have BG := Lib.hid bg; clear bg
    have OH := Lib.hid oh; clear oh
    have BX := Lib.hid bx; clear bx
    have BR := Lib.hid br; clear br
    have HB := Lib.hid hbel; clear hbel
    go_wp2_with fail
    go_loopw [4] (fun s4 wr => ∃ k : Nat, k ≤ r.cs.length ∧ s4 = .int .i64 k ∧ Hid (OwnI wr h (negK r.cs k)) ∧ Hid (Box wr g #[.slice (some ⟨h, 0, none⟩) r.cs.length c1, .int .i64 r.s, .int .i64 (-r.b)]) ∧ Hid (Box wr w.heap.size #[.slice (some ⟨b0, 0, none⟩) r.cs.length c, .int .i64 r.s, .int .i64 r.b]) ∧ Hid (Box wr (w.heap.size + 1) #[.slice none 0 0, .int .i64 0, .int .i64 0]) ∧ Hid (Below w.heap.size w wr)) (fun s4 _ => r.cs.length - (intOf s4).toNat)
    case atStart => exact ⟨0, by omega, rfl, by rw [negK_0]; exact OH, BG, BX, BR, HB⟩
    case round =>
      obtain ⟨k, hk, rfl, hown, hg, hx, hrr, hbel⟩ := hrel
      have z0 := hg.out.1
      have z1 := hown.out.1
      obtain ⟨g0, g1, g2⟩ := Box.facts3 hg.out
      by_cases hlt : k < r.cs.length
      · obtain ⟨x, hxk⟩ := get_of' hlt
        have hxb := HIN.out x (List.mem_of_getElem? hxk)
        obtain ⟨xb0, xb1⟩ := hxb
        have o := hown.out.2 k x (negK_at hxk)
        obtain ⟨o1, o2⟩ := o
        have HX := Lib.hid hxk; clear hxk
        have hwx : IntKind.i64.wrap (-x) = -x := IntWalk.i64_in _ ⟨by omega, by omega⟩
        go_wp2_with fail
        go_region
        all_goals
          clear hwx
          go_wp2
          go_roundw
          case rel =>
            refine ⟨k + 1, by omega, by go_num, Lib.hid ?_, ?_, ?_, ?_, ?_⟩
            · have o3 := hown.out.set_ (negK_at HX.out) (-x)
              rw [negK_set HX.out] at o3
              exact o3.drew
            · (refine Lib.hid ?_; (repeat' (first | (with_reducible exact Box.new _ _ _ (by first | omega | (simp; done) | (simp; omega) | (simp only [World.size_alloc, World.size_setCell, World.size_drew] at *; omega))) | (with_reducible refine Box.far ?_ (by first | omega | (simp; done) | (simp; omega) | (simp only [World.size_alloc, World.size_setCell, World.size_drew] at *; omega)) _) | (with_reducible refine Box.alloc ?_ _) | (with_reducible refine Box.drewN ?_ _) | (with_reducible refine Box.drew ?_) | (with_reducible assumption) | (refine Hid.out ?_; with_reducible assumption) | (apply Box.belowD; (with_reducible assumption)))))
            · (refine Lib.hid ?_; (repeat' (first | (with_reducible exact Box.new _ _ _ (by first | omega | (simp; done) | (simp; omega) | (simp only [World.size_alloc, World.size_setCell, World.size_drew] at *; omega))) | (with_reducible refine Box.far ?_ (by first | omega | (simp; done) | (simp; omega) | (simp only [World.size_alloc, World.size_setCell, World.size_drew] at *; omega)) _) | (with_reducible refine Box.alloc ?_ _) | (with_reducible refine Box.drewN ?_ _) | (with_reducible refine Box.drew ?_) | (with_reducible assumption) | (refine Hid.out ?_; with_reducible assumption) | (apply Box.belowD; (with_reducible assumption)))))
            · (refine Lib.hid ?_; (repeat' (first | (with_reducible exact Box.new _ _ _ (by first | omega | (simp; done) | (simp; omega) | (simp only [World.size_alloc, World.size_setCell, World.size_drew] at *; omega))) | (with_reducible refine Box.far ?_ (by first | omega | (simp; done) | (simp; omega) | (simp only [World.size_alloc, World.size_setCell, World.size_drew] at *; omega)) _) | (with_reducible refine Box.alloc ?_ _) | (with_reducible refine Box.drewN ?_ _) | (with_reducible refine Box.drew ?_) | (with_reducible assumption) | (refine Hid.out ?_; with_reducible assumption) | (apply Box.belowD; (with_reducible assumption)))))
            · (refine Lib.hid ?_; (repeat' (first | (with_reducible exact Below.refl _ _) | (with_reducible refine belS ?_ (by first | omega | (simp; done) | (simp; omega) | (simp only [World.size_alloc, World.size_setCell, World.size_drew] at *; omega))) | (with_reducible refine belA ?_ (by first | omega | (simp; done) | (simp; omega) | (simp only [World.size_alloc, World.size_setCell, World.size_drew] at *; omega))) | (with_reducible refine bel_drewN ?_ _) | (with_reducible refine Below.drew ?_) | (with_reducible assumption) | (refine Hid.out ?_; with_reducible assumption) | (apply belV; (with_reducible assumption); exact (by first | omega | (simp; done) | (simp; omega) | (simp only [World.size_alloc, World.size_setCell, World.size_drew] at *; omega))))))
          case measure => simp [intOf]; omega
      · have hke : k = r.cs.length := by omega
        subst hke
        have hr0 := hrr.out
        obtain ⟨r0, r1, r2⟩ := Box.facts3 hr0
        have f0 := hr0.frz 0 (by decide)
        have f1 := hr0.frz 1 (by decide)
        have f2 := hr0.frz 2 (by decide)
        have fg1 := hg.out.frz 1 (by simp)
        obtain ⟨x0, x1, x2⟩ := Box.facts3 hx.out
        have hr1 := hr0.1
        clear hr0
        by_cases hs1 : r.s = 1
        · have e1 : (r.s == 1) = true := by simp [hs1]
          have N := Lib.hid (negS_1 hs1)
          clear hs1
          go_wp2_with fail
          refine bodyPost_ret (v := .agg #[.slice (some ⟨h, 0, none⟩) r.cs.length c1, .int .i64 2, .int .i64 (-r.b)]) (by simp [results, Try.results65, go_sem, *]) rfl (RowEnd.neg (g := h) (m := m) hv.out (by exact N.out) (by (repeat' (first | (with_reducible exact OwnI.madeAt _ _ _ (by first | omega | (simp; done) | (simp; omega) | (simp only [World.size_alloc, World.size_setCell, World.size_drew] at *; omega))) | (with_reducible refine OwnI.far ?_ (by first | omega | (simp; done) | (simp; omega) | (simp only [World.size_alloc, World.size_setCell, World.size_drew] at *; omega)) _) | (with_reducible refine OwnI.alloc ?_ _) | (with_reducible refine OwnI.drewN ?_ _) | (with_reducible refine OwnI.drew ?_) | (with_reducible assumption) | (refine Hid.out ?_; with_reducible assumption) | (apply OwnI.turn; (with_reducible assumption); exact (by first | omega | (simp; done) | (simp; omega) | (simp only [World.size_alloc, World.size_setCell, World.size_drew] at *; omega))) | (apply OwnI.belowD; (with_reducible assumption))))) (by first | omega | (simp; done) | (simp; omega) | (simp only [World.size_alloc, World.size_setCell, World.size_drew] at *; omega)) (by first | omega | (simp; done) | (simp; omega) | (simp only [World.size_alloc, World.size_setCell, World.size_drew] at *; omega)) (by (repeat' (first | (with_reducible exact Below.refl _ _) | (with_reducible refine belS ?_ (by first | omega | (simp; done) | (simp; omega) | (simp only [World.size_alloc, World.size_setCell, World.size_drew] at *; omega))) | (with_reducible refine belA ?_ (by first | omega | (simp; done) | (simp; omega) | (simp only [World.size_alloc, World.size_setCell, World.size_drew] at *; omega))) | (with_reducible refine bel_drewN ?_ _) | (with_reducible refine Below.drew ?_) | (with_reducible assumption) | (refine Hid.out ?_; with_reducible assumption) | (apply belV; (with_reducible assumption); exact (by first | omega | (simp; done) | (simp; omega) | (simp only [World.size_alloc, World.size_setCell, World.size_drew] at *; omega)))))))
        by_cases hs2 : r.s = 2
        · have e1 : (r.s == 1) = false := by simp [hs1]
          have e2 : (r.s == 2) = true := by simp [hs2]
          have N := Lib.hid (negS_2 hs2)
          clear hs1 hs2
          go_wp2_with fail
          refine bodyPost_ret (v := .agg #[.slice (some ⟨h, 0, none⟩) r.cs.length c1, .int .i64 1, .int .i64 (-r.b)]) (by simp [results, Try.results65, go_sem, *]) rfl (RowEnd.neg (g := h) (m := m) hv.out (by exact N.out) (by (repeat' (first | (with_reducible exact OwnI.madeAt _ _ _ (by first | omega | (simp; done) | (simp; omega) | (simp only [World.size_alloc, World.size_setCell, World.size_drew] at *; omega))) | (with_reducible refine OwnI.far ?_ (by first | omega | (simp; done) | (simp; omega) | (simp only [World.size_alloc, World.size_setCell, World.size_drew] at *; omega)) _) | (with_reducible refine OwnI.alloc ?_ _) | (with_reducible refine OwnI.drewN ?_ _) | (with_reducible refine OwnI.drew ?_) | (with_reducible assumption) | (refine Hid.out ?_; with_reducible assumption) | (apply OwnI.turn; (with_reducible assumption); exact (by first | omega | (simp; done) | (simp; omega) | (simp only [World.size_alloc, World.size_setCell, World.size_drew] at *; omega))) | (apply OwnI.belowD; (with_reducible assumption))))) (by first | omega | (simp; done) | (simp; omega) | (simp only [World.size_alloc, World.size_setCell, World.size_drew] at *; omega)) (by first | omega | (simp; done) | (simp; omega) | (simp only [World.size_alloc, World.size_setCell, World.size_drew] at *; omega)) (by (repeat' (first | (with_reducible exact Below.refl _ _) | (with_reducible refine belS ?_ (by first | omega | (simp; done) | (simp; omega) | (simp only [World.size_alloc, World.size_setCell, World.size_drew] at *; omega))) | (with_reducible refine belA ?_ (by first | omega | (simp; done) | (simp; omega) | (simp only [World.size_alloc, World.size_setCell, World.size_drew] at *; omega))) | (with_reducible refine bel_drewN ?_ _) | (with_reducible refine Below.drew ?_) | (with_reducible assumption) | (refine Hid.out ?_; with_reducible assumption) | (apply belV; (with_reducible assumption); exact (by first | omega | (simp; done) | (simp; omega) | (simp only [World.size_alloc, World.size_setCell, World.size_drew] at *; omega)))))))
        · have e1 : (r.s == 1) = false := by simp [hs1]
          have e2 : (r.s == 2) = false := by simp [hs2]
          have N := Lib.hid (negS_3 hs1 hs2)
          clear hs1 hs2
          go_wp2_with fail
          refine bodyPost_ret (v := .agg #[.slice (some ⟨h, 0, none⟩) r.cs.length c1, .int .i64 r.s, .int .i64 (-r.b)]) (by simp [results, Try.results65, go_sem, *]) rfl (RowEnd.neg (g := h) (m := m) hv.out (by exact N.out) (by (repeat' (first | (with_reducible exact OwnI.madeAt _ _ _ (by first | omega | (simp; done) | (simp; omega) | (simp only [World.size_alloc, World.size_setCell, World.size_drew] at *; omega))) | (with_reducible refine OwnI.far ?_ (by first | omega | (simp; done) | (simp; omega) | (simp only [World.size_alloc, World.size_setCell, World.size_drew] at *; omega)) _) | (with_reducible refine OwnI.alloc ?_ _) | (with_reducible refine OwnI.drewN ?_ _) | (with_reducible refine OwnI.drew ?_) | (with_reducible assumption) | (refine Hid.out ?_; with_reducible assumption) | (apply OwnI.turn; (with_reducible assumption); exact (by first | omega | (simp; done) | (simp; omega) | (simp only [World.size_alloc, World.size_setCell, World.size_drew] at *; omega))) | (apply OwnI.belowD; (with_reducible assumption))))) (by first | omega | (simp; done) | (simp; omega) | (simp only [World.size_alloc, World.size_setCell, World.size_drew] at *; omega)) (by first | omega | (simp; done) | (simp; omega) | (simp only [World.size_alloc, World.size_setCell, World.size_drew] at *; omega)) (by (repeat' (first | (with_reducible exact Below.refl _ _) | (with_reducible refine belS ?_ (by first | omega | (simp; done) | (simp; omega) | (simp only [World.size_alloc, World.size_setCell, World.size_drew] at *; omega))) | (with_reducible refine belA ?_ (by first | omega | (simp; done) | (simp; omega) | (simp only [World.size_alloc, World.size_setCell, World.size_drew] at *; omega))) | (with_reducible refine bel_drewN ?_ _) | (with_reducible refine Below.drew ?_) | (with_reducible assumption) | (refine Hid.out ?_; with_reducible assumption) | (apply belV; (with_reducible assumption); exact (by first | omega | (simp; done) | (simp; omega) | (simp only [World.size_alloc, World.size_setCell, World.size_drew] at *; omega)))))))
end Go.Proofs.Ytibehbfnkecmkaa
