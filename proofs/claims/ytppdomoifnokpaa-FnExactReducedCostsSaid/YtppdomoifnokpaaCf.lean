
/-
  Costs of columns minus duals: the model.
-/
import Derived.Test.YtppdomoifnokpaaCe
set_option linter.unusedSimpArgs false
set_option linter.unusedVariables false
namespace Go.Proofs.Ytppdomoifnokpaa
open Go.RowKit

theorem step_append_in {P : Program} (w : World) {ops : Array Oper} {o : Oper} {a : Act} {K : Act → World → Prop} {Q : Exit → Act → World → Prop} {E : Prop} (hgd : o.guard = none) (s x : Operand) (t : TypeId)
    (ho : o.op = .call { callee := .builtin .append, args := #[s, x], argTypes := #[t, t] })
    (base : Nat) (e : TypeId) (i : TypeInfo) (z : Value) (size bytes : Nat) (ht : P.underlying t = some (.slice e)) (hi : P.info? e = some i) (hz : i.zero = some z)
    (hsize : i.size = size) (hby : i.bytes = bytes) (hzs : z.cells.size = size) (hsz : 0 < size)
    (v : Value) (n : Nat) (xs : List Value) (hs : a.eval s = v) (hown : w.ownsRow base e size v n xs)
    (ad : Addr) (m c : Nat) (news : List Value) (hx : a.eval x = .slice (some ad) m c) (hl : news.length = m * size) (hnews : ∀ j u, news[j]? = some u → w.cell? (ad.add j) = some u) (h1 : ∀ u ∈ news, u.oneCell' = true)
    (h63 : n + m ≤ maxLen) (hbytes : (n + m) * bytes ≤ 140737488355328) (hbase : base ≤ w.heap.size)
    (h : ∀ v' w', w'.ownsRow base e size v' (n + m) (xs ++ news) → w.grownBy w' v.ownBlock → (v' = .slice none 0 0 ↔ v = .slice none 0 0 ∧ m = 0) → K (a.put o.dst v') w') :
    if Region.wanted o (yielded ops a.tmps) = true then Oper.wp P o a w K Q else E := by
  rw [if_pos (by simp [Region.wanted, hgd])]
  exact wp_append_own w s x t ho base e i z size bytes ht hi hz hsize hby hzs hsz v n xs hs hown ad m c news hx hl hnews h1 h63 hbytes hbase h
theorem news1 (w : World) (e : TypeId) (x : Int) : ∀ j u, ([Value.int .i64 x])[j]? = some u → (w.alloc (.cells #[.int .i64 x] e)).cell? ((⟨w.heap.size, 0, none⟩ : Addr).add j) = some u := by
  intro j u hj
  rcases j with _ | j <;> simp at hj
  subst hj
  simp [go_sem]
theorem one1 (x : Int) : ∀ u ∈ [Value.int .i64 x], u.oneCell' = true := by intro u hu; simp at hu; subst hu; rfl
/-- An append of one number at a step of a region that draws its order. -/
theorem step_push {w : World} {ops : Array Oper} {o : Oper} {a : Act} {K : Act → World → Prop} {Q : Exit → Act → World → Prop} {E : Prop} (hgd : o.guard = none) (s x : Operand)
    (ho : o.op = .call { callee := .builtin .append, args := #[s, x], argTypes := #[22, 22] }) {v : Value} {B c : Nat} {A : Addr} {L : List Int} {y : Int} (hs : a.eval s = v) (hx : a.eval x = .slice (some A) 1 c)
    (gr : Grow w B 3 v L) (hl : L.length ≤ 1000000) (hc : w.cell? A = some (.int .i64 y)) (hB : B ≤ w.heap.size)
    (h : ∀ v9 w9, Grow w9 B 3 v9 (L ++ [y]) → w.grownBy w9 v.ownBlock → K (a.put o.dst v9) w9) :
    if Region.wanted o (yielded ops a.tmps) = true then Oper.wp Try.prog o a w K Q else E := by
  obtain ⟨i0, hi0, hz0, hz1, hz2⟩ := info_parts info_int
  refine step_append_in w hgd s x 22 ho B 3 i0 (.int .i64 0) 1 8 Try.underlying22 hi0 hz0 hz1 hz2 rfl (by decide) v L.length (L.map (Value.int .i64)) hs gr.own A 1 c [.int .i64 y] hx rfl ?_ (one1 _) ?_ (by omega) hB ?_
  · intro j u hj
    rcases j with _ | j <;> simp at hj
    subst hj
    simpa [Addr.add] using hc
  · unfold maxLen; omega
  · intro v9 w9 hown9 hgrow9 hnil9
    exact h v9 w9 (Grow.snoc hown9) hgrow9
theorem cells2 {w w' : World} {B b o1 o2 : Nat} {u v : Value} (hb : Below B w w') (hlt : b < B) (h : w.cell? ⟨b, o1, none⟩ = some u ∧ w.cell? ⟨b, o2, none⟩ = some v) : w'.cell? ⟨b, o1, none⟩ = some u ∧ w'.cell? ⟨b, o2, none⟩ = some v :=
  ⟨(hb.cell (p := ⟨b, o1, none⟩) hlt).trans h.1, (hb.cell (p := ⟨b, o2, none⟩) hlt).trans h.2⟩
def redM (cs : List PCol) (ds : List Int) : List Int := cs.map (fun c => wrap64 (c.c - sumW ds c.s))
theorem redM_step {cs : List PCol} {ds : List Int} {k : Nat} {d : PCol} (hx : cs[k]? = some d) : redM (cs.take (k + 1)) ds = redM (cs.take k) ds ++ [wrap64 (d.c - sumW ds d.s)] := by
  unfold redM; rw [List.take_add_one, hx]; simp

set_option maxHeartbeats 8000000 in
set_option maxRecDepth 100000 in
theorem spec_reducedCosts (A B : Option Addr) (n c q d : Nat) (cs : List PCol) (ds : List Int) (w : World) (hI : ColS w A n cs) (hn : n ≤ 31) (hJ : Ints w B q ds) (hq : q ≤ maxLen) (hm : ∀ x ∈ cs, ∀ p ∈ x.s, 0 ≤ p ∧ p < (q : Int)) :
    Calls Try.prog 90 #[.slice A n c, .slice B q d] w (SliceEnd (redM cs ds) w) := by
  obtain ⟨i0, hi0, hz0, hz1, hz2⟩ := info_parts info_int
  have HL := Lib.hid hI.len
  have HI := Lib.hid hI; clear hI
  have HJ := Lib.hid hJ; clear hJ
  have HM := Lib.hid hm; clear hm
  go_enter Try.func90, Try.ntmps90
  go_wp2_with fail
  go_loopw [5, 6] (fun s5 s6 wr => ∃ (k : Nat) (v : Value), k ≤ n ∧ v = s5 ∧ s6 = .int .i64 k ∧ Hid (Grow wr w.heap.size 3 v (redM (cs.take k) ds)) ∧ Hid (Below w.heap.size w wr)) (fun _ s6 _ => n - (intOf s6).toNat)
  case atStart => exact ⟨0, _, by omega, rfl, rfl, Lib.hid (by simpa [redM] using Grow.lit0 w (Nat.le_refl _) _), by (refine Lib.hid ?_; (repeat' (first | (with_reducible exact Below.refl _ _) | (with_reducible refine belS ?_ (by first | omega | (simp; done) | (simp; omega) | (simp only [World.size_alloc, World.size_setCell, World.size_drew] at *; omega))) | (with_reducible refine belA ?_ (by first | omega | (simp; done) | (simp; omega) | (simp only [World.size_alloc, World.size_setCell, World.size_drew] at *; omega))) | (with_reducible refine bel_drewN ?_ _) | (with_reducible refine Below.drew ?_) | (with_reducible assumption) | (refine Hid.out ?_; with_reducible assumption) | (apply belV; (with_reducible assumption); exact (by first | omega | (simp; done) | (simp; omega) | (simp only [World.size_alloc, World.size_setCell, World.size_drew] at *; omega))))))⟩
  case round =>
    obtain ⟨k, v, hk, rfl, rfl, hgr, hbel⟩ := hrel
    have z0 := hbel.out.size
    by_cases hlt : k < n
    · obtain ⟨b, off, x, A', c', rfl, hbw, hx, hxi, lx, mx, hcc, hw0, hw1⟩ := HI.out.at_ hlt
      have hcw := And.intro hw0 hw1
      obtain ⟨hc0, hc1⟩ := cells2 hbel.out hbw hcw
      have hb : b < wr.heap.size := by omega
      have hxi : Ints wr A' x.s.length x.s := hxi.below hbel.out
      have NX := Lib.hid (redM_step (ds := ds) hx)
      have HV := Lib.hid hxi; clear hxi
      have hm5 : x.s.length ≤ maxLen := Nat.le_trans lx mx
      have HMX := Lib.hid (HM.out x (List.mem_of_getElem? hx))
      have lR : (redM (cs.take k) ds).length = k := by unfold redM; rw [List.length_map, List.length_take, HL.out]; omega
      have LR := Lib.hid lR; clear lR
      clear hx hcc
      have hcd := And.intro hc0 hc1
      obtain ⟨Ag, cg, rfl, hle, hmx⟩ := hgr.out.shape
      go_wp2_with fail
      go_region_held3 (fun w' => w'.cell? ⟨b, off + k * 2, none⟩ = some (.int .i64 x.c) ∧ w'.cell? ⟨b, off + k * 2 + 1, none⟩ = some (.slice A' x.s.length c')) (first | assumption | (simp only [World.cell?_drew, World.cell?_drewN]; assumption))
        ((first
          | (go_at_call 108; refine (spec_sumAtB _ _ _ _ _ _ ds x.s _ (HJ.out.below (by (repeat' (first | (with_reducible exact Below.refl _ _) | (with_reducible refine belS ?_ (by first | omega | (simp; done) | (simp; omega) | (simp only [World.size_alloc, World.size_setCell, World.size_drew] at *; omega))) | (with_reducible refine belA ?_ (by first | omega | (simp; done) | (simp; omega) | (simp only [World.size_alloc, World.size_setCell, World.size_drew] at *; omega))) | (with_reducible refine bel_drewN ?_ _) | (with_reducible refine Below.drew ?_) | (with_reducible assumption) | (refine Hid.out ?_; with_reducible assumption) | (apply belV; (with_reducible assumption); exact (by first | omega | (simp; done) | (simp; omega) | (simp only [World.size_alloc, World.size_setCell, World.size_drew] at *; omega))))))) (HV.out.below (by (repeat' (first | (with_reducible exact Below.refl _ _) | (with_reducible refine belS ?_ (by first | omega | (simp; done) | (simp; omega) | (simp only [World.size_alloc, World.size_setCell, World.size_drew] at *; omega))) | (with_reducible refine belA ?_ (by first | omega | (simp; done) | (simp; omega) | (simp only [World.size_alloc, World.size_setCell, World.size_drew] at *; omega))) | (with_reducible refine bel_drewN ?_ _) | (with_reducible refine Below.drew ?_) | (with_reducible assumption) | (refine Hid.out ?_; with_reducible assumption) | (apply belV; (with_reducible assumption); exact (by first | omega | (simp; done) | (simp; omega) | (simp only [World.size_alloc, World.size_setCell, World.size_drew] at *; omega))))))) hq hm5 HMX.out).mono ?_; rintro e w3 ⟨rfl, hb⟩; have G3 : Hid (Below w.heap.size w w3) := belU hb (by (repeat' (first | (with_reducible exact Below.refl _ _) | (with_reducible refine belS ?_ (by first | omega | (simp; done) | (simp; omega) | (simp only [World.size_alloc, World.size_setCell, World.size_drew] at *; omega))) | (with_reducible refine belA ?_ (by first | omega | (simp; done) | (simp; omega) | (simp only [World.size_alloc, World.size_setCell, World.size_drew] at *; omega))) | (with_reducible refine bel_drewN ?_ _) | (with_reducible refine Below.drew ?_) | (with_reducible assumption) | (refine Hid.out ?_; with_reducible assumption) | (apply belV; (with_reducible assumption); exact (by first | omega | (simp; done) | (simp; omega) | (simp only [World.size_alloc, World.size_setCell, World.size_drew] at *; omega)))))) (by first | omega | (simp; done) | (simp; omega) | (simp only [World.size_alloc, World.size_setCell, World.size_drew] at *; omega)); have z3 := hb.size; (try simp at z3); obtain ⟨hc3, hf3⟩ := bcell hb; have D3 := Lib.hid hb; clear hb; have j0 : w3.cell? ⟨b, off + k * 2, none⟩ = _ := (D3.out.cell (p := ⟨b, off + k * 2, none⟩) (by first | omega | (simp; done) | (simp; omega) | (simp only [World.size_alloc, World.size_setCell, World.size_drew] at *; omega))).trans hc0; have j1 : w3.cell? ⟨b, off + k * 2 + 1, none⟩ = _ := (D3.out.cell (p := ⟨b, off + k * 2 + 1, none⟩) (by first | omega | (simp; done) | (simp; omega) | (simp only [World.size_alloc, World.size_setCell, World.size_drew] at *; omega))).trans hc1; have j2 := And.intro j0 j1; have j3 := (cells2 (Below.alloc (Below.refl w3.heap.size w3) (Nat.le_refl _) (.cells #[.int .i64 (IntKind.i64.wrap (x.c - sumW ds x.s))] 3)) (by omega) j2); have GO3 : Hid (Grow w3 w.heap.size 3 (.slice Ag (redM (cs.take k) ds).length cg) (redM (cs.take k) ds)) := Lib.hid (by (repeat' (first | (with_reducible assumption) | (refine Hid.out ?_; with_reducible assumption) | (with_reducible refine Grow.far ?_ (by first | omega | (simp; done) | (simp; omega) | (simp only [World.size_alloc, World.size_setCell, World.size_drew] at *; omega)) _) | (with_reducible refine Grow.farO ?_ (by first | omega | (simp; done) | (simp; omega) | (simp only [World.size_alloc, World.size_setCell, World.size_drew] at *; omega)) _) | (with_reducible refine Grow.alloc ?_ _) | (with_reducible refine Grow.drewN ?_ _) | (with_reducible refine Grow.drew ?_) | (apply Grow.only; (with_reducible assumption); exact (by first | omega | (simp; done) | (simp; omega) | (simp only [World.size_alloc, World.size_setCell, World.size_drew] at *; omega))) | (apply Grow.belowD; (with_reducible assumption))))); have y3 : w.heap.size ≤ w3.heap.size := G3.out.size)
          | (refine step_push (y := IntKind.i64.wrap (x.c - sumW ds x.s)) rfl (.tmp 14) (.tmp 28) rfl rfl rfl (GO3.out.alloc (.cells #[.int .i64 (IntKind.i64.wrap (x.c - sumW ds x.s))] 3)) (by rw [LR.out]; omega) (by simp [go_sem]) (by simp; omega) ?_; intro v9 w9 hown9 hgrow9; have G9 : Hid (Below w.heap.size w w9) := Lib.hid ((G3.out.alloc y3 _).grown hgrow9 (by simp; omega) (fun j hj => GO3.out.row j hj)); have j9 := cells2 G9.out hbw hcw)))
      all_goals
        have R9 : Hid (Grow w9 w.heap.size 3 v9 (redM (cs.take (k + 1)) ds)) := Lib.hid (by rw [NX.out]; have e : wrap64 (x.c - sumW ds x.s) = IntKind.i64.wrap (x.c - sumW ds x.s) := (by simp [wrap64, IntKind.wrap, IntKind.signed, IntKind.bits]; try omega); rw [e]; exact hown9)
        clear hown9 hgrow9
        go_wp2_with fail
        go_roundw
        case rel => exact ⟨k + 1, _, by omega, rfl, by go_num, R9, G9⟩
        case measure => simp [intOf]; omega
    · have hke : cs.take k = cs := List.take_of_length_le (by rw [HL.out]; omega)
      have HK := Lib.hid hke; clear hke
      have hl1 : (redM cs ds).length = n := by unfold redM; rw [List.length_map, HL.out]
      have HL1 := Lib.hid hl1; clear hl1
      go_wp2_with fail
      go_ret
      refine SliceEnd.grow (L := redM cs ds) (by rw [← HK.out]; exact hgr.out) (Nat.le_refl _) (fun y hy => ?_) (by rw [HL1.out]; omega) hbel.out
      obtain ⟨z, _, rfl⟩ := List.mem_map.1 hy
      exact wrap64_I64 _

set_option maxHeartbeats 4000000 in
set_option maxRecDepth 100000 in
theorem spec_ReducedCosts (m : Int) (A B : Option Addr) (n c q d : Nat) (cs : List PCol) (ds : List Int) (w : World) (hI : ColS w A n cs) (hn : n ≤ maxLen) (hJ : Ints w B q ds) (hq : q ≤ maxLen) :
    Calls Try.prog 39 #[.int .i64 m, .slice A n c, .slice B q d] w (SliceEnd (redV m cs ds) w) := by
  have HL := Lib.hid hI.len
  have HLq := Lib.hid hJ.len
  have HI := Lib.hid hI; clear hI
  have HJ := Lib.hid hJ; clear hJ
  cases h1 : vCols m cs
  · have E := Lib.hid (redV_1 (ds := ds) h1)
    go_enter Try.func39, Try.ntmps39
    go_wp2_with fail
    refine (spec_validColumns m _ _ _ cs _ HI.out hn).mono ?_
    rintro e w1 ⟨rfl, hb⟩
    have G1 : Hid (Below w.heap.size w w1) := belU hb (by (repeat' (first | (with_reducible exact Below.refl _ _) | (with_reducible refine belS ?_ (by first | omega | (simp; done) | (simp; omega) | (simp only [World.size_alloc, World.size_setCell, World.size_drew] at *; omega))) | (with_reducible refine belA ?_ (by first | omega | (simp; done) | (simp; omega) | (simp only [World.size_alloc, World.size_setCell, World.size_drew] at *; omega))) | (with_reducible refine bel_drewN ?_ _) | (with_reducible refine Below.drew ?_) | (with_reducible assumption) | (refine Hid.out ?_; with_reducible assumption) | (apply belV; (with_reducible assumption); exact (by first | omega | (simp; done) | (simp; omega) | (simp only [World.size_alloc, World.size_setCell, World.size_drew] at *; omega)))))) (by first | omega | (simp; done) | (simp; omega) | (simp only [World.size_alloc, World.size_setCell, World.size_drew] at *; omega))
    have z1 := hb.size
    (try simp at z1)
    have D1 := Lib.hid hb; clear hb
    rw [h1]
    go_wp2_with fail
    go_ret
    exact SliceEnd.nil E.out (by (repeat' (first | (with_reducible exact Below.refl _ _) | (with_reducible refine belS ?_ (by first | omega | (simp; done) | (simp; omega) | (simp only [World.size_alloc, World.size_setCell, World.size_drew] at *; omega))) | (with_reducible refine belA ?_ (by first | omega | (simp; done) | (simp; omega) | (simp only [World.size_alloc, World.size_setCell, World.size_drew] at *; omega))) | (with_reducible refine bel_drewN ?_ _) | (with_reducible refine Below.drew ?_) | (with_reducible assumption) | (refine Hid.out ?_; with_reducible assumption) | (apply belV; (with_reducible assumption); exact (by first | omega | (simp; done) | (simp; omega) | (simp only [World.size_alloc, World.size_setCell, World.size_drew] at *; omega))))))
  cases h2 : vDual m ds
  · have E := Lib.hid (redV_2 (cs := cs) h2)
    go_enter Try.func39, Try.ntmps39
    go_wp2_with fail
    refine (spec_validColumns m _ _ _ cs _ HI.out hn).mono ?_
    rintro e w1 ⟨rfl, hb⟩
    have G1 : Hid (Below w.heap.size w w1) := belU hb (by (repeat' (first | (with_reducible exact Below.refl _ _) | (with_reducible refine belS ?_ (by first | omega | (simp; done) | (simp; omega) | (simp only [World.size_alloc, World.size_setCell, World.size_drew] at *; omega))) | (with_reducible refine belA ?_ (by first | omega | (simp; done) | (simp; omega) | (simp only [World.size_alloc, World.size_setCell, World.size_drew] at *; omega))) | (with_reducible refine bel_drewN ?_ _) | (with_reducible refine Below.drew ?_) | (with_reducible assumption) | (refine Hid.out ?_; with_reducible assumption) | (apply belV; (with_reducible assumption); exact (by first | omega | (simp; done) | (simp; omega) | (simp only [World.size_alloc, World.size_setCell, World.size_drew] at *; omega)))))) (by first | omega | (simp; done) | (simp; omega) | (simp only [World.size_alloc, World.size_setCell, World.size_drew] at *; omega))
    have z1 := hb.size
    (try simp at z1)
    have D1 := Lib.hid hb; clear hb
    rw [h1]
    go_wp2_with fail
    refine (spec_validDuals _ _ _ m ds _ (HJ.out.below (by (repeat' (first | (with_reducible exact Below.refl _ _) | (with_reducible refine belS ?_ (by first | omega | (simp; done) | (simp; omega) | (simp only [World.size_alloc, World.size_setCell, World.size_drew] at *; omega))) | (with_reducible refine belA ?_ (by first | omega | (simp; done) | (simp; omega) | (simp only [World.size_alloc, World.size_setCell, World.size_drew] at *; omega))) | (with_reducible refine bel_drewN ?_ _) | (with_reducible refine Below.drew ?_) | (with_reducible assumption) | (refine Hid.out ?_; with_reducible assumption) | (apply belV; (with_reducible assumption); exact (by first | omega | (simp; done) | (simp; omega) | (simp only [World.size_alloc, World.size_setCell, World.size_drew] at *; omega))))))) hq).mono ?_
    rintro e w2 ⟨rfl, hb⟩
    have G2 : Hid (Below w.heap.size w w2) := belU hb (by (repeat' (first | (with_reducible exact Below.refl _ _) | (with_reducible refine belS ?_ (by first | omega | (simp; done) | (simp; omega) | (simp only [World.size_alloc, World.size_setCell, World.size_drew] at *; omega))) | (with_reducible refine belA ?_ (by first | omega | (simp; done) | (simp; omega) | (simp only [World.size_alloc, World.size_setCell, World.size_drew] at *; omega))) | (with_reducible refine bel_drewN ?_ _) | (with_reducible refine Below.drew ?_) | (with_reducible assumption) | (refine Hid.out ?_; with_reducible assumption) | (apply belV; (with_reducible assumption); exact (by first | omega | (simp; done) | (simp; omega) | (simp only [World.size_alloc, World.size_setCell, World.size_drew] at *; omega)))))) (by first | omega | (simp; done) | (simp; omega) | (simp only [World.size_alloc, World.size_setCell, World.size_drew] at *; omega))
    have z2 := hb.size
    (try simp at z2)
    have D2 := Lib.hid hb; clear hb
    rw [h2]
    go_wp2_with fail
    go_ret
    exact SliceEnd.nil E.out (by (repeat' (first | (with_reducible exact Below.refl _ _) | (with_reducible refine belS ?_ (by first | omega | (simp; done) | (simp; omega) | (simp only [World.size_alloc, World.size_setCell, World.size_drew] at *; omega))) | (with_reducible refine belA ?_ (by first | omega | (simp; done) | (simp; omega) | (simp only [World.size_alloc, World.size_setCell, World.size_drew] at *; omega))) | (with_reducible refine bel_drewN ?_ _) | (with_reducible refine Below.drew ?_) | (with_reducible assumption) | (refine Hid.out ?_; with_reducible assumption) | (apply belV; (with_reducible assumption); exact (by first | omega | (simp; done) | (simp; omega) | (simp only [World.size_alloc, World.size_setCell, World.size_drew] at *; omega))))))
  have E : Hid (redV m cs ds = redM cs ds) := redV_3 h1 h2
  obtain ⟨f1, f2, f3⟩ := vCols_facts h1
  have hqm : Hid ((q : Int) = m) := Lib.hid (by have := HLq.out; simp only [vDual, Bool.and_eq_true, decide_eq_true_eq] at h2; omega)
  have h31 : n ≤ 31 := by have := HL.out; omega
  have HM : Hid (∀ x ∈ cs, ∀ p ∈ x.s, 0 ≤ p ∧ p < (q : Int)) := Lib.hid (fun x hx p hp => by
    have := ascB_mem (f3 x hx).2 p hp
    have := hqm.out
    omega)
  clear f2 f3
  go_enter Try.func39, Try.ntmps39
  go_wp2_with fail
  refine (spec_validColumns m _ _ _ cs _ HI.out hn).mono ?_
  rintro e w1 ⟨rfl, hb⟩
  have G1 : Hid (Below w.heap.size w w1) := belU hb (by (repeat' (first | (with_reducible exact Below.refl _ _) | (with_reducible refine belS ?_ (by first | omega | (simp; done) | (simp; omega) | (simp only [World.size_alloc, World.size_setCell, World.size_drew] at *; omega))) | (with_reducible refine belA ?_ (by first | omega | (simp; done) | (simp; omega) | (simp only [World.size_alloc, World.size_setCell, World.size_drew] at *; omega))) | (with_reducible refine bel_drewN ?_ _) | (with_reducible refine Below.drew ?_) | (with_reducible assumption) | (refine Hid.out ?_; with_reducible assumption) | (apply belV; (with_reducible assumption); exact (by first | omega | (simp; done) | (simp; omega) | (simp only [World.size_alloc, World.size_setCell, World.size_drew] at *; omega)))))) (by first | omega | (simp; done) | (simp; omega) | (simp only [World.size_alloc, World.size_setCell, World.size_drew] at *; omega))
  have z1 := hb.size
  (try simp at z1)
  have D1 := Lib.hid hb; clear hb
  rw [h1]
  go_wp2_with fail
  refine (spec_validDuals _ _ _ m ds _ (HJ.out.below (by (repeat' (first | (with_reducible exact Below.refl _ _) | (with_reducible refine belS ?_ (by first | omega | (simp; done) | (simp; omega) | (simp only [World.size_alloc, World.size_setCell, World.size_drew] at *; omega))) | (with_reducible refine belA ?_ (by first | omega | (simp; done) | (simp; omega) | (simp only [World.size_alloc, World.size_setCell, World.size_drew] at *; omega))) | (with_reducible refine bel_drewN ?_ _) | (with_reducible refine Below.drew ?_) | (with_reducible assumption) | (refine Hid.out ?_; with_reducible assumption) | (apply belV; (with_reducible assumption); exact (by first | omega | (simp; done) | (simp; omega) | (simp only [World.size_alloc, World.size_setCell, World.size_drew] at *; omega))))))) hq).mono ?_
  rintro e w2 ⟨rfl, hb⟩
  have G2 : Hid (Below w.heap.size w w2) := belU hb (by (repeat' (first | (with_reducible exact Below.refl _ _) | (with_reducible refine belS ?_ (by first | omega | (simp; done) | (simp; omega) | (simp only [World.size_alloc, World.size_setCell, World.size_drew] at *; omega))) | (with_reducible refine belA ?_ (by first | omega | (simp; done) | (simp; omega) | (simp only [World.size_alloc, World.size_setCell, World.size_drew] at *; omega))) | (with_reducible refine bel_drewN ?_ _) | (with_reducible refine Below.drew ?_) | (with_reducible assumption) | (refine Hid.out ?_; with_reducible assumption) | (apply belV; (with_reducible assumption); exact (by first | omega | (simp; done) | (simp; omega) | (simp only [World.size_alloc, World.size_setCell, World.size_drew] at *; omega)))))) (by first | omega | (simp; done) | (simp; omega) | (simp only [World.size_alloc, World.size_setCell, World.size_drew] at *; omega))
  have z2 := hb.size
  (try simp at z2)
  have D2 := Lib.hid hb; clear hb
  rw [h2]
  go_wp2_with fail
  refine (spec_reducedCosts _ _ _ _ _ _ cs ds _ (HI.out.below (by (repeat' (first | (with_reducible exact Below.refl _ _) | (with_reducible refine belS ?_ (by first | omega | (simp; done) | (simp; omega) | (simp only [World.size_alloc, World.size_setCell, World.size_drew] at *; omega))) | (with_reducible refine belA ?_ (by first | omega | (simp; done) | (simp; omega) | (simp only [World.size_alloc, World.size_setCell, World.size_drew] at *; omega))) | (with_reducible refine bel_drewN ?_ _) | (with_reducible refine Below.drew ?_) | (with_reducible assumption) | (refine Hid.out ?_; with_reducible assumption) | (apply belV; (with_reducible assumption); exact (by first | omega | (simp; done) | (simp; omega) | (simp only [World.size_alloc, World.size_setCell, World.size_drew] at *; omega))))))) h31 (HJ.out.below (by (repeat' (first | (with_reducible exact Below.refl _ _) | (with_reducible refine belS ?_ (by first | omega | (simp; done) | (simp; omega) | (simp only [World.size_alloc, World.size_setCell, World.size_drew] at *; omega))) | (with_reducible refine belA ?_ (by first | omega | (simp; done) | (simp; omega) | (simp only [World.size_alloc, World.size_setCell, World.size_drew] at *; omega))) | (with_reducible refine bel_drewN ?_ _) | (with_reducible refine Below.drew ?_) | (with_reducible assumption) | (refine Hid.out ?_; with_reducible assumption) | (apply belV; (with_reducible assumption); exact (by first | omega | (simp; done) | (simp; omega) | (simp only [World.size_alloc, World.size_setCell, World.size_drew] at *; omega))))))) hq HM.out).mono ?_
  rintro e w3 ⟨A3, c3, rfl, hw, hb⟩
  have G3 : Hid (Below w.heap.size w w3) := belU hb (by (repeat' (first | (with_reducible exact Below.refl _ _) | (with_reducible refine belS ?_ (by first | omega | (simp; done) | (simp; omega) | (simp only [World.size_alloc, World.size_setCell, World.size_drew] at *; omega))) | (with_reducible refine belA ?_ (by first | omega | (simp; done) | (simp; omega) | (simp only [World.size_alloc, World.size_setCell, World.size_drew] at *; omega))) | (with_reducible refine bel_drewN ?_ _) | (with_reducible refine Below.drew ?_) | (with_reducible assumption) | (refine Hid.out ?_; with_reducible assumption) | (apply belV; (with_reducible assumption); exact (by first | omega | (simp; done) | (simp; omega) | (simp only [World.size_alloc, World.size_setCell, World.size_drew] at *; omega)))))) (by first | omega | (simp; done) | (simp; omega) | (simp only [World.size_alloc, World.size_setCell, World.size_drew] at *; omega))
  (try simp only [World.size_alloc, World.size_setCell, World.size_drew, World.heap_drewN] at hw)
  have W3 := Lib.hid hw; clear hw
  have z3 := hb.size
  (try simp at z3)
  have D3 := Lib.hid hb; clear hb
  go_wp2_with fail
  go_ret
  exact SliceEnd.pass E.out W3.out (by first | omega | (simp; done) | (simp; omega) | (simp only [World.size_alloc, World.size_setCell, World.size_drew] at *; omega)) (Nat.le_refl _) (by (repeat' (first | (with_reducible exact Below.refl _ _) | (with_reducible refine belS ?_ (by first | omega | (simp; done) | (simp; omega) | (simp only [World.size_alloc, World.size_setCell, World.size_drew] at *; omega))) | (with_reducible refine belA ?_ (by first | omega | (simp; done) | (simp; omega) | (simp only [World.size_alloc, World.size_setCell, World.size_drew] at *; omega))) | (with_reducible refine bel_drewN ?_ _) | (with_reducible refine Below.drew ?_) | (with_reducible assumption) | (refine Hid.out ?_; with_reducible assumption) | (apply belV; (with_reducible assumption); exact (by first | omega | (simp; done) | (simp; omega) | (simp only [World.size_alloc, World.size_setCell, World.size_drew] at *; omega))))))
end Go.Proofs.Ytppdomoifnokpaa
