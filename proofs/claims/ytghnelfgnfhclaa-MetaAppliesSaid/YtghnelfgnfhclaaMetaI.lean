/-
  Apply, by a contract.
-/
import Derived.Test.YtghnelfgnfhclaaMetaH
namespace Go.Proofs.Ytghnelfgnfhclaa
open Go.RowKit Mem Go.ChangeShapes
set_option linter.unusedVariables false
set_option maxRecDepth 100000

/-- what Apply answers: the table behind the command, of the call's own, and whether it was done -/
def Applied (t : M.T) (c : M.C) (w : World) (e : Ending) (w' : World) : Prop :=
  ∃ v' xs, e = .returned (.tuple #[.agg #[.int .i64 t.nodes, v'], .bool (M.fits t c)]) ∧ OwnXs w' w.heap.size v' xs ∧ xs.map X.r = (M.apply t c).rows ∧ Below w.heap.size w w'
/-- the boxes of Apply: the table, the command, the result -/
structure Boxes (w : World) (h : Nat) (nodes : Int) (v : Value) (K sh nd : Int) (rv : Nat) : Prop where
  tab : w.heap[h]? = some (.cells #[.int .i64 nodes, v] 24 (0, 0))
  cmd : w.heap[h + 1]? = some (.cells #[.int .u8 K, .int .i64 sh, .int .i64 nd, .int .u64 (rv : Int)] 39 (0, 0))
  res : w.heap[h + 2]? = some (.cells #[.int .i64 0, .slice none 0 0] 24 (0, 0))
theorem Boxes.turned {w w' : World} {F : Nat → Prop} {h : Nat} {nodes K sh nd : Int} {v : Value} {rv : Nat} (b : Boxes w h nodes v K sh nd rv) (ht : Turned F w w') (h0 : ¬ F h) (h1 : ¬ F (h + 1)) (h2 : ¬ F (h + 2)) : Boxes w' h nodes v K sh nd rv :=
  ⟨(ht.block h (heapLt b.tab) h0).trans b.tab, (ht.block (h + 1) (heapLt b.cmd) h1).trans b.cmd, (ht.block (h + 2) (heapLt b.res) h2).trans b.res⟩
theorem Boxes.below {w w' : World} {h : Nat} {nodes K sh nd : Int} {v : Value} {rv : Nat} (b : Boxes w h nodes v K sh nd rv) (hb : Below w.heap.size w w') : Boxes w' h nodes v K sh nd rv :=
  b.turned (Turned.of_below (F := fun _ => False) hb) (fun h => h) (fun h => h) (fun h => h)
theorem Boxes.cells {w : World} {h : Nat} {nodes K sh nd : Int} {v : Value} {rv : Nat} (b : Boxes w h nodes v K sh nd rv) :
    (w.cell? ⟨h, 0, none⟩ = some (.int .i64 nodes) ∧ w.cell? ⟨h, 1, none⟩ = some v) ∧ (w.cell? ⟨h + 1, 0, none⟩ = some (.int .u8 K) ∧ w.cell? ⟨h + 1, 1, none⟩ = some (.int .i64 sh) ∧ w.cell? ⟨h + 1, 2, none⟩ = some (.int .i64 nd) ∧ w.cell? ⟨h + 1, 3, none⟩ = some (.int .u64 (rv : Int))) :=
  ⟨⟨cellAt 0 b.tab, cellAt 1 b.tab⟩, cellAt 0 b.cmd, cellAt 1 b.cmd, cellAt 2 b.cmd, cellAt 3 b.cmd⟩
theorem Boxes.resCells {w : World} {h : Nat} {nodes K sh nd : Int} {v : Value} {rv : Nat} (b : Boxes w h nodes v K sh nd rv) :
    (w.cell? ⟨h + 2, 0, none⟩ = some (.int .i64 0) ∧ w.cell? ⟨h + 2, 1, none⟩ = some (.slice none 0 0)) ∧ w.frozen? ⟨h + 2, 0, none⟩ = false ∧ w.frozen? ⟨h + 2, 1, none⟩ = false :=
  ⟨⟨cellAt 0 b.res, cellAt 1 b.res⟩, freeAt 0 b.res, freeAt 1 b.res⟩
/-- a block of a box is none of a table's that lies in other memory -/
theorem Boxes.apart {w : World} {h base : Nat} {nodes K sh nd : Int} {v u : Value} {rv : Nat} {xs : List X} (b : Boxes w h nodes v K sh nd rv) (ho : OwnXs w base u xs) :
    (∀ k, u.ownBlock = some k → k ≠ h ∧ k ≠ h + 1 ∧ k ≠ h + 2) ∧ (∀ x ∈ xs, ∀ k, x.sl.ownBlock = some k → k ≠ h ∧ k ≠ h + 1 ∧ k ≠ h + 2) := by
  refine ⟨fun k hk => ⟨fun e => ?_, fun e => ?_, fun e => ?_⟩, fun x hx k hk => ⟨fun e => ?_, fun e => ?_, fun e => ?_⟩⟩
  · exact block_ne ho.row b.tab (by decide) (by rw [hk, e])
  · exact block_ne ho.row b.cmd (by decide) (by rw [hk, e])
  · exact block_ne ho.row b.res (by decide) (by rw [hk, e])
  · exact block_ne (ho.sl x hx) b.tab (by decide) (by rw [hk, e])
  · exact block_ne (ho.sl x hx) b.cmd (by decide) (by rw [hk, e])
  · exact block_ne (ho.sl x hx) b.res (by decide) (by rw [hk, e])

theorem OwnXs.drewN {w : World} {base : Nat} {v : Value} {xs : List X} (h : OwnXs w base v xs) (q : Nat) : OwnXs (w.drewN q) base v xs :=
  h.turned ((Turned.refl (fun _ => False) w).drewN q) (fun _ _ h => h) (fun _ _ _ _ h => h)
theorem Boxes.drewN {w : World} {h : Nat} {nodes K sh nd : Int} {v : Value} {rv : Nat} (b : Boxes w h nodes v K sh nd rv) (q : Nat) : Boxes (w.drewN q) h nodes v K sh nd rv := ⟨b.tab, b.cmd, b.res⟩
theorem finish {w W : World} {base : Nat} {nodes K sh nd : Int} {v : Value} {rv : Nat} {xs : List X} (b : Boxes W w.heap.size nodes v K sh nd rv) (ho : OwnXs W base v xs) (hb : Below w.heap.size w W) :
    ((W.setCell ⟨w.heap.size + 2, 0, none⟩ (.int .i64 nodes)).setCell ⟨w.heap.size + 2, 1, none⟩ v).heap[w.heap.size + 2]? = some (.cells #[.int .i64 nodes, v] 24 (0, 0)) ∧
    OwnXs ((W.setCell ⟨w.heap.size + 2, 0, none⟩ (.int .i64 nodes)).setCell ⟨w.heap.size + 2, 1, none⟩ v) base v xs ∧
    Below w.heap.size w ((W.setCell ⟨w.heap.size + 2, 0, none⟩ (.int .i64 nodes)).setCell ⟨w.heap.size + 2, 1, none⟩ v) := by
  have hT : Turned (· = w.heap.size + 2) W ((W.setCell ⟨w.heap.size + 2, 0, none⟩ (.int .i64 nodes)).setCell ⟨w.heap.size + 2, 1, none⟩ v) :=
    Turned.setCell (F := (· = w.heap.size + 2)) (Turned.setCell (F := (· = w.heap.size + 2)) (Turned.refl _ W) (p := ⟨w.heap.size + 2, 0, none⟩) (.inl rfl) _) (p := ⟨w.heap.size + 2, 1, none⟩) (.inl rfl) _
  have hap := b.apart ho
  exact ⟨heapSet 1 _ (heapSet 0 _ b.res), ho.turned hT (fun k hk e => (hap.1 k hk).2.2 e) (fun x hx k hk e => (hap.2 x hx k hk).2.2 e),
    (hb.setCell (p := ⟨w.heap.size + 2, 0, none⟩) (Nat.le_add_right _ _) _).setCell (p := ⟨w.heap.size + 2, 1, none⟩) (Nat.le_add_right _ _) _⟩
theorem apply_no {t : M.T} {c : M.C} (h : M.fits t c = false) : M.apply t c = t := by unfold M.apply; rw [h]; rfl
theorem rises_len {top : Int} : ∀ {l : List Int} {last : Int}, last < top → M.rises top last l = true → (l.length : Int) ≤ top - 1 - last := by
  intro l
  induction l with
  | nil => intro last h _; simp; omega
  | cons a l ih =>
    intro last h hr
    rw [M.rises, Bool.and_eq_true, decide_eq_true_eq] at hr
    have := ih hr.1.2 hr.2
    simp
    omega
/-- what a command that fits says of its row -/
theorem fits_yes {t : M.T} {c : M.C} (h : M.fits t c = true) : M.form t = true ∧ (∃ k : Nat, c.shard = (k : Int) ∧ k < t.rows.length) ∧ (0 ≤ c.node ∧ c.node < t.nodes) ∧ (c.rev = (M.row t c).rev ∧ (M.row t c).rev < 1152921504606846976 ∧ (M.row t c).term < 1152921504606846976) ∧ M.does (M.row t c) c = true := by
  unfold M.fits M.place M.turn at h
  simp only [Bool.and_eq_true, decide_eq_true_eq] at h
  obtain ⟨⟨⟨⟨h1, h2⟩, h3⟩, h4⟩, h5⟩ := h
  exact ⟨h1, ⟨c.shard.toNat, by omega, by omega⟩, h3, h4, h5⟩
theorem form_row {t : M.T} {r : M.R} (h : M.form t = true) (hr : r ∈ t.rows) : M.rises t.nodes (-1) r.sync = true ∧ 1 ≤ r.term ∧ r.sync.contains r.prim = true ∧ t.nodes ≤ 5 ∧ 1 ≤ t.nodes := by
  unfold M.form at h
  simp only [Bool.and_eq_true, decide_eq_true_eq, List.all_eq_true] at h
  have := h.2 r hr
  unfold M.rightRow at this
  simp only [Bool.and_eq_true, decide_eq_true_eq] at this
  exact ⟨this.1.1, this.1.2, this.2, h.1.1.2, h.1.1.1⟩
def Sought (zs : List Int) (x : Int) (w : World) (v : Value) (w' : World) : Prop := v = .tuple #[.int .i64 ((M.at_ zs x : Nat) : Int), .bool (zs.contains x)] ∧ ∃ q, w' = w.drewN q
theorem sought_any (B n c : Nat) (A : Option Addr) (zs : List Int) (x : Int) (w : World) (h : RdV w B A n c (ints zs)) (hn : n ≤ 1000000) (hp : zs.Pairwise (· < ·)) :
    Calls Try.prog 31 #[.slice A n c, .int .i64 x] w fun e w' => ∃ v, e = .returned v ∧ Sought zs x w v w' := (search_any B n c A zs x w h hn hp).mono (by
  rintro e w' ⟨rfl, q, rfl⟩
  exact ⟨_, rfl, rfl, q, rfl⟩)

/-- a row of numbers made anew, in place or in a new block -/
def Slid (base gx : Nat) (zs : List Int) (w : World) (v : Value) (w' : World) : Prop :=
  OwnV w' base 3 v (ints zs) ∧ Turned (· = gx) w w' ∧ (v.ownBlock = some gx ∨ ∃ k, v.ownBlock = some k ∧ w.heap.size ≤ k)
theorem slid_any (base g vb n c i c2 : Nat) (zs : List Int) (x : Int) (w : World) (h : OwnV w base 3 (.slice (some ⟨g, 0, none⟩) n c) (ints zs)) (h0 : 0 < n) (hi : i ≤ n) (hn : n ≤ 1000000)
    (hv : w.heap[vb]? = some (.cells #[.int .i64 x] 3 (0, 0))) (hne : vb ≠ g) (hbase : base ≤ w.heap.size) :
    Calls Try.prog 32 #[.slice (some ⟨g, 0, none⟩) n c, .int .i64 (i : Int), .slice (some ⟨vb, 0, none⟩) 1 c2] w fun e w' => ∃ v', e = .returned v' ∧ Slid base g (zs.take i ++ x :: zs.drop i) w v' w' :=
  insert_any base g vb n c i c2 zs x w h h0 hi hn hv hne hbase

set_option maxHeartbeats 4000000 in
theorem apply_any (v : Value) (t : M.T) (c : M.C) (w : World) (h : RdT w w.heap.size v t) (hc : CmdOk c) : Calls Try.prog 17 #[v, cval c] w (Applied t c w) := by
  have hfit := h.fit
  have HFIT := Lib.hid hfit
  have HOK := Lib.hid hc
  obtain ⟨A, n, cap, xs0, rfl, hx, hrows, hnodes⟩ := h
  have HC0 := Lib.hid hx
  have hmax := hx.max; have hcap := hx.cap
  -- the boxes
  obtain ⟨w1, hw1⟩ : ∃ w1, w1 = ((w.alloc (.cells #[.int .i64 t.nodes, .slice A n cap] 24)).alloc (.cells #[.int .u8 (c.kind : Int), .int .i64 c.shard, .int .i64 c.node, .int .u64 (c.rev : Int)] 39)).alloc (.cells #[.int .i64 0, .slice none 0 0] 24) := ⟨_, rfl⟩
  have hb1 : Below w.heap.size w w1 := by rw [hw1]; exact ((bel_alloc' w _).alloc (by simp) _).alloc (by simp; omega) _
  have hs1 : w1.heap.size = w.heap.size + 3 := by rw [hw1]; simp
  have hbx : Boxes w1 w.heap.size t.nodes (.slice A n cap) (c.kind : Int) c.shard c.node c.rev := by
    rw [hw1]
    refine ⟨heapOld (heapOld (heapNew (w := w) _)), ?_, ?_⟩
    · have := heapOld (o := .cells #[.int .i64 0, .slice none 0 0] 24) (heapNew (w := w.alloc (.cells #[.int .i64 t.nodes, .slice A n cap] 24)) (.cells #[.int .u8 (c.kind : Int), .int .i64 c.shard, .int .i64 c.node, .int .u64 (c.rev : Int)] 39))
      simpa using this
    · have := heapNew (w := (w.alloc (.cells #[.int .i64 t.nodes, .slice A n cap] 24)).alloc (.cells #[.int .u8 (c.kind : Int), .int .i64 c.shard, .int .i64 c.node, .int .u64 (c.rev : Int)] 39)) (.cells #[.int .i64 0, .slice none 0 0] 24)
      simpa using this
  have HCP := Lib.hid (copy_any (.agg #[.int .i64 t.nodes, .slice A n cap]) t w1 ⟨A, n, cap, xs0, rfl, (hx.below hb1).more (by omega), hrows, hnodes⟩)
  have HW1 := Lib.hid hw1.symm
  have HB1 := Lib.hid hb1; have HBX := Lib.hid hbx; have HS1 := Lib.hid hs1
  obtain ⟨⟨k0, k1⟩, k2, k3, k4, k5⟩ := hbx.cells
  clear hw1 hb1 hbx hx hs1 hfit
  unfold cval
  go_enter Try.func17, Try.ntmps17
  go_wp2_with fail
  rw [HW1.out]
  refine HCP.out.mono ?_
  rintro e w2 ⟨v1, xs, rfl, hown, hrow, hb2⟩
  obtain ⟨A1, c1, hv1, hc1, hm1⟩ := row_form hown.row
  subst hv1
  have hbx2 := HBX.out.below hb2
  obtain ⟨⟨k0, k1⟩, k2, k3, k4, k5⟩ := hbx2.cells
  have hf0 := freeAt 0 hbx2.tab
  have hf1 := freeAt 1 hbx2.tab
  -- behind the store
  obtain ⟨w3, hw3⟩ : ∃ w3, w3 = (w2.setCell ⟨w.heap.size, 0, none⟩ (.int .i64 t.nodes)).setCell ⟨w.heap.size, 1, none⟩ (.slice A1 xs.length c1) := ⟨_, rfl⟩
  have hT3 : Turned (· = w.heap.size) w2 w3 := by rw [hw3]; exact Turned.setCell (F := (· = w.heap.size)) (Turned.setCell (F := (· = w.heap.size)) (Turned.refl _ w2) (p := ⟨w.heap.size, 0, none⟩) (.inl rfl) _) (p := ⟨w.heap.size, 1, none⟩) (.inl rfl) _
  have hap := hbx2.apart hown
  have hown3 : OwnXs w3 w1.heap.size (.slice A1 xs.length c1) xs := hown.turned hT3 (fun k hk e => (hap.1 k hk).1 e) (fun x hx k hk e => (hap.2 x hx k hk).1 e)
  have hbx3 : Boxes w3 w.heap.size t.nodes (.slice A1 xs.length c1) (c.kind : Int) c.shard c.node c.rev := by
    refine ⟨?_, (hT3.block (w.heap.size + 1) (heapLt hbx2.cmd) (by omega)).trans hbx2.cmd, (hT3.block (w.heap.size + 2) (heapLt hbx2.res) (by omega)).trans hbx2.res⟩
    rw [hw3]
    exact heapSet 1 _ (heapSet 0 _ hbx2.tab)
  have hb3 : Below w.heap.size w w3 := by
    rw [hw3]
    exact ((bel_on HB1.out hb2).setCell (p := ⟨w.heap.size, 0, none⟩) (Nat.le_refl _) _).setCell (p := ⟨w.heap.size, 1, none⟩) (Nat.le_refl _) _
  have hrd3 := rdt_of_own hown3 hrow HFIT.out
  have HF := Lib.hid (fits_any _ t c w3 hrd3 HOK.out)
  unfold cval at HF
  have HW3 := Lib.hid hw3.symm
  have HBX3 := Lib.hid hbx3; have HOWN3 := Lib.hid hown3; have HB3 := Lib.hid hb3; have HROW := Lib.hid hrow
  obtain ⟨⟨m0, m1⟩, m2, m3, m4, m5⟩ := hbx3.cells
  have hls : w.heap.size + 3 ≤ w3.heap.size := by have := heapLt hbx3.res; omega
  rw [hw3] at m0 m1 m2 m3 m4 m5
  have HCAPS := Lib.hid (show xs.length ≤ c1 ∧ c1 ≤ 9223372036854775807 from ⟨hc1, hm1⟩)
  clear hw3 hT3 hap hown3 hbx3 hb3 hrd3 hown hb2 hbx2 HCP hrow
  obtain ⟨n1, hn1⟩ : ∃ n1, n1 = xs.length := ⟨_, rfl⟩
  rw [← hn1] at HF HW3 HBX3 HOWN3 m1 hc1 HCAPS ⊢
  have HN1 := Lib.hid hn1
  simp only [← hn1] at m0 m2 m3 m4 m5
  clear hn1
  go_wp2_with fail
  rw [HW3.out]
  refine HF.out.mono ?_
  rintro e w4 ⟨rfl, hb4⟩
  have hbx4 := HBX3.out.below hb4
  have hown4 := HOWN3.out.below hb4
  have HBX4 := Lib.hid hbx4; have HOWN4 := Lib.hid hown4; have HB4 := Lib.hid (bel_on HB3.out hb4)
  obtain ⟨⟨q0, q1⟩, q2, q3, q4, q5⟩ := hbx4.cells
  obtain ⟨⟨p0, p1⟩, pf0, pf1⟩ := hbx4.resCells
  clear m0 m1 m2 m3 m4 m5 k0 k1 k2 k3 k4 k5 hf0 hf1 hb4 hbx4 hown4 HF HW3 hls
  cases hfits : M.fits t c with
  | false =>
    obtain ⟨hfin1, hfin2, hfin3⟩ := finish HBX4.out HOWN4.out HB4.out
    have HFIN1 := Lib.hid hfin1; have HFIN2 := Lib.hid hfin2; have HFIN3 := Lib.hid hfin3
    have HFT := Lib.hid hfits
    clear hfin1 hfin2 hfin3 hfits
    go_wp2
    refine bodyPost_ret (results_row2 rfl _ _ (w.heap.size + 2) 24 #[.int .i64 t.nodes, .slice A1 n1 c1] (0, 0) _ rfl HFIN1.out Try.underlying24 rfl Try.tabSize) rfl ?_
    exact ⟨_, xs, by rw [HFT.out]; rfl, HFIN2.out.less HB1.out.size, by rw [apply_no HFT.out]; exact HROW.out, HFIN3.out⟩
  | true =>
    obtain ⟨hform, ⟨k, hk, hkl⟩, hnode, hrv, hdoes⟩ := fits_yes hfits
    have hkx : k < xs.length := by rw [← HROW.out, List.length_map] at hkl; exact hkl
    have hkn : k < n1 := by rw [HN1.out]; exact hkx
    have hre := row_at (c := c) HROW.out hk hkx
    have hrm : xs[k].r ∈ t.rows := by rw [← HROW.out]; exact List.mem_map_of_mem (List.getElem_mem hkx)
    obtain ⟨hri, hr1, hrc, hn5, hn1'⟩ := form_row hform hrm
    have hfx := HFIT.out.2.2 _ hrm
    have HXO := Lib.hid (HOWN4.out.sl xs[k] (List.getElem_mem hkx))
    obtain ⟨g, rfl⟩ := HOWN4.out.some_ (by omega)
    have hat := at4_of_row (by have := HOWN4.out.row; rw [← HN1.out] at this; exact (HN1.out ▸ HOWN4.out.row)) hkx
    obtain ⟨x, hxe⟩ : ∃ x, xs[k] = x := ⟨_, rfl⟩
    have HXK := Lib.hid hxe
    rw [hxe] at hre hrm hri hr1 hrc hfx hat HXO
    rw [hre] at hrv hdoes
    have hpair := M.rises_pair hri
    have hlen5 : (x.r.sync.length : Int) ≤ 5 := by have := rises_len (by omega) hri; omega
    obtain ⟨⟨rev, term, prim, sync⟩, a, m, cc⟩ := x
    simp only at hrv hri hr1 hrc hlen5 hpair
    have hml : m = sync.length := by have := HXO.out.len; rw [ints_len] at this; exact this
    have hm0 : 0 < m := by
      rw [hml]
      cases sync with
      | nil => simp at hrc
      | cons _ _ => simp
    obtain ⟨gx, curx, rfl, hgx1, hgx2, hgx3, hgx4, -, -, -⟩ := HXO.out.heapOf hm0
    have hsk := sought_any w4.heap.size m cc (some ⟨gx, 0, none⟩) sync c.node w4.drew HXO.out.rd (by omega) hpair
    have HSK := Lib.hid hsk
    have HRE := Lib.hid hre; have HDO := Lib.hid hdoes; have HRV := Lib.hid hrv; have HPA := Lib.hid hpair; have HHK := Lib.hid hk; have HRI := Lib.hid hri
    have HML := Lib.hid hml; have HFT := Lib.hid hfits
    have HGX := Lib.hid hgx2
    rw [hk] at q3
    obtain ⟨K, hK⟩ : ∃ K : Int, (c.kind : Int) = K := ⟨_, rfl⟩
    have HKK := Lib.hid hK
    rw [hK] at q2
    obtain ⟨node, hnd⟩ : ∃ node, c.node = node := ⟨_, rfl⟩
    have HND := Lib.hid hnd
    rw [hnd] at q4 HSK
    have hb63 : -9223372036854775808 ≤ node ∧ node ≤ 9223372036854775807 := by rw [← hnd]; omega
    obtain ⟨z0, z1, z2, z3⟩ := hat
    rw [Nat.zero_add] at z0 z1 z2 z3
    simp only at z0 z1 z2 z3
    obtain ⟨-, -, curg, hcur⟩ := HOWN4.out.block
    have HCUR := Lib.hid hcur
    have hgl := heapLt hcur
    have hfg : ∀ j, w4.frozen? ⟨g, j, none⟩ = false := fun j => freeAt j hcur
    have zf0 := hfg (k * 4); have zf1 := hfg (k * 4 + 1); have zf2 := hfg (k * 4 + 2); have zf3 := hfg (k * 4 + 3)
    have hkn2 : (k : Int) < (n1 : Int) := by omega
    have hrw1 : IntKind.u64.wrap ((rev : Int) + 1) = (rev : Int) + 1 := by simp [IntKind.wrap, IntKind.signed, IntKind.bits]; omega
    have hrw2 : IntKind.u64.wrap ((term : Int) + 1) = (term : Int) + 1 := by simp [IntKind.wrap, IntKind.signed, IntKind.bits]; omega
    clear hfits hform hkl hnode hrv hdoes hre hrm hri hrc hpair hk hK hnd hsk hml hxe hgx2 hcur hfg
    go_wp2_with fail
    go_region_law (first
      | (refine step_call (by rfl) 31 #[.slice (some ⟨gx, 0, none⟩) m cc, .int .i64 node] (by simp [Act.eval, go_sem]) (fun v => v) (Sought sync node _) HSK.out ?_; rintro v5 w5 ⟨rfl, q5', rfl⟩))
    all_goals
      obtain ⟨w5, hw5⟩ : ∃ w5, w5 = w4.drewN (1 + q5') := ⟨_, rfl⟩
      have hbx5 := HBX4.out.drewN (1 + q5')
      have hown5 := HOWN4.out.drewN (1 + q5')
      have hb5 : Below w.heap.size w (w4.drewN (1 + q5')) := ⟨HB4.out.os, HB4.out.tape, HB4.out.output, HB4.out.size, HB4.out.block⟩
      have hcur5 : (w4.drewN (1 + q5')).heap[g]? = some (.cells curg 42 (0, 0)) := HCUR.out
      have hgx5 : (w4.drewN (1 + q5')).heap[gx]? = some (.cells curx 3 (0, 0)) := HGX.out
      have hrow5 := hown5.row
      rw [← HN1.out] at hrow5
      have hat5 := at4_of_row (HN1.out ▸ hown5.row) hkx
      rw [HXK.out] at hat5
      rw [← hw5] at hbx5 hown5 hb5 hcur5 hat5 hgx5 ⊢
      have HBX5 := Lib.hid hbx5; have HOWN5 := Lib.hid hown5; have HB5 := Lib.hid hb5; have HC5 := Lib.hid hcur5; have HGX5 := Lib.hid hgx5
      rw [HKK.out, HND.out] at HBX5 hbx5
      rw [HHK.out] at hbx5
      have hmem : decide (node ∈ sync) = sync.contains node := by simp [List.contains_eq_mem]
      clear q0 q1 q2 q3 q4 q5 p0 p1 pf0 pf1 z0 z1 z2 z3 zf0 zf1 zf2 zf3 hw5 hown5 hb5 hrow5 hmem
      obtain ⟨⟨q0, q1⟩, q2, q3, q4, q5⟩ := hbx5.cells
      obtain ⟨⟨p0, p1⟩, pf0, pf1⟩ := hbx5.resCells
      obtain ⟨z0, z1, z2, z3⟩ := hat5
      rw [Nat.zero_add] at z0 z1 z2 z3
      simp only at z0 z1 z2 z3
      have zf0 := freeAt (k * 4) hcur5
      have zf1 := freeAt (k * 4 + 1) hcur5
      have zf2 := freeAt (k * 4 + 2) hcur5
      have zf3 := freeAt (k * 4 + 3) hcur5
      obtain ⟨i, hi⟩ : ∃ i, M.at_ sync node = i := ⟨_, rfl⟩
      have HI := Lib.hid hi
      have him : i ≤ m := by rw [← hi, HML.out]; exact M.at_le _ _
      generalize decide (node ∈ sync) = dn at *
      rw [hi]
      have hK3 : K = 1 ∨ K = 2 ∨ K = 3 := by
        have h1 := HDO.out
        have h2 := HKK.out
        unfold M.does at h1
        split at h1
        · left; omega
        · right; left; omega
        · right; right; omega
        · cases h1
      clear hi hbx5 hcur5 hgx5
      obtain ⟨ng0, ng1, ng2⟩ : g ≠ w.heap.size ∧ g ≠ w.heap.size + 1 ∧ g ≠ w.heap.size + 2 := ((HBX4.out.apart HOWN4.out).1 g rfl)
      have ng0' : ¬ w.heap.size = g := fun e => ng0 e.symm
      have ng1' : ¬ w.heap.size + 1 = g := fun e => ng1 e.symm
      have ng2' : ¬ w.heap.size + 2 = g := fun e => ng2 e.symm
      have ng3' : ¬ w.heap.size + 1 + 1 = g := fun e => ng2 e.symm
      have hgb : w.heap.size ≤ g := by have := HOWN4.out.block.2.1; have := HB1.out.size; omega
      have HROWS := Lib.hid (show ∀ y : X, y.r = M.next (M.row t c) c → (xs.set k y).map X.r = (M.apply t c).rows from fun y hy => by
        unfold M.apply
        rw [if_pos HFT.out, List.map_set, hy, HROW.out, HHK.out]
        rfl)
      rcases hK3 with rfl | rfl | rfl
      · -- made the first one
        have ho6 := HOWN5.out.put (k := k) (j := 1) (y := ⟨⟨rev, term + 1, prim, sync⟩, some ⟨gx, 0, none⟩, m, cc⟩) (u := .int .u64 ((term : Int) + 1)) hkx (by omega) (by rw [HXK.out]; rfl) (by rw [HXK.out]) (by rw [HXK.out])
        have ho7 := ho6.put (k := k) (j := 2) (y := ⟨⟨rev, term + 1, node, sync⟩, some ⟨gx, 0, none⟩, m, cc⟩) (u := .int .i64 node) (by simpa using hkx) (by omega) (by simp [X.cells]) (by simp) (by simp)
        have ho8 := ho7.put (k := k) (j := 0) (y := ⟨⟨rev + 1, term + 1, node, sync⟩, some ⟨gx, 0, none⟩, m, cc⟩) (u := .int .u64 ((rev : Int) + 1)) (by simpa using hkx) (by omega) (by simp [X.cells]) (by simp) (by simp)
        rw [List.set_set, List.set_set, Nat.add_zero] at ho8
        have hT8 : Turned (· = g) w5 (((w5.setCell ⟨g, k * 4 + 1, none⟩ (.int .u64 ((term : Int) + 1))).setCell ⟨g, k * 4 + 2, none⟩ (.int .i64 node)).setCell ⟨g, k * 4, none⟩ (.int .u64 ((rev : Int) + 1))) :=
          Turned.setCell (F := (· = g)) (Turned.setCell (F := (· = g)) (Turned.setCell (F := (· = g)) (Turned.refl _ w5) (p := ⟨g, k * 4 + 1, none⟩) (.inl rfl) _) (p := ⟨g, k * 4 + 2, none⟩) (.inl rfl) _) (p := ⟨g, k * 4, none⟩) (.inl rfl) _
        have hb8 := ((HB5.out.setCell (p := ⟨g, k * 4 + 1, none⟩) hgb (.int .u64 ((term : Int) + 1))).setCell (p := ⟨g, k * 4 + 2, none⟩) hgb (.int .i64 node)).setCell (p := ⟨g, k * 4, none⟩) hgb (.int .u64 ((rev : Int) + 1))
        have hbx8 := HBX5.out.turned hT8 ng0' ng1' ng2'
        obtain ⟨hfin1, hfin2, hfin3⟩ := finish hbx8 ho8 hb8
        have HFIN1 := Lib.hid hfin1; have HFIN2 := Lib.hid hfin2; have HFIN3 := Lib.hid hfin3
        have HRR := Lib.hid (HROWS.out ⟨⟨rev + 1, term + 1, node, sync⟩, some ⟨gx, 0, none⟩, m, cc⟩ (by
          have : c.kind = 1 := by have := HKK.out; omega
          rw [HRE.out]; unfold M.next; rw [this, HND.out]; rfl))
        clear hfin1 hfin2 hfin3 ho6 ho7 ho8 hT8 hb8 hbx8
        go_wp2
        refine bodyPost_ret (results_row2 rfl _ _ (w.heap.size + 2) 24 #[.int .i64 t.nodes, .slice (some ⟨g, 0, none⟩) n1 c1] (0, 0) _ rfl HFIN1.out Try.underlying24 rfl Try.tabSize) rfl ?_
        exact ⟨_, _, by rw [HFT.out]; rfl, HFIN2.out.less HB1.out.size, HRR.out, HFIN3.out⟩
      · -- added
        have hgg : g ≠ gx := fun e => HOWN5.out.ne xs[k] (List.getElem_mem hkx) (by rw [HXK.out, e]; rfl)
        have hgg' : ¬ gx = g := fun e => hgg e.symm
        obtain ⟨Wd, hWd⟩ : ∃ Wd, Wd = (w5.alloc (.cells #[.int .i64 node] 3)).drew := ⟨_, rfl⟩
        have hTd : Turned (fun _ => False) w5 Wd := by rw [hWd]; exact ((Turned.refl _ w5).alloc _).drew
        have hownd : OwnXs Wd w1.heap.size (.slice (some ⟨g, 0, none⟩) n1 c1) xs := HOWN5.out.turned hTd (fun _ _ h => h) (fun _ _ _ _ h => h)
        have hbxd := HBX5.out.turned hTd (fun h => h) (fun h => h) (fun h => h)
        have hcgd : Wd.heap[g]? = some (.cells curg 42 (0, 0)) := (hTd.block g (heapLt HC5.out) (fun h => h)).trans HC5.out
        have hbd : Below w.heap.size w Wd := by rw [hWd]; have h := HB5.out.alloc HB5.out.size (.cells #[.int .i64 node] 3); exact ⟨h.os, h.tape, h.output, h.size, h.block⟩
        have hxd := hownd.sl xs[k] (List.getElem_mem hkx)
        rw [HXK.out] at hxd
        have hvb : Wd.heap[w5.heap.size]? = some (.cells #[.int .i64 node] 3 (0, 0)) := by rw [hWd]; exact heapNew (w := w5) _
        have hgx5l : gx < w5.heap.size := heapLt HGX5.out
        obtain ⟨zz, hzz⟩ : ∃ zz, zz = sync.take i ++ node :: sync.drop i := ⟨_, rfl⟩
        have HZZ := Lib.hid hzz
        have hins := slid_any w1.heap.size gx w5.heap.size m cc i 1 sync node Wd hxd hm0 him (by have := HML.out; omega) hvb (by omega) (by have := hownd.block.2.1; have := heapLt hcgd; omega)
        rw [← hzz, hWd] at hins
        have HINS := Lib.hid hins; have HOWND := Lib.hid hownd; have HBXD := Lib.hid hbxd; have HCGD := Lib.hid hcgd; have HBD := Lib.hid hbd; have HWD := Lib.hid hWd
        have hsz5 : w.heap.size + 3 ≤ w5.heap.size := by have := heapLt HBX5.out.res; omega
        have hglt : g < w5.heap.size := heapLt HC5.out
        clear hTd hownd hbxd hcgd hbd hxd hvb hWd hins hzz
        go_wp2_with fail
        go_region_law (first
          | (refine step_call (by rfl) 32 #[.slice (some ⟨gx, 0, none⟩) m cc, .int .i64 (i : Int), .slice (some ⟨w5.heap.size, 0, none⟩) 1 1] (by simp [Act.eval, go_sem]) (fun v => v) (Slid w1.heap.size gx zz _) HINS.out ?_; rintro v6 w6 ⟨hown6, ht6, hat6⟩
             obtain ⟨A6, k6, e6, _, _⟩ := hown6.form
             subst e6
             rw [← HWD.out] at ht6 hat6
             rw [ints_len] at hown6 hat6
             have hcg6 := (ht6.block g (heapLt HCGD.out) hgg).trans HCGD.out
             have y3 : w6.cell? ⟨g, k * 4 + 3, none⟩ = some (.slice (some ⟨gx, 0, none⟩) m cc) := by
               have h1 : Wd.cell? ⟨g, k * 4 + 3, none⟩ = some (.slice (some ⟨gx, 0, none⟩) m cc) := by
                 rw [HWD.out]
                 exact (World.cell?_alloc_lt w5 _ _ (by exact hglt)).trans z3
               exact (ht6.cell (p := ⟨g, k * 4 + 3, none⟩) (heapLt HCGD.out) hgg).trans h1
             have y0 : w6.cell? ⟨g, k * 4, none⟩ = some (.int .u64 (rev : Int)) := by
               have h1 : Wd.cell? ⟨g, k * 4, none⟩ = some (.int .u64 (rev : Int)) := by
                 rw [HWD.out]
                 exact (World.cell?_alloc_lt w5 _ _ (by exact hglt)).trans z0
               exact (ht6.cell (p := ⟨g, k * 4, none⟩) (heapLt HCGD.out) hgg).trans h1
             have yf3 : w6.frozen? ⟨g, k * 4 + 3, none⟩ = false := freeAt _ hcg6
             have yf0 : w6.frozen? ⟨g, k * 4, none⟩ = false := freeAt _ hcg6
             have hgx0 : gx ≠ w.heap.size ∧ gx ≠ w.heap.size + 1 ∧ gx ≠ w.heap.size + 2 := (HBX5.out.apart HOWN5.out).2 xs[k] (List.getElem_mem hkx) gx (by rw [HXK.out]; rfl)
             have hbx6 := HBXD.out.turned ht6 (fun e => hgx0.1 e.symm) (fun e => hgx0.2.1 e.symm) (fun e => hgx0.2.2 e.symm)
             have hb6 : Below w.heap.size w w6 := HBD.out.trans (Turned.below (F := (· = gx)) ht6 HBD.out.size (fun q e => by have := HB1.out.size; omega))
             have hbx6' := hbx6
             rw [HHK.out] at hbx6'
             obtain ⟨⟨y10, y11⟩, y12, y13, y14, y15⟩ := hbx6'.cells
             obtain ⟨⟨y20, y21⟩, y22, y23⟩ := hbx6'.resCells
             have HOWN6 := Lib.hid hown6; have HT6 := Lib.hid ht6; have HAT6 := Lib.hid hat6; have HBX6 := Lib.hid hbx6; have HB6 := Lib.hid hb6
             clear hown6 ht6 hat6 hbx6 hbx6' hb6 hcg6))
        all_goals
          have hgxo : xs[k].sl.ownBlock = some gx := by rw [HXK.out]; rfl
          have ho7 := OwnXs.reslice (y := ⟨⟨rev, term, prim, zz⟩, A6, zz.length, k6⟩) HOWND.out hkx hgxo HT6.out HOWN6.out HAT6.out (by rw [HXK.out]; rfl)
          have ho8 := ho7.put (k := k) (j := 0) (y := ⟨⟨rev + 1, term, prim, zz⟩, A6, zz.length, k6⟩) (u := .int .u64 ((rev : Int) + 1)) (by simpa using hkx) (by omega) (by simp [X.cells]) (by simp) (by simp)
          rw [List.set_set, Nat.add_zero] at ho8
          have hT8 : Turned (· = g) w6 ((w6.setCell ⟨g, k * 4 + 3, none⟩ (.slice A6 zz.length k6)).setCell ⟨g, k * 4, none⟩ (.int .u64 ((rev : Int) + 1))) :=
            Turned.setCell (F := (· = g)) (Turned.setCell (F := (· = g)) (Turned.refl _ w6) (p := ⟨g, k * 4 + 3, none⟩) (.inl rfl) _) (p := ⟨g, k * 4, none⟩) (.inl rfl) _
          have hb8 := (HB6.out.setCell (p := ⟨g, k * 4 + 3, none⟩) hgb (.slice A6 zz.length k6)).setCell (p := ⟨g, k * 4, none⟩) hgb (.int .u64 ((rev : Int) + 1))
          have hbx8 := HBX6.out.turned hT8 ng0' ng1' ng2'
          obtain ⟨hfin1, hfin2, hfin3⟩ := finish hbx8 ho8 hb8
          have HFIN1 := Lib.hid hfin1; have HFIN2 := Lib.hid hfin2; have HFIN3 := Lib.hid hfin3
          have HRR := Lib.hid (HROWS.out ⟨⟨rev + 1, term, prim, zz⟩, A6, zz.length, k6⟩ (by
            have : c.kind = 2 := by have := HKK.out; omega
            rw [HRE.out]; unfold M.next M.ins; rw [this, HND.out, HZZ.out, ← HI.out]; rfl))
          clear hfin1 hfin2 hfin3 ho7 ho8 hT8 hb8 hbx8 hgxo q0 q1 q2 q3 q4 q5 p0 p1 pf0 pf1 z0 z1 z2 z3 zf0 zf1 zf2 zf3
          go_wp2
          refine bodyPost_ret (results_row2 rfl _ _ (w.heap.size + 2) 24 #[.int .i64 t.nodes, .slice (some ⟨g, 0, none⟩) n1 c1] (0, 0) _ rfl HFIN1.out Try.underlying24 rfl Try.tabSize) rfl ?_
          exact ⟨_, _, by rw [HFT.out]; rfl, HFIN2.out.less HB1.out.size, HRR.out, HFIN3.out⟩
      · -- removed
        have hgg : g ≠ gx := fun e => HOWN5.out.ne xs[k] (List.getElem_mem hkx) (by rw [HXK.out, e]; rfl)
        have hgg' : ¬ gx = g := fun e => hgg e.symm
        have hx5 := HOWN5.out.sl xs[k] (List.getElem_mem hkx)
        rw [HXK.out] at hx5
        have hmem : node ∈ sync := by
          have h1 := HDO.out
          have h2 : c.kind = 3 := by have := HKK.out; omega
          unfold M.does at h1
          rw [h2, HND.out] at h1
          simp only [Bool.and_eq_true] at h1
          simpa using h1.1
        have hilt : i < m := by have := M.at_lt HPA.out hmem; rw [HI.out] at this; have := HML.out; omega
        obtain ⟨zz, hzz⟩ : ∃ zz, zz = sync.take i ++ sync.drop (i + 1) := ⟨_, rfl⟩
        have HZZ := Lib.hid hzz
        have hdel := delete_any w1.heap.size gx m cc i sync w5 hx5 hilt
        rw [← hzz, show ((i + 1 : Nat) : Int) = (i : Int) + 1 from rfl] at hdel
        have HDEL := Lib.hid hdel
        have hsz5 : w.heap.size + 3 ≤ w5.heap.size := by have := heapLt HBX5.out.res; omega
        have hglt : g < w5.heap.size := heapLt HC5.out
        have hi5 : i ≤ 5 := by have := HML.out; omega
        clear hx5 hmem hzz hdel
        go_wp2_with fail
        refine HDEL.out.mono ?_
        rintro e w6 ⟨rfl, hown6, ht6⟩
        have hcg6 := (ht6.block g (heapLt HC5.out) hgg).trans HC5.out
        have y3 := (ht6.cell (p := ⟨g, k * 4 + 3, none⟩) hglt hgg).trans z3
        have y0 := (ht6.cell (p := ⟨g, k * 4, none⟩) hglt hgg).trans z0
        have yf3 : w6.frozen? ⟨g, k * 4 + 3, none⟩ = false := freeAt _ hcg6
        have yf0 : w6.frozen? ⟨g, k * 4, none⟩ = false := freeAt _ hcg6
        have hgx0 : gx ≠ w.heap.size ∧ gx ≠ w.heap.size + 1 ∧ gx ≠ w.heap.size + 2 := (HBX5.out.apart HOWN5.out).2 xs[k] (List.getElem_mem hkx) gx (by rw [HXK.out]; rfl)
        have hbx6 := HBX5.out.turned ht6 (fun e => hgx0.1 e.symm) (fun e => hgx0.2.1 e.symm) (fun e => hgx0.2.2 e.symm)
        have hb6 : Below w.heap.size w w6 := HB5.out.trans (Turned.below (F := (· = gx)) ht6 HB5.out.size (fun q e => by have := HB1.out.size; omega))
        have hbx6' := hbx6
        rw [HHK.out] at hbx6'
        obtain ⟨⟨y10, y11⟩, y12, y13, y14, y15⟩ := hbx6'.cells
        obtain ⟨⟨y20, y21⟩, y22, y23⟩ := hbx6'.resCells
        have hgxo : xs[k].sl.ownBlock = some gx := by rw [HXK.out]; rfl
        have ho7 := OwnXs.reslice (y := ⟨⟨rev, term, prim, zz⟩, some ⟨gx, 0, none⟩, m - 1, cc⟩) HOWN5.out hkx hgxo ht6 hown6 (.inl rfl) (by rw [HXK.out]; rfl)
        have ho8 := ho7.put (k := k) (j := 0) (y := ⟨⟨rev + 1, term, prim, zz⟩, some ⟨gx, 0, none⟩, m - 1, cc⟩) (u := .int .u64 ((rev : Int) + 1)) (by simpa using hkx) (by omega) (by simp [X.cells]) (by simp) (by simp)
        rw [List.set_set, Nat.add_zero] at ho8
        have hT8 : Turned (· = g) w6 ((w6.setCell ⟨g, k * 4 + 3, none⟩ (.slice (some ⟨gx, 0, none⟩) (m - 1) cc)).setCell ⟨g, k * 4, none⟩ (.int .u64 ((rev : Int) + 1))) :=
          Turned.setCell (F := (· = g)) (Turned.setCell (F := (· = g)) (Turned.refl _ w6) (p := ⟨g, k * 4 + 3, none⟩) (.inl rfl) _) (p := ⟨g, k * 4, none⟩) (.inl rfl) _
        have hb8 := (hb6.setCell (p := ⟨g, k * 4 + 3, none⟩) hgb (.slice (some ⟨gx, 0, none⟩) (m - 1) cc)).setCell (p := ⟨g, k * 4, none⟩) hgb (.int .u64 ((rev : Int) + 1))
        have hbx8 := hbx6.turned hT8 ng0' ng1' ng2'
        obtain ⟨hfin1, hfin2, hfin3⟩ := finish hbx8 ho8 hb8
        have HFIN1 := Lib.hid hfin1; have HFIN2 := Lib.hid hfin2; have HFIN3 := Lib.hid hfin3
        have HRR := Lib.hid (HROWS.out ⟨⟨rev + 1, term, prim, zz⟩, some ⟨gx, 0, none⟩, m - 1, cc⟩ (by
          have : c.kind = 3 := by have := HKK.out; omega
          rw [HRE.out]; unfold M.next M.del; rw [this, HND.out, HZZ.out, ← HI.out]; rfl))
        generalize m - 1 = m1 at *
        clear hfin1 hfin2 hfin3 ho7 ho8 hT8 hb8 hbx8 hgxo q0 q1 q2 q3 q4 q5 p0 p1 pf0 pf1 z0 z1 z2 z3 zf0 zf1 zf2 zf3 hown6 ht6 hbx6 hbx6' hb6 hcg6
        go_wp2
        refine bodyPost_ret (results_row2 rfl _ _ (w.heap.size + 2) 24 #[.int .i64 t.nodes, .slice (some ⟨g, 0, none⟩) n1 c1] (0, 0) _ rfl HFIN1.out Try.underlying24 rfl Try.tabSize) rfl ?_
        exact ⟨_, _, by rw [HFT.out]; rfl, HFIN2.out.less HB1.out.size, HRR.out, HFIN3.out⟩
end Go.Proofs.Ytghnelfgnfhclaa
