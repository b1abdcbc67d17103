/-
  Copy, by a contract.
-/
import Derived.Test.YtghnelfgnfhclaaMetaE
namespace Go.Proofs.Ytghnelfgnfhclaa
open Go.RowKit Mem Go.ChangeShapes
set_option linter.unusedVariables false
set_option maxRecDepth 100000

section
variable {P : Program}
theorem results_row1 {fn : Func} {p : Tmp} {ty : TypeId} (h : fn.results = #[.cell p ty]) (tmps : Array Value) (w : World) (g : Nat) (t : TypeId) (cs : Array Value) (fr : Nat × Nat) (d : TypeDesc)
    (hp : tmps.getD p undef = .pointer (some ⟨g, 0, none⟩)) (hg : w.heap[g]? = some (.cells cs t fr))
    (hu : P.underlying ty = some d) (hd : (match d with | .struct _ | .array _ _ => true | _ => false) = true) (hi : (P.info? ty).map (·.size) = some cs.size) :
    (results fn tmps).run P w = .ok (.agg cs) w := by
  have hp' : tmps[p]?.getD undef = .pointer (some ⟨g, 0, none⟩) := by simpa using hp
  simp [results, h, hp', asAddr, run_loadVar_row w g t ty cs fr d hg hu hd hi]
theorem results_row2 {fn : Func} {p u : Tmp} {ty : TypeId} (h : fn.results = #[.cell p ty, .tmp u]) (tmps : Array Value) (w : World) (g : Nat) (t : TypeId) (cs : Array Value) (fr : Nat × Nat) (d : TypeDesc)
    (hp : tmps.getD p undef = .pointer (some ⟨g, 0, none⟩)) (hg : w.heap[g]? = some (.cells cs t fr))
    (hu : P.underlying ty = some d) (hd : (match d with | .struct _ | .array _ _ => true | _ => false) = true) (hi : (P.info? ty).map (·.size) = some cs.size) :
    (results fn tmps).run P w = .ok (.tuple #[.agg cs, tmps.getD u undef]) w := by
  have hp' : tmps[p]?.getD undef = .pointer (some ⟨g, 0, none⟩) := by simpa using hp
  simp [results, h, hp', asAddr, run_loadVar_row w g t ty cs fr d hg hu hd hi]
end
theorem Try.tabSize : (Try.prog.info? 24).map (·.size) = some 2 := by kernel_rfl

/-- a call of a Go function, as a step of a region that draws its order -/
theorem step_call {P : Program} {ops : Array Oper} {o : Oper} {a : Act} {w : World} {K : Act → World → Prop} {Q : Exit → Act → World → Prop} {E : Prop} (hgd : o.guard = none) (f : FuncId) (args : Array Value) (hrun : (execOp a.eval o).run P w = .ok (.enter f args) w)
    {X : Type} (val : X → Value) (S : X → World → Prop) (hc : Calls P f args w (fun e w' => ∃ x, e = .returned (val x) ∧ S x w')) (h : ∀ x w', S x w' → K (a.put o.dst (val x)) w') :
    if Region.wanted o (yielded ops a.tmps) = true then Oper.wp P o a w K Q else E := by
  have hw : Region.wanted o (yielded ops a.tmps) = true := by simp [Region.wanted, hgd]
  rw [if_pos hw]
  unfold Oper.wp
  rw [hrun, Oper.upon_enter]
  refine hc.mono fun e w'' hh => ?_
  obtain ⟨x, rfl, hS⟩ := hh
  exact h x _ hS
theorem xcells_set {ys xs : List X} {x y : X} (hr : y.r = x.r) : (xcells (ys ++ x :: xs)).set (ys.length * 4 + 3) (.slice y.a y.n y.c) = xcells (ys ++ [y] ++ xs) := by
  have e1 : xcells (ys ++ x :: xs) = xcells ys ++ (X.cells x ++ xcells xs) := by simp [xcells]
  have e2 : xcells (ys ++ [y] ++ xs) = xcells ys ++ (X.cells y ++ xcells xs) := by simp [xcells]
  rw [e1, e2, List.set_append_right _ _ (by rw [xcells_len]; omega), xcells_len, Nat.add_sub_cancel_left]
  congr 1
  unfold X.cells
  rw [hr]
  rfl
/-- behind i rows: the first ones are the call's own -/
structure Copied (w0 wr : World) (h n : Nat) (v : Value) (nodes : Int) (xs ys : List X) : Prop where
  box : wr.heap[h]? = some (.cells #[.int .i64 nodes, v] 24 (0, 0))
  res : wr.heap[h + 1]? = some (.cells #[.int .i64 0, .slice none 0 0] 24 (0, 0))
  row : wr.ownsRow w0.heap.size 42 4 v n (xcells (ys ++ xs.drop ys.length))
  sl : ∀ y ∈ ys, OwnV wr w0.heap.size 3 y.sl (ints y.r.sync)
  apart : Apart ys
  same : ys.map X.r = (xs.take ys.length).map X.r
  below : Below w0.heap.size w0 wr
theorem Copied.step {w0 wr w2 : World} {h n g c : Nat} {nodes : Int} {xs ys : List X} {x : X} {v' : Value} (hc : Copied w0 wr h n (.slice (some ⟨g, 0, none⟩) n c) nodes xs ys) (hn : n = xs.length) (hi : ys.length < n) (hx : x = xs[ys.length]'(by omega)) (hh : h = w0.heap.size)
    (ho : OwnV w2 wr.heap.size 3 v' (ints x.r.sync)) (hb : Below wr.heap.size wr w2) :
    ∃ y : X, y.r = x.r ∧ v' = .slice y.a y.n y.c ∧ Copied w0 (w2.setCell ⟨g, ys.length * 4 + 3, none⟩ v') h n (.slice (some ⟨g, 0, none⟩) n c) nodes xs (ys ++ [y]) := by
  obtain ⟨A, k, rfl, _, _⟩ := ho.form
  refine ⟨⟨x.r, A, _, k⟩, rfl, rfl, ?_⟩
  have hs : w0.heap.size ≤ wr.heap.size := hc.below.size
  have hrow2 := row_below hc.row hb
  have hgn : g < wr.heap.size ∧ w0.heap.size ≤ g ∧ ∃ cur, wr.heap[g]? = some (.cells cur 42 (0, 0)) := by
    rcases hc.row.2 with ⟨h1, _⟩ | ⟨g', cap, cur, h1, hg, hh2, _⟩
    · cases h1
    · injection h1 with h1 _ _
      injection h1 with h1
      injection h1 with h1 _ _
      subst h1
      exact ⟨heapLt hh2, hg, cur, hh2⟩
  obtain ⟨hgl, hg0, cur, hcur⟩ := hgn
  have hgh : g ≠ h := fun e => by
    have h1 := hcur
    rw [e] at h1
    have := h1.symm.trans hc.box
    simp at this
  have hgh1 : g ≠ h + 1 := fun e => by
    have h1 := hcur
    rw [e] at h1
    have := h1.symm.trans hc.res
    simp at this
  have hst := World.ownsRow.stored hrow2 (ys.length * 4 + 3) (.slice A (ints x.r.sync).length k)
  have hsplit : ys ++ xs.drop ys.length = ys ++ x :: xs.drop (ys.length + 1) := by
    rw [List.drop_eq_getElem_cons (by omega), hx]
  have hT : Turned (· = g) wr (w2.setCell ⟨g, ys.length * 4 + 3, none⟩ (.slice A (ints x.r.sync).length k)) := Turned.setCell (F := (· = g)) (Turned.of_below hb) (p := ⟨g, ys.length * 4 + 3, none⟩) (.inl rfl) _
  have hT2 : Turned (· = g) w2 (w2.setCell ⟨g, ys.length * 4 + 3, none⟩ (.slice A (ints x.r.sync).length k)) := Turned.setCell (F := (· = g)) (Turned.refl _ w2) (p := ⟨g, ys.length * 4 + 3, none⟩) (.inl rfl) _
  have hne : ∀ y ∈ ys, y.sl.ownBlock ≠ some g := fun y hy => block_ne (hc.sl y hy) hcur (by decide)
  refine ⟨?_, ?_, ?_, ?_, ?_, ?_, ?_⟩
  · exact (hT.block h (heapLt hc.box) (fun e => hgh e.symm)).trans hc.box
  · exact (hT.block (h + 1) (heapLt hc.res) (fun e => hgh1 e.symm)).trans hc.res
  · have h1 := hst.1
    rw [hsplit, xcells_set (x := x) (y := ⟨x.r, A, (ints x.r.sync).length, k⟩) rfl] at h1
    rw [List.length_append, List.length_singleton]
    exact h1
  · intro y hy
    rcases List.mem_append.1 hy with hy | hy
    · exact (hc.sl y hy).turned hT (fun k' hk e => hne y hy (by rw [hk, e]))
    · simp only [List.mem_singleton] at hy
      subst hy
      exact (OwnV.less ho hs).turned hT2 (fun k' hk e => by have := (ho.lt k' hk).1; omega)
  · refine List.pairwise_append.2 ⟨hc.apart, by simp, fun y hy z hz b hb2 => ?_⟩
    simp only [List.mem_singleton] at hz
    subst hz
    intro e
    have h1 := (hc.sl y hy).lt b hb2
    have h2 := (ho.lt b e).1
    omega
  · rw [List.map_append, hc.same, List.length_append, List.length_singleton, List.take_succ_eq_append_getElem (show ys.length < xs.length by omega), List.map_append, hx]
    rfl
  · exact (hc.below.trans (hb.mono hs)).setCell (p := ⟨g, ys.length * 4 + 3, none⟩) hg0 _

def ClonedAt (zs : List Int) (w : World) (v : Value) (w' : World) : Prop := OwnV w' w.heap.size 3 v (ints zs) ∧ Below w.heap.size w w'
theorem clonedAt_any (B n c : Nat) (A : Option Addr) (zs : List Int) (w : World) (h : RdV w B A n c (ints zs)) (hn : n ≤ 17592186044416) :
    Calls Try.prog 29 #[.slice A n c] w fun e w' => ∃ v', e = .returned v' ∧ ClonedAt zs w v' w' := clone_any B n c A zs w h hn

set_option maxHeartbeats 4000000 in
theorem copy_any (v : Value) (t : M.T) (w : World) (h : RdT w w.heap.size v t) : Calls Try.prog 16 #[v] w fun e w' => ∃ v' xs, e = .returned (.agg #[.int .i64 t.nodes, v']) ∧ OwnXs w' w.heap.size v' xs ∧ xs.map X.r = t.rows ∧ Below w.heap.size w w' := by
  obtain ⟨A, n, c, xs, rfl, hx, hrows, hnodes⟩ := h
  obtain ⟨nodes, rows⟩ := t
  simp only at hrows hnodes ⊢
  have hlen := hx.len
  have hlight := hx.light
  have hcap := hx.cap
  have hmax := hx.max
  -- the box and the result's cell
  have hb1 := (bel_alloc' w (.cells #[.int .i64 nodes, .slice A n c] 24)).alloc (by simp) (.cells #[.int .i64 0, .slice none 0 0] 24)
  have hbox := heapOld (o := .cells #[.int .i64 0, .slice none 0 0] 24) (heapNew (w := w) (.cells #[.int .i64 nodes, .slice A n c] 24))
  have hres := heapNew (w := w.alloc (.cells #[.int .i64 nodes, .slice A n c] 24)) (.cells #[.int .i64 0, .slice none 0 0] 24)
  rw [show (w.alloc (.cells #[.int .i64 nodes, .slice A n c] 24)).heap.size = w.heap.size + 1 from by simp] at hres
  obtain ⟨w1, hw1⟩ : ∃ w1, w1 = (w.alloc (.cells #[.int .i64 nodes, .slice A n c] 24)).alloc (.cells #[.int .i64 0, .slice none 0 0] 24) := ⟨_, rfl⟩
  rw [← hw1] at hb1 hbox hres
  have hs1 : w1.heap.size = w.heap.size + 2 := by rw [hw1]; simp
  have HW1 := Lib.hid hw1.symm
  have HS1 := Lib.hid hs1
  have HCL := Lib.hid (cloneX_any A n c xs w1 ((hx.below hb1).more (by omega)))
  have HXS := Lib.hid hx
  have HB1 := Lib.hid hb1; have HBX := Lib.hid hbox; have HRS := Lib.hid hres; have HRO := Lib.hid hrows; have HN := Lib.hid hnodes; have HLN := Lib.hid hlen
  have k0 : w1.cell? ⟨w.heap.size, 0, none⟩ = some (.int .i64 nodes) := cellAt 0 hbox
  have k1 : w1.cell? ⟨w.heap.size, 1, none⟩ = some (.slice A n c) := cellAt 1 hbox
  clear hw1 hb1 hbox hres hx hrows hnodes hlen hs1
  go_enter Try.func16, Try.ntmps16
  go_wp2_with fail
  rw [HW1.out]
  refine HCL.out.mono ?_
  rintro e w2 ⟨v1, rfl, hrow2, hb2⟩
  obtain ⟨A1, c1, hv1, hc1, hm1⟩ := row_form hrow2
  subst hv1
  have hbx2 := (hb2.block w.heap.size (by rw [HS1.out]; omega)).trans HBX.out
  have hrs2 := (hb2.block (w.heap.size + 1) (by rw [HS1.out]; omega)).trans HRS.out
  have hs2 : w1.heap.size ≤ w2.heap.size := hb2.size
  have hfz := freeAt 1 hbx2
  have k2 : w2.cell? ⟨w.heap.size, 1, none⟩ = some (.slice A n c) := cellAt 1 hbx2
  have hH : w.heap.size < w2.heap.size := by have := HS1.out; omega
  have HC0 : Hid (Copied w (w2.setCell ⟨w.heap.size, 1, none⟩ (.slice A1 n c1)) w.heap.size n (.slice A1 n c1) nodes xs []) := by
    refine Lib.hid ⟨heapSet 1 _ hbx2, heapFar hrs2 (by show w.heap.size + 1 ≠ w.heap.size; omega), ?_, (fun y hy => by cases hy), List.Pairwise.nil, rfl, (HB1.out.trans (hb2.mono HB1.out.size)).setCell (p := ⟨w.heap.size, 1, none⟩) (Nat.le_refl _) _⟩
    have h1 : w2.ownsRow w.heap.size 42 4 (.slice A1 n c1) n (xcells xs) := by
      refine ⟨hrow2.1, ?_⟩
      rcases hrow2.2 with h2 | ⟨g, cap, cur, hv, hg, r⟩
      · exact .inl h2
      · exact .inr ⟨g, cap, cur, hv, by have := HB1.out.size; omega, r⟩
    have hne := block_ne h1 hbx2 (by decide)
    exact row_turned h1 (Turned.setCell (F := (· = w.heap.size)) (Turned.refl _ w2) (p := ⟨w.heap.size, 1, none⟩) (.inl rfl) _) (fun k hk e => hne (by rw [hk, e]))
  clear hrow2 hb2 hbx2 hrs2 k0 k1 HCL
  go_wp2
  clear k2 hfz
  go_loopw [11] (fun p wr => ∃ (i : Nat) (ys : List X), p = .int .i64 (i : Int) ∧ i ≤ n ∧ Hid (ys.length = i) ∧ Hid (Copied w wr w.heap.size n (.slice A1 n c1) nodes xs ys)) (fun p _ => n - (intOf p).toNat)
  case atStart => exact ⟨0, [], rfl, Nat.zero_le _, Lib.hid rfl, HC0⟩
  case round =>
    clear HC0
    obtain ⟨i, ys, rfl, hi, HL, HC⟩ := hrel
    rename World => wr
    by_cases hlt : i < n
    · have hg : ∃ g, A1 = some ⟨g, 0, none⟩ ∧ ∃ cur, wr.heap[g]? = some (.cells cur 42 (0, 0)) := by
        rcases HC.out.row.2 with ⟨h1, _⟩ | ⟨g', cap, cur, h1, _, hh2, _⟩
        · injection h1 with _ h2 _; omega
        · injection h1 with h1 _ _
          exact ⟨g', h1, cur, hh2⟩
      obtain ⟨g, rfl, cur, hcur⟩ := hg
      have hgl := heapLt hcur
      have hil : i < xs.length := by have := HLN.out; omega
      obtain ⟨x, hx⟩ : ∃ x, x = xs[i] := ⟨_, rfl⟩
      have hsw : w.heap.size ≤ wr.heap.size := HC.out.below.size
      have hrx := ((HXS.out.rows x (by rw [hx]; exact List.getElem_mem hil)).below HC.out.below).more hsw
      have h3 : wr.cell? ⟨g, i * 4 + 3, none⟩ = some (.slice x.a x.n x.c) := by
        have h1 := HC.out.row
        have h2 : n = (ys ++ xs.drop ys.length).length := by have := HLN.out; have := HL.out; simp; omega
        rw [h2] at h1
        have h4 := (at4_of_row (i := i) h1 (by rw [← h2]; exact hlt)).2.2.2
        rw [Nat.zero_add] at h4
        have h5 : (ys ++ xs.drop ys.length)[i]'(by rw [← h2]; exact hlt) = x := by
          rw [List.getElem_append_right (by rw [HL.out]; omega), List.getElem_drop, hx]
          congr 1
          have := HL.out; omega
        rw [h5] at h4
        exact h4
      have k1 : wr.cell? ⟨w.heap.size, 1, none⟩ = some (.slice (some ⟨g, 0, none⟩) n c1) := cellAt 1 HC.out.box
      have hhl : w.heap.size < wr.heap.size := heapLt HC.out.box
      have hfg : wr.frozen? ⟨g, i * 4 + 3, none⟩ = false := freeAt _ hcur
      have HCL := Lib.hid (clonedAt_any wr.heap.size x.n x.c x.a x.r.sync wr.drew hrx.sl hrx.light)
      have HX := Lib.hid (show x = xs[i]'(by have := HLN.out; omega) from hx)
      have HCUR := Lib.hid hcur
      clear hrx hcur hx
      obtain ⟨⟨rev, term, prim, sync⟩, a, m, cc⟩ := x
      simp only at h3 HCL
      have HV := Lib.hid (show wr.cell? ⟨w.heap.size, 1, none⟩ = some (.slice (some ⟨g, 0, none⟩) n c1) ∧ wr.cell? ⟨g, i * 4 + 3, none⟩ = some (.slice a m cc) from ⟨k1, h3⟩)
      have HBXR := Lib.hid HC.out.box
      go_wp2_with fail
      go_region_law (first
        | (refine step_call (by rfl) 29 #[.slice a m cc] (by simp [Act.eval, go_sem]) (fun v => v) (ClonedAt sync _) HCL.out ?_; rintro v3 w3 ⟨hown3, hb3⟩
           obtain ⟨A3, k3, e3, _, _⟩ := hown3.form
           subst e3
           have q1 := (hb3.cell (p := ⟨w.heap.size, 1, none⟩) hhl).trans k1
           have q3 := (hb3.cell (p := ⟨g, i * 4 + 3, none⟩) hgl).trans h3
           have qf := (hb3.frozen (p := ⟨g, i * 4 + 3, none⟩) hgl).trans hfg
           have HOWN3 := Lib.hid hown3; have HB3 := Lib.hid (below_undrew hb3)
           clear hown3 hb3))
      all_goals
        obtain ⟨y, hy1, hy2, hcop⟩ := Copied.step (x := ⟨⟨rev, term, prim, sync⟩, a, m, cc⟩) HC.out HLN.out (by rw [HL.out]; exact hlt) (by have := HX.out; simp only [HL.out]; exact this) rfl HOWN3.out HB3.out
        rw [HL.out, ints_len] at hcop
        have HCOP := Lib.hid hcop
        have HL2 := Lib.hid (show (ys ++ [y]).length = i + 1 by rw [List.length_append, HL.out]; rfl)
        clear hcop hy1 hy2
        go_wp2
        exact ⟨⟨i + 1, ys ++ [y], by go_num, by omega, HL2, HCOP⟩, by simp [intOf]; omega⟩
    · obtain rfl : i = n := by omega
      have h0 := HC.out
      have hyl : xs.drop ys.length = [] := List.drop_eq_nil_of_le (by have := HL.out; have := HLN.out; omega)
      have k0 : wr.cell? ⟨w.heap.size, 0, none⟩ = some (.int .i64 nodes) := cellAt 0 h0.box
      have k1 : wr.cell? ⟨w.heap.size, 1, none⟩ = some (.slice A1 i c1) := cellAt 1 h0.box
      have hrf0 := freeAt 0 h0.res
      have hrf1 := freeAt 1 h0.res
      have hr0 : wr.cell? ⟨w.heap.size + 1, 0, none⟩ = some (.int .i64 0) := cellAt 0 h0.res
      have hr1 : wr.cell? ⟨w.heap.size + 1, 1, none⟩ = some (.slice none 0 0) := cellAt 1 h0.res
      have hrow : wr.ownsRow w.heap.size 42 4 (.slice A1 i c1) ys.length (xcells ys) := by
        have h1 := h0.row
        rw [hyl, List.append_nil] at h1
        rw [HL.out]
        exact h1
      have hrne : (Value.slice A1 i c1).ownBlock ≠ some (w.heap.size + 1) := block_ne hrow h0.res (by decide)
      have hT : Turned (· = w.heap.size + 1) wr ((wr.setCell ⟨w.heap.size + 1, 0, none⟩ (.int .i64 nodes)).setCell ⟨w.heap.size + 1, 1, none⟩ (.slice A1 i c1)) :=
        Turned.setCell (F := (· = w.heap.size + 1)) (Turned.setCell (F := (· = w.heap.size + 1)) (Turned.refl _ wr) (p := ⟨w.heap.size + 1, 0, none⟩) (.inl rfl) _) (p := ⟨w.heap.size + 1, 1, none⟩) (.inl rfl) _
      have HEND := Lib.hid (show OwnXs ((wr.setCell ⟨w.heap.size + 1, 0, none⟩ (.int .i64 nodes)).setCell ⟨w.heap.size + 1, 1, none⟩ (.slice A1 i c1)) w.heap.size (.slice A1 i c1) ys ∧ ys.map X.r = rows ∧ Below w.heap.size w ((wr.setCell ⟨w.heap.size + 1, 0, none⟩ (.int .i64 nodes)).setCell ⟨w.heap.size + 1, 1, none⟩ (.slice A1 i c1)) from
        ⟨⟨row_turned hrow hT (fun k hk e => hrne (by rw [hk, e])), fun y hy => (h0.sl y hy).turned hT (fun k hk e => block_ne (h0.sl y hy) h0.res (by decide) (by rw [hk, e])), h0.apart⟩,
          by rw [h0.same, ← HRO.out, List.take_of_length_le (by have := HL.out; have := HLN.out; omega)],
          (h0.below.setCell (p := ⟨w.heap.size + 1, 0, none⟩) (by show w.heap.size ≤ w.heap.size + 1; omega) _).setCell (p := ⟨w.heap.size + 1, 1, none⟩) (by show w.heap.size ≤ w.heap.size + 1; omega) _⟩)
      have HRES := Lib.hid (heapSet 1 (.slice A1 i c1) (heapSet 0 (.int .i64 nodes) h0.res))
      clear h0 hrow hrne hT hyl
      go_wp2
      refine bodyPost_ret (results_row1 rfl _ _ (w.heap.size + 1) 24 #[.int .i64 nodes, .slice A1 i c1] (0, 0) _ rfl HRES.out Try.underlying24 rfl Try.tabSize) rfl ?_
      exact ⟨_, ys, rfl, HEND.out⟩
end Go.Proofs.Ytghnelfgnfhclaa
