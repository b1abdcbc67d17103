/-
  loads, by a contract: of each node in how many rows it is in sync.
-/
import Derived.Test.YtghnelfgnfhclaaMetaPm
import Derived.Test.YtghnelfgnfhclaaMetaK
namespace Go.Proofs.Ytghnelfgnfhclaa
open Go.RowKit Mem Go.ChangeShapes
set_option linter.unusedVariables false
set_option maxRecDepth 100000

/-- a number written into a row of numbers that the call owns -/
theorem Mem.OwnV.putI {w : World} {base g n c : Nat} {zs : List Int} (h : OwnV w base 3 (.slice (some ⟨g, 0, none⟩) n c) (ints zs)) (j : Nat) (y : Int) :
    OwnV (w.setCell ⟨g, j, none⟩ (.int .i64 y)) base 3 (.slice (some ⟨g, 0, none⟩) n c) (ints (zs.set j y)) := by
  obtain rfl : n = (ints zs).length := by obtain ⟨_, _, e, _⟩ := h.form; injection e
  have h1 := (World.ownsRow.stored (show w.ownsRow base 3 1 (.slice (some ⟨g, 0, none⟩) (ints zs).length c) (ints zs).length (ints zs) from h) j (.int .i64 y)).1
  unfold OwnV
  have e : ints (zs.set j y) = (ints zs).set j (.int .i64 y) := by simp [List.map_set]
  rw [e, List.length_set]
  exact h1
theorem Mem.OwnV.atI {w : World} {base g n c : Nat} {zs : List Int} (h : OwnV w base 3 (.slice (some ⟨g, 0, none⟩) n c) (ints zs)) {j : Nat} (hj : j < zs.length) :
    w.cell? ⟨g, j, none⟩ = some (.int .i64 (zs.getD j 0)) ∧ w.frozen? ⟨g, j, none⟩ = false ∧ g < w.heap.size ∧ base ≤ g := by
  obtain rfl : n = (ints zs).length := by obtain ⟨_, _, e, _⟩ := h.form; injection e
  have hx : w.ownsRow base 3 1 (.slice (some ⟨g, 0, none⟩) (ints zs).length c) (ints zs).length (ints zs) := h
  refine ⟨?_, World.ownsRow.frozenAt hx j, (World.ownsRow.lt hx g rfl).2, (World.ownsRow.lt hx g rfl).1⟩
  rw [World.ownsRow.cellAt hx j (by rw [ints_len]; omega), ints_at hj, List.getD_eq_getElem?_getD, List.getElem?_eq_getElem hj]
  rfl
/-- a new row of zeros -/
theorem own_zeros (w : World) (nn : Nat) (hn : nn ≤ 5) : OwnV (w.alloc (.cells (madeCells #[.int .i64 0] nn) 3)) w.heap.size 3 (.slice (some ⟨w.heap.size, 0, none⟩) nn nn) (ints (List.replicate nn 0)) := by
  have hs : (madeCells #[Value.int .i64 0] nn).toList = ints (List.replicate nn 0) := by
    rw [toList_madeCells_one, ints, List.map_replicate]
  have hl : (madeCells #[Value.int .i64 0] nn).size = nn := by
    rw [← Array.length_toList, hs]; simp
  refine ⟨by simp, .inr ⟨w.heap.size, nn, madeCells #[.int .i64 0] nn, by simp, Nat.le_refl _, heap_alloc_new w _, by simp, by simp only [maxLen]; omega, by omega, ?_⟩⟩
  rw [hs, Nat.mul_one, List.take_of_length_le (by simp)]

/-- the loads so far: of the rows at the front, and a part of the next one -/
structure Tallied (w0 wr : World) (g nn : Nat) (rows : List M.R) (part : List Int) : Prop where
  own : OwnV wr (w0.heap.size + 1) 3 (.slice (some ⟨g, 0, none⟩) nn nn) (ints (M.tally nn rows part))
  below : Below w0.heap.size w0 wr
theorem Tallied.put {w0 wr : World} {g nn x : Nat} {rows : List M.R} {part : List Int} (h : Tallied w0 wr g nn rows part) (hx : x < nn) (hn : ¬ (x : Int) ∈ part) :
    Tallied w0 (wr.setCell ⟨g, x, none⟩ (.int .i64 ((M.tally nn rows part).getD x 0 + 1))) g nn rows (part ++ [(x : Int)]) := by
  have hl := (h.own.atI (j := x) (by rw [M.tally_len]; exact hx)).2.2
  refine ⟨?_, h.below.setCell (p := ⟨g, x, none⟩) (by have := hl.2; show w0.heap.size ≤ g; omega) _⟩
  rw [M.tally_step hx hn]
  exact h.own.putI x _
theorem Tallied.next {w0 wr : World} {g nn : Nat} {rows : List M.R} {r : M.R} (h : Tallied w0 wr g nn rows r.sync) : Tallied w0 wr g nn (rows ++ [r]) [] := by
  refine ⟨?_, h.below⟩
  rw [M.tally_row]
  exact h.own
theorem Tallied.alloc {w0 wr : World} {g nn : Nat} {rows : List M.R} {part : List Int} (h : Tallied w0 wr g nn rows part) (o : Obj) : Tallied w0 (wr.alloc o) g nn rows part :=
  ⟨h.own.alloc o, h.below.alloc h.below.size o⟩
theorem take_succ_rows {t : M.T} {i : Nat} (h : i < t.rows.length) : t.rows.take (i + 1) = t.rows.take i ++ [t.rows[i]] := by
  rw [List.take_add_one, List.getElem?_eq_getElem h]; rfl
theorem take_succ_ints {l : List Int} {i : Nat} (h : i < l.length) : l.take (i + 1) = l.take i ++ [l[i]] := by
  rw [List.take_add_one, List.getElem?_eq_getElem h]; rfl
theorem fresh_next {l : List Int} (hp : l.Pairwise (· < ·)) {i : Nat} (h : i < l.length) : ¬ l[i] ∈ l.take i := by
  intro hm
  obtain ⟨j, hj, e⟩ := List.getElem_of_mem hm
  rw [List.length_take] at hj
  rw [List.getElem_take] at e
  have := List.pairwise_iff_getElem.1 hp j i (by omega) h (by omega)
  omega

def LoadsOf (t : M.T) (w : World) (e : Ending) (w' : World) : Prop :=
  ∃ g, e = .returned (.slice (some ⟨g, 0, none⟩) t.nodes.toNat t.nodes.toNat) ∧ OwnV w' w.heap.size 3 (.slice (some ⟨g, 0, none⟩) t.nodes.toNat t.nodes.toNat) (ints (M.loads t)) ∧ Below w.heap.size w w'

set_option maxHeartbeats 4000000 in
theorem loads_any (A : Option Addr) (n cp : Nat) (t : M.T) (w : World) (ht : TabIs w w.heap.size A n cp t) (hf : M.form t = true) : Calls Try.prog 38 #[.agg #[.int .i64 t.nodes, .slice A n cp]] w (LoadsOf t w) := by
  obtain ⟨hn1, hn5, hr1, hr8⟩ := M.form_nodes hf
  have hlen := ht.len
  obtain ⟨hcap, hmax, _⟩ := ht.bounds
  obtain ⟨nn, hnn⟩ : ∃ nn : Nat, t.nodes = (nn : Int) := ⟨t.nodes.toNat, by omega⟩
  have HT := Lib.hid ht
  have HF := Lib.hid hf
  have HLN := Lib.hid hlen
  have HNN := Lib.hid hnn
  rw [hnn]
  have hnn1 : 1 ≤ nn := by omega
  have hnn5 : nn ≤ 5 := by omega
  have hn0 : 0 < n := by omega
  have hn8 : n ≤ 8 := by omega
  clear ht hf hlen hnn hn1 hn5 hr1 hr8
  have hmk := run_make_row' (P := Try.prog) 40 3 (.int .i64 0) 8 Try.underlying40 Try.infoInt rfl .i64 .i64 nn (by omega) (by omega)
  obtain ⟨w1, hw1⟩ : ∃ w1, w1 = w.alloc (.cells #[.int .i64 (nn : Int), .slice A n cp] 24) := ⟨_, rfl⟩
  have hbx : w1.heap[w.heap.size]? = some (.cells #[.int .i64 (nn : Int), .slice A n cp] 24 (0, 0)) := by rw [hw1]; exact heapNew (w := w) _
  have hs1 : w1.heap.size = w.heap.size + 1 := by rw [hw1]; simp
  have HB := Lib.hid (show Below w.heap.size w w1 by rw [hw1]; exact bel_alloc' w _)
  have HS1 := Lib.hid hs1
  have HW1 := Lib.hid hw1.symm
  clear hw1
  obtain ⟨w2, hw2⟩ : ∃ w2, w2 = w1.alloc (.cells (madeCells #[.int .i64 0] nn) 3) := ⟨_, rfl⟩
  have HBX := Lib.hid (show w2.heap[w.heap.size]? = some (.cells #[.int .i64 (nn : Int), .slice A n cp] 24 (0, 0)) by rw [hw2]; exact heapOld hbx)
  have HTL := Lib.hid (show Tallied w w2 w1.heap.size nn (t.rows.take 0) [] by
    refine ⟨?_, by rw [hw2]; exact HB.out.alloc HB.out.size _⟩
    rw [List.take_zero, M.tally_zero, hw2]
    have := own_zeros w1 nn hnn5
    rw [hs1] at this ⊢
    exact this)
  have HW2 := Lib.hid hw2.symm
  clear hw2 hs1
  have c0 : w1.cell? ⟨w.heap.size, 0, none⟩ = some (.int .i64 (nn : Int)) := cellAt 0 hbx
  clear hbx
  go_enter Try.func38, Try.ntmps38
  go_upto_region 1 with (fail)
  rw [HW1.out]
  go_upto_region 2 with (fail)
  rw [HW2.out]
  clear hmk c0
  have c1 : w2.cell? ⟨w.heap.size, 1, none⟩ = some (.slice A n cp) := cellAt 1 HBX.out
  go_wp2
  clear c1
  go_loopw [14] (fun p wr => ∃ i : Nat, p = .int .i64 (i : Int) ∧ i ≤ n ∧ Hid (Tallied w wr w1.heap.size nn (t.rows.take i) [])) (fun p _ => n - (intOf p).toNat)
  case atStart => exact ⟨0, rfl, Nat.zero_le _, HTL⟩
  case round =>
    clear HTL
    obtain ⟨i, rfl, hi, HR⟩ := hrel
    rename World => wr
    by_cases hin : i < n
    · have hrb : i < t.rows.length := by have := HLN.out; omega
      obtain ⟨b, off, x, rfl, hbb, hat, hrx, hrow⟩ := HT.out.row hin
      have hat := hat.keep (w' := wr) hbb (fun p hp => HR.out.below.cell hp)
      have hxr : x.r = t.rows[i] := by rw [List.getElem?_eq_getElem hrb] at hrow; exact (Option.some.inj hrow).symm
      have hfr := (form_row HF.out (List.getElem_mem hrb)).1
      have hsucc := take_succ_rows hrb
      rw [← hxr] at hfr hsucc
      have HSU := Lib.hid hsucc
      have HRI := Lib.hid hfr
      have HRX := Lib.hid hrx
      clear hrow hxr hfr hsucc hrx
      obtain ⟨⟨rv, term, prim, sync⟩, ax, m, cx⟩ := x
      obtain ⟨k0, k1, k2, k3⟩ := hat
      simp only at k0 k1 k2 k3 HRI
      have hml : m = sync.length := by have := HRX.out.sl.1; rw [ints_len] at this; exact this
      have hmm := HRX.out.sl.max
      have hmc := HRX.out.sl.2.1
      have HML := Lib.hid hml
      clear hml
      simp only at hmm hmc
      have HR1 := Lib.hid (show Tallied w (wr.alloc (.cells #[.int .u64 (rv : Int), .int .u64 (term : Int), .int .i64 prim, .slice ax m cx] 42)) w1.heap.size nn (t.rows.take i) (sync.take 0) from HR.out.alloc _)
      clear HR
      go_wp2
      go_loopw [21] (fun p wi => ∃ j : Nat, p = .int .i64 (j : Int) ∧ j ≤ m ∧ Hid (Tallied w wi w1.heap.size nn (t.rows.take i) (sync.take j))) (fun p _ => m - (intOf p).toNat)
      case atStart => exact ⟨0, rfl, Nat.zero_le _, HR1⟩
      case round =>
        clear HR1 k0 k1 k2 k3
        obtain ⟨j, rfl, hj, HJ⟩ := hrel
        rename World => wi
        by_cases hjm : j < m
        · have hjl : j < sync.length := by have := HML.out; omega
          have hmem := M.rises_mem HRI.out sync[j] (List.getElem_mem hjl)
          obtain ⟨y, hy⟩ : ∃ y : Nat, sync[j] = (y : Int) := ⟨sync[j].toNat, by omega⟩
          have hy0 := hy
          have hyn : y < nn := by have := HNN.out; omega
          have hnot := fresh_next (M.rises_pair HRI.out) hjl
          have hput := HJ.out.put hyn (hy ▸ hnot)
          rw [← hy, ← take_succ_ints hjl] at hput
          have HPUT := Lib.hid hput
          obtain ⟨hc, hfz, hgl, hgb⟩ := HJ.out.own.atI (j := y) (by rw [M.tally_len]; exact hyn)
          have hbd := M.getD_le (M.tally_le nn (t.rows.take i) (sync.take j)) (by omega) y
          have hlt : (t.rows.take i).length ≤ 8 := by rw [List.length_take]; have := HLN.out; omega
          generalize (M.tally nn (t.rows.take i) (sync.take j)).getD y 0 = val at *
          obtain ⟨bs, os, e1, hbs, hcs⟩ := rdi_cells HRX.out.sl (show 0 < m by omega)
          simp only at e1
          subst e1
          have hcj := (HJ.out.below.cell (p := ⟨bs, os + j, none⟩) (by omega)).trans (hcs j hjl)
          have hyb : (y : Int) < (nn : Int) := by omega
          have hwv : IntKind.i64.wrap (val + 1) = val + 1 := by rw [IntKind.wrap_i64]; omega
          clear hmem hnot hput hy hbd hlt hcs HJ
          rw [show sync.getD j 0 = (y : Int) from by rw [List.getD_eq_getElem?_getD, List.getElem?_eq_getElem hjl]; exact hy0] at hcj
          clear hy0 hjl
          go_wp2
          exact ⟨⟨j + 1, by go_num, by omega, HPUT⟩, by simp [intOf]; omega⟩
        · obtain rfl : j = m := by omega
          have HJ2 := Lib.hid (show Tallied w wi w1.heap.size nn (t.rows.take (i + 1)) [] by
            rw [HSU.out]
            refine Tallied.next (r := ⟨rv, term, prim, sync⟩) ?_
            have := HJ.out
            rwa [List.take_of_length_le (l := sync) (by have := HML.out; omega)] at this)
          clear HJ
          go_wp2
          exact ⟨⟨i + 1, by go_num, by omega, HJ2⟩, by simp [intOf]; omega⟩
    · obtain rfl : i = n := by omega
      have HR2 := Lib.hid (show Tallied w wr w1.heap.size nn t.rows [] by
        have := HR.out
        rwa [List.take_of_length_le (l := t.rows) (by have := HLN.out; omega)] at this)
      clear HR
      go_wp2
      go_ret
      unfold LoadsOf
      have hnt : t.nodes.toNat = nn := by rw [HNN.out, Int.toNat_natCast]
      rw [hnt]
      refine ⟨_, rfl, ?_, HR2.out.below⟩
      have h1 := HR2.out.own
      have h2 := M.tally_all t
      rw [HNN.out, Int.toNat_natCast] at h2
      rw [h2] at h1
      exact ⟨h1.1, h1.2.imp id (fun ⟨g, cap, cur, hv, hg, r⟩ => ⟨g, cap, cur, hv, by omega, r⟩)⟩
end Go.Proofs.Ytghnelfgnfhclaa
