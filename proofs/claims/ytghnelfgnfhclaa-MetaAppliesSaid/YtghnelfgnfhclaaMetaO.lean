/-
  The document's In and Form, by contracts.
-/
import Derived.Test.YtghnelfgnfhclaaMetaF
namespace Go.Proofs.Ytghnelfgnfhclaa
open Go.RowKit Mem
set_option linter.unusedVariables false
set_option maxRecDepth 100000

set_option maxHeartbeats 2000000 in
theorem refIn_any (x : X) (z : Int) (w : World) (h : RdX w w.heap.size x) : Calls Try.prog 27 #[x.val, .int .i64 z] w (SaysB (x.r.sync.contains z) w) := by
  obtain ⟨⟨rev, term, prim, sync⟩, A, n, c⟩ := x
  obtain ⟨hr, ht, hp, hs, hz, hl⟩ := h
  simp only at hr ht hp hs hz hl
  unfold X.val
  simp only
  have hln := hs.1
  rw [ints_len] at hln
  have HB1 := Lib.hid (show Below w.heap.size w (w.alloc (.cells #[.int .u64 (rev : Int), .int .u64 (term : Int), .int .i64 prim, .slice A n c] 42)) from (Below.refl _ w).alloc (Nat.le_refl _) _)
  have HS := Lib.hid hs
  have HLN := Lib.hid hln
  have HRR : Hid (sync.contains z = (sync.drop 0).contains z) := rfl
  generalize sync.contains z = res at *
  clear hs hz hln
  go_enter Try.func27, Try.ntmps27
  go_wp2
  go_loopw [5] (fun p wr => ∃ (i : Nat), p = .int .i64 (i : Int) ∧ i ≤ n ∧ Hid (res = (sync.drop i).contains z) ∧ wr = w.alloc (.cells #[.int .u64 (rev : Int), .int .u64 (term : Int), .int .i64 prim, .slice A n c] 42)) (fun p _ => n - (intOf p).toNat)
  case atStart => exact ⟨0, rfl, Nat.zero_le _, HRR, rfl⟩
  case round =>
    obtain ⟨i, rfl, hi, HR, rfl⟩ := hrel
    by_cases hlt : i < n
    · obtain ⟨b, off, rfl, hb, hc⟩ := rdi_cells HS.out (by omega)
      have hil : i < sync.length := by have := HLN.out; omega
      have hce := (HB1.out.cell (p := ⟨b, off + i, none⟩) hb).trans (hc i hil)
      rw [List.getD_eq_getElem?_getD, List.getElem?_eq_getElem hil, Option.getD_some] at hce
      rw [List.drop_eq_getElem_cons hil] at HR
      generalize sync[i] = y at *
      clear hc HRR
      by_cases h1 : y = z
      · have HQ : Hid (res = true) := Lib.hid (HR.out.trans (by simp [h1]))
        clear HR
        go_wp2
        go_ret
        exact ⟨by rw [HQ.out]; rfl, HB1.out⟩
      · have HQ : Hid (res = (sync.drop (i + 1)).contains z) := Lib.hid (HR.out.trans (by have h2 : ¬ z = y := fun e => h1 e.symm; simp [h2]))
        clear HR
        go_wp2
        exact ⟨⟨i + 1, by go_num, by omega, HQ, trivial⟩, by simp [intOf]; omega⟩
    · have HQ : Hid (res = false) := Lib.hid (HR.out.trans (by rw [List.drop_eq_nil_of_le (by have := HLN.out; omega)]; rfl))
      clear HR HRR
      go_wp2
      go_ret
      exact ⟨by rw [HQ.out]; rfl, HB1.out⟩

set_option maxHeartbeats 4000000 in
theorem refForm_any (v : Value) (t : M.T) (w : World) (h : RdT w w.heap.size v t) : Calls Try.prog 15 #[v] w (SaysB (M.form t) w) := by
  obtain ⟨A, n, c, xs, rfl, hx, hrows, hnodes⟩ := h
  obtain ⟨nodes, rows⟩ := t
  simp only at hrows hnodes ⊢
  have hlen := hx.len
  have hcap := hx.cap
  have hmax := hx.max
  have hlight := hx.light
  have hrl : rows.length = n := by rw [← hrows, List.length_map, hlen]
  have HXS := Lib.hid hx
  have HRO := Lib.hid hrows
  have HLN := Lib.hid hlen
  have HRR : Hid (M.form ⟨nodes, rows⟩ = (decide (1 ≤ nodes ∧ nodes ≤ 5) && decide (1 ≤ n ∧ n ≤ 8) && (rows.drop 0).all (fun r => M.rightRow r nodes))) := by show M.form _ = _; unfold M.form; rw [← hrl]; rfl
  generalize M.form ⟨nodes, rows⟩ = res at *
  have HN := Lib.hid hnodes
  have hb0 := bel_alloc' w (.cells #[.int .i64 nodes, .slice A n c] 24)
  have hbox := heapNew (w := w) (.cells #[.int .i64 nodes, .slice A n c] 24)
  obtain ⟨w1, hw1⟩ : ∃ w1, w1 = w.alloc (.cells #[.int .i64 nodes, .slice A n c] 24) := ⟨_, rfl⟩
  rw [← hw1] at hb0 hbox
  have HB0 := Lib.hid hb0
  have HBX := Lib.hid hbox
  have HW1 := Lib.hid hw1.symm
  have hs1 : w1.heap.size = w.heap.size + 1 := by rw [hw1]; simp
  have HS1 := Lib.hid hs1
  clear hx hrows hlen hnodes hb0 hbox hw1 hrl hs1
  by_cases h1 : nodes < 1
  · have HQ : Hid (res = false) := Lib.hid (HRR.out.trans (by rw [show decide (1 ≤ nodes ∧ nodes ≤ 5) = false from by simp; omega]; rfl))
    clear HRR
    go_enter Try.func15, Try.ntmps15
    go_wp2
    go_ret
    exact ⟨by rw [HQ.out]; rfl, bel_alloc' w _⟩
  by_cases h2 : 5 < nodes
  · have HQ : Hid (res = false) := Lib.hid (HRR.out.trans (by rw [show decide (1 ≤ nodes ∧ nodes ≤ 5) = false from by simp; omega]; rfl))
    clear HRR
    go_enter Try.func15, Try.ntmps15
    go_wp2
    go_ret
    exact ⟨by rw [HQ.out]; rfl, bel_alloc' w _⟩
  by_cases h3 : (n : Int) < 1
  · have HQ : Hid (res = false) := Lib.hid (HRR.out.trans (by rw [show decide (1 ≤ n ∧ n ≤ 8) = false from by simp; omega, Bool.and_false, Bool.false_and]))
    clear HRR
    go_enter Try.func15, Try.ntmps15
    go_wp2
    go_ret
    exact ⟨by rw [HQ.out]; rfl, bel_alloc' w _⟩
  by_cases h4 : 8 < (n : Int)
  · have HQ : Hid (res = false) := Lib.hid (HRR.out.trans (by rw [show decide (1 ≤ n ∧ n ≤ 8) = false from by simp; omega, Bool.and_false, Bool.false_and]))
    clear HRR
    go_enter Try.func15, Try.ntmps15
    go_wp2
    go_ret
    exact ⟨by rw [HQ.out]; rfl, bel_alloc' w _⟩
  have HR0 : Hid (res = (rows.drop 0).all (fun r => M.rightRow r nodes)) := Lib.hid (HRR.out.trans (by rw [show decide (1 ≤ nodes ∧ nodes ≤ 5) = true from by simp; omega, show decide (1 ≤ n ∧ n ≤ 8) = true from by simp; omega]; rfl))
  clear HRR
  go_enter Try.func15, Try.ntmps15
  go_wp2
  rw [HW1.out]
  go_loopw [3] (fun p wr => ∃ i : Nat, p = .int .i64 (i : Int) ∧ i ≤ n ∧ Hid (res = (rows.drop i).all (fun r => M.rightRow r nodes)) ∧ Hid (Below w1.heap.size w1 wr)) (fun p _ => n - (intOf p).toNat)
  case atStart => exact ⟨0, rfl, Nat.zero_le _, HR0, Lib.hid (Below.refl _ _)⟩
  case round =>
    clear HR0
    obtain ⟨i, rfl, hi, HR, HB⟩ := hrel
    rename World => wr
    have HBXR := Lib.hid ((HB.out.block w.heap.size (heapLt HBX.out)).trans HBX.out)
    have c0 : wr.cell? ⟨w.heap.size, 0, none⟩ = some (.int .i64 nodes) := cellAt 0 HBXR.out
    have c1 : wr.cell? ⟨w.heap.size, 1, none⟩ = some (.slice A n c) := cellAt 1 HBXR.out
    by_cases hlt : i < n
    · obtain ⟨b, off, rfl, hbb, hc⟩ := HXS.out.cells (by omega)
      have hil : i < xs.length := by have := HLN.out; omega
      have hall := rowsAll_drop HRO.out hil (fun r => M.rightRow r nodes)
      have hrx := HXS.out.rows xs[i] (List.getElem_mem hil)
      have hat := (hc i hil).keep (w' := wr) hbb (fun p hp => (bel_on HB0.out HB.out).cell hp)
      obtain ⟨x, hxe⟩ : ∃ x, x = xs[i] := ⟨_, rfl⟩
      rw [← hxe] at hall hrx hat
      have HR2 := Lib.hid (HR.out.trans hall)
      clear hall hc hxe HR
      obtain ⟨k0, k1, k2, k3⟩ := hat
      have hws : w.heap.size ≤ wr.heap.size := by have := HB0.out.size; have := HB.out.size; omega
      have HRX := Lib.hid ((hrx.below (bel_on HB0.out HB.out)).more hws)
      clear hrx
      obtain ⟨⟨rev, term, prim, sync⟩, a, m, cc⟩ := x
      simp only at k0 k1 k2 k3 HR2 HRX
      have hb2 := bel_alloc' wr (.cells #[.int .u64 (rev : Int), .int .u64 (term : Int), .int .i64 prim, .slice a m cc] 42)
      have hbox2 := heapNew (w := wr) (.cells #[.int .u64 (rev : Int), .int .u64 (term : Int), .int .i64 prim, .slice a m cc] 42)
      obtain ⟨wi, hwi⟩ : ∃ wi, wi = wr.alloc (.cells #[.int .u64 (rev : Int), .int .u64 (term : Int), .int .i64 prim, .slice a m cc] 42) := ⟨_, rfl⟩
      rw [← hwi] at hb2 hbox2
      have HBI := Lib.hid hb2
      have HBX2 := Lib.hid hbox2
      have HWI := Lib.hid hwi.symm
      have hsl := HRX.out.sl
      have hml : m = sync.length := by have := hsl.1; rw [ints_len] at this; exact this
      have hmc : m ≤ cc := hsl.2.1
      have hcm : cc ≤ 9223372036854775807 := by have := hsl.2.2.1; simpa [maxLen] using this
      have HML := Lib.hid hml
      have HCOND := HR2
      have HRW : Hid (res = (M.rises nodes (-1) (sync.drop 0) && (decide (1 ≤ term) && sync.contains prim) && (rows.drop (i + 1)).all (fun r => M.rightRow r nodes))) := Lib.hid (HR2.out.trans (by unfold M.rightRow; simp only [List.drop_zero, Bool.and_assoc]))
      have HBW := Lib.hid (HB.out.trans (HBI.out.mono HB.out.size))
      clear hb2 hbox2 hwi hsl hml HR2 HCOND
      go_wp2
      rw [HWI.out]
      go_loopw [5, 6] (fun last p w' => ∃ (k : Nat) (z : Int), p = .int .i64 (k : Int) ∧ last = .int .i64 z ∧ k ≤ m ∧ Hid (res = (M.rises nodes z (sync.drop k) && (decide (1 ≤ term) && sync.contains prim) && (rows.drop (i + 1)).all (fun r => M.rightRow r nodes))) ∧ Hid (Below wi.heap.size wi w')) (fun _ p _ => m - (intOf p).toNat)
      case atStart => exact ⟨0, -1, rfl, rfl, Nat.zero_le _, HRW, Lib.hid (Below.refl _ _)⟩
      case round =>
        clear HRW c0 c1 k0 k1 k2 k3
        obtain ⟨k, z, rfl, rfl, hk, HR, HBK⟩ := hrel
        rename World => wk
        have HB3 := Lib.hid (HBW.out.trans (HBK.out.mono HBW.out.size))
        have hboxt := (HBK.out.block w.heap.size (by have := HBI.out.size; have := heapLt HBXR.out; omega)).trans ((HBI.out.block w.heap.size (heapLt HBXR.out)).trans HBXR.out)
        have hboxs := (HBK.out.block wr.heap.size (heapLt HBX2.out)).trans HBX2.out
        have c0 : wk.cell? ⟨w.heap.size, 0, none⟩ = some (.int .i64 nodes) := cellAt 0 hboxt
        have s0 : wk.cell? ⟨wr.heap.size, 0, none⟩ = some (.int .u64 (rev : Int)) := cellAt 0 hboxs
        have s1 : wk.cell? ⟨wr.heap.size, 1, none⟩ = some (.int .u64 (term : Int)) := cellAt 1 hboxs
        have s2 : wk.cell? ⟨wr.heap.size, 2, none⟩ = some (.int .i64 prim) := cellAt 2 hboxs
        have s3 : wk.cell? ⟨wr.heap.size, 3, none⟩ = some (.slice a m cc) := cellAt 3 hboxs
        have hbrk : Below wr.heap.size wr wk := HBI.out.trans (HBK.out.mono HBI.out.size)
        clear hboxt hboxs
        by_cases hkm : k < m
        · obtain ⟨bs, os, rfl, hbs, hcs⟩ := rdi_cells (zs := sync) (n := m) HRX.out.sl (by omega)
          have hkl : k < sync.length := by have := HML.out; omega
          have hce := (hbrk.cell (p := ⟨bs, os + k, none⟩) hbs).trans (hcs k hkl)
          rw [List.getD_eq_getElem?_getD, List.getElem?_eq_getElem hkl, Option.getD_some] at hce
          rw [List.drop_eq_getElem_cons hkl] at HR
          generalize sync[k] = y at *
          have hkj : (k : Int) < (m : Int) := by omega
          have HBQ := Lib.hid (fun q => (show Below wi.heap.size wi (wk.drewN q) from ⟨HBK.out.os, HBK.out.tape, HBK.out.output, HBK.out.size, HBK.out.block⟩))
          have HBQ2 := Lib.hid (fun q => bel_on HB0.out (show Below w1.heap.size w1 (wk.drewN q) from ⟨HB3.out.os, HB3.out.tape, HB3.out.output, HB3.out.size, HB3.out.block⟩))
          clear hcs hbrk
          by_cases h5 : y ≤ z
          · rw [rises_cons_f (fun h => by omega), Bool.false_and, Bool.false_and] at HR
            have HQ : Hid (res = false) := HR
            go_wp2_with fail
            go_quiet (fail)
            go_wp2
            go_ret
            exact ⟨by rw [HQ.out]; rfl, HBQ2.out _⟩
          · by_cases h6 : y ≥ nodes
            · rw [rises_cons_f (fun h => by omega), Bool.false_and, Bool.false_and] at HR
              have HQ : Hid (res = false) := HR
              go_wp2_with fail
              go_quiet (fail)
              go_wp2
              go_ret
              exact ⟨by rw [HQ.out]; rfl, HBQ2.out _⟩
            · rw [rises_cons_t (by omega) (by omega)] at HR
              go_wp2_with fail
              go_quiet (fail)
              go_wp2
              exact ⟨⟨k + 1, y, by go_num, rfl, by omega, HR, Lib.hid (HBQ.out _)⟩, by simp [intOf]; omega⟩
        · rw [List.drop_eq_nil_of_le (by have := HML.out; omega), show M.rises nodes z [] = true from rfl, Bool.true_and] at HR
          have HCL := Lib.hid (refIn_any ⟨⟨rev, term, prim, sync⟩, a, m, cc⟩ prim wk ((HRX.out.below hbrk).more hbrk.size))
          unfold X.val at HCL
          simp only at HCL
          clear hbrk
          by_cases h0 : (term : Int) = 0
          · have HQ : Hid (res = false) := Lib.hid (HR.out.trans (by rw [decide_eq_false (by omega)]; rfl))
            clear HR
            go_wp2
            go_ret
            exact ⟨by rw [HQ.out]; rfl, bel_on HB0.out HB3.out⟩
          · rw [decide_eq_true (show 1 ≤ term by omega), Bool.true_and] at HR
            generalize sync.contains prim = q at *
            cases q with
            | true =>
              rw [Bool.true_and] at HR
              go_wp2_with fail
              refine HCL.out.mono ?_
              rintro e w4 ⟨rfl, hb⟩
              have HB4 := Lib.hid (HB3.out.trans (hb.mono HB3.out.size))
              clear hb
              go_wp2
              exact ⟨⟨i + 1, by go_num, by omega, HR, HB4⟩, by simp [intOf]; omega⟩
            | false =>
              rw [Bool.false_and] at HR
              have HQ : Hid (res = false) := HR
              go_wp2_with fail
              refine HCL.out.mono ?_
              rintro e w4 ⟨rfl, hb⟩
              have HB4 := Lib.hid (bel_on HB0.out (HB3.out.trans (hb.mono HB3.out.size)))
              clear hb
              go_wp2
              go_ret
              exact ⟨by rw [HQ.out]; rfl, HB4.out⟩
    · have HQ : Hid (res = true) := by
        refine Lib.hid ?_
        rw [HR.out, List.drop_eq_nil_of_le (by have := HRO.out; rw [← this]; have := HLN.out; simp; omega)]
        rfl
      have HB3 := Lib.hid (bel_on HB0.out HB.out)
      clear HR
      go_wp2
      go_ret
      exact ⟨by rw [HQ.out]; rfl, HB3.out⟩
end Go.Proofs.Ytghnelfgnfhclaa
