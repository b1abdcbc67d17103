/-
  The document's Same, by a contract.
-/
import Derived.Test.YtghnelfgnfhclaaMetaO
namespace Go.Proofs.Ytghnelfgnfhclaa
open Go.RowKit Mem
set_option linter.unusedVariables false
set_option maxRecDepth 100000

theorem dec_cons {α : Type} [DecidableEq α] (a b : α) (l m : List α) : decide (a :: l = b :: m) = (decide (a = b) && decide (l = m)) := by
  rw [Bool.eq_iff_iff]; simp
theorem dec_row (a b : M.R) : decide (a = b) = (decide (a.rev = b.rev) && (decide (a.term = b.term) && (decide (a.prim = b.prim) && decide (a.sync.drop 0 = b.sync.drop 0)))) := by
  rw [Bool.eq_iff_iff]; cases a; cases b; simp
theorem dec_tab (a b : M.T) : decide (a = b) = (decide (a.nodes = b.nodes) && decide (a.rows.drop 0 = b.rows.drop 0)) := by
  rw [Bool.eq_iff_iff]; cases a; cases b; simp
theorem rows_drop {rs : List M.R} {xs : List X} (e : xs.map X.r = rs) {i : Nat} (hi : i < xs.length) : rs.drop i = xs[i].r :: rs.drop (i + 1) := by
  have hl : i < rs.length := by rw [← e]; simpa using hi
  rw [List.drop_eq_getElem_cons hl]
  congr 1
  subst e
  simp
theorem dec_len {α : Type} [DecidableEq α] {l m : List α} (h : l.length ≠ m.length) : decide (l = m) = false := decide_eq_false (fun e => h (by rw [e]))

set_option maxHeartbeats 4000000 in
theorem same_any (v v' : Value) (t u : M.T) (w : World) (h : RdT w w.heap.size v t) (h' : RdT w w.heap.size v' u) : Calls Try.prog 12 #[v, v'] w (SaysB (decide (t = u)) w) := by
  obtain ⟨A, n, c, xs, rfl, hx, hrows, hnodes⟩ := h
  obtain ⟨A', n', c', xs', rfl, hx', hrows', hnodes'⟩ := h'
  obtain ⟨nodes, rows⟩ := t
  obtain ⟨nodes', rows'⟩ := u
  simp only at hrows hnodes hrows' hnodes' ⊢
  have HRR := Lib.hid (dec_tab ⟨nodes, rows⟩ ⟨nodes', rows'⟩)
  simp only at HRR
  generalize decide ((⟨nodes, rows⟩ : M.T) = ⟨nodes', rows'⟩) = res at *
  have hlen := hx.len
  have hlen' := hx'.len
  have hcap := hx.cap
  have hmax := hx.max
  have hlight := hx.light
  have hcap' := hx'.cap
  have hmax' := hx'.max
  have hlight' := hx'.light
  have HRL := Lib.hid (show rows.length = n by rw [← hrows, List.length_map, hlen])
  have HRL' := Lib.hid (show rows'.length = n' by rw [← hrows', List.length_map, hlen'])
  have HXS := Lib.hid hx
  have HRO := Lib.hid hrows
  have HLN := Lib.hid hlen
  have HXS' := Lib.hid hx'
  have HRO' := Lib.hid hrows'
  have HLN' := Lib.hid hlen'
  have hb0 := (bel_alloc' w (.cells #[.int .i64 nodes, .slice A n c] 24)).alloc (by simp) (.cells #[.int .i64 nodes', .slice A' n' c'] 24)
  have hbox := heapOld (o := .cells #[.int .i64 nodes', .slice A' n' c'] 24) (heapNew (w := w) (.cells #[.int .i64 nodes, .slice A n c] 24))
  have hbox' := heapNew (w := w.alloc (.cells #[.int .i64 nodes, .slice A n c] 24)) (.cells #[.int .i64 nodes', .slice A' n' c'] 24)
  rw [show (w.alloc (.cells #[.int .i64 nodes, .slice A n c] 24)).heap.size = w.heap.size + 1 from by simp] at hbox'
  obtain ⟨w1, hw1⟩ : ∃ w1, w1 = (w.alloc (.cells #[.int .i64 nodes, .slice A n c] 24)).alloc (.cells #[.int .i64 nodes', .slice A' n' c'] 24) := ⟨_, rfl⟩
  rw [← hw1] at hb0 hbox hbox'
  have HB0 := Lib.hid hb0
  have HBX := Lib.hid hbox
  have HBX' := Lib.hid hbox'
  have HW1 := Lib.hid hw1.symm
  clear hx hrows hlen hx' hrows' hlen' hb0 hbox hbox' hw1
  go_enter Try.func12, Try.ntmps12
  go_upto_region 1 with (fail)
  rw [HW1.out]
  have c0 : w1.cell? ⟨w.heap.size, 0, none⟩ = some (.int .i64 nodes) := cellAt 0 HBX.out
  have c1 : w1.cell? ⟨w.heap.size, 1, none⟩ = some (.slice A n c) := cellAt 1 HBX.out
  have d0 : w1.cell? ⟨w.heap.size + 1, 0, none⟩ = some (.int .i64 nodes') := cellAt 0 HBX'.out
  have d1 : w1.cell? ⟨w.heap.size + 1, 1, none⟩ = some (.slice A' n' c') := cellAt 1 HBX'.out
  rcases (Decidable.em (nodes = nodes')).symm with h1 | h1
  · have HQ : Hid (res = false) := Lib.hid (HRR.out.trans (by rw [decide_eq_false h1]; rfl))
    have e1 : (nodes != nodes') = true := by simpa using h1
    clear HRR h1
    go_wp2
    go_ret
    exact ⟨by rw [HQ.out]; rfl, HB0.out⟩
  have e1 : (nodes != nodes') = false := by simpa using h1
  rcases (Decidable.em (n = n')).symm with h2 | h2
  · have HQ : Hid (res = false) := Lib.hid (HRR.out.trans (by rw [dec_len (l := rows.drop 0) (by have := HRL.out; have := HRL'.out; simp; omega), Bool.and_false]))
    have e2 : ((n : Int) != (n' : Int)) = true := by simp; omega
    have e3 : (n != n') = true := by simp; omega
    clear HRR h1 h2
    go_wp2
    go_ret
    exact ⟨by rw [HQ.out]; rfl, HB0.out⟩
  have e2 : ((n : Int) != (n' : Int)) = false := by simp; omega
  have e3 : (n != n') = false := by simp; omega
  have HR0 : Hid (res = decide (rows.drop 0 = rows'.drop 0)) := Lib.hid (HRR.out.trans (by rw [decide_eq_true h1]; rfl))
  clear HRR
  have HNN := Lib.hid h2
  clear h1 h2
  go_wp2
  clear e1 e2 e3
  go_loopw [5] (fun p wr => ∃ i : Nat, p = .int .i64 (i : Int) ∧ i ≤ n ∧ Hid (res = decide (rows.drop i = rows'.drop i)) ∧ Hid (Below w1.heap.size w1 wr)) (fun p _ => n - (intOf p).toNat)
  case atStart => exact ⟨0, rfl, Nat.zero_le _, HR0, Lib.hid (Below.refl _ _)⟩
  case round =>
    clear HR0 c0 c1 d0 d1
    obtain ⟨i, rfl, hi, HR, HB⟩ := hrel
    rename World => wr
    have HBXR := Lib.hid ((HB.out.block w.heap.size (heapLt HBX.out)).trans HBX.out)
    have HBXR' := Lib.hid ((HB.out.block (w.heap.size + 1) (heapLt HBX'.out)).trans HBX'.out)
    have c0 : wr.cell? ⟨w.heap.size, 0, none⟩ = some (.int .i64 nodes) := cellAt 0 HBXR.out
    have c1 : wr.cell? ⟨w.heap.size, 1, none⟩ = some (.slice A n c) := cellAt 1 HBXR.out
    by_cases hlt : i < n
    · obtain ⟨b, off, rfl, hbb, hc⟩ := HXS.out.cells (by omega)
      obtain ⟨b', off', rfl, hbb', hc'⟩ := HXS'.out.cells (by have := HNN.out; omega)
      have hil : i < xs.length := by have := HLN.out; omega
      have hil' : i < xs'.length := by have := HLN'.out; have := HNN.out; omega
      have hall := HR.out
      rw [rows_drop HRO.out hil, rows_drop HRO'.out hil', dec_cons, dec_row] at hall
      have hrx := HXS.out.rows xs[i] (List.getElem_mem hil)
      have hrx' := HXS'.out.rows xs'[i] (List.getElem_mem hil')
      have hat := (hc i hil).keep (w' := wr) hbb (fun p hp => (bel_on HB0.out HB.out).cell hp)
      have hat' := (hc' i hil').keep (w' := wr) hbb' (fun p hp => (bel_on HB0.out HB.out).cell hp)
      obtain ⟨x, hxe⟩ : ∃ x, x = xs[i] := ⟨_, rfl⟩
      obtain ⟨y, hye⟩ : ∃ y, y = xs'[i] := ⟨_, rfl⟩
      rw [← hxe] at hall hrx hat
      rw [← hye] at hall hrx' hat'
      have HR2 := Lib.hid hall
      clear hall hc hc' hxe hye HR
      obtain ⟨k0, k1, k2, k3⟩ := hat
      have hws : w.heap.size ≤ wr.heap.size := by have := HB0.out.size; have := HB.out.size; omega
      have HRX := Lib.hid ((hrx.below (bel_on HB0.out HB.out)).more hws)
      have HRY := Lib.hid ((hrx'.below (bel_on HB0.out HB.out)).more hws)
      clear hrx hrx'
      obtain ⟨⟨rev, term, prim, sync⟩, a, m, cc⟩ := x
      obtain ⟨⟨rev', term', prim', sync'⟩, a', m', cc'⟩ := y
      obtain ⟨wa, hwa⟩ : ∃ wa, wa = wr.alloc (.cells #[.int .u64 (rev : Int), .int .u64 (term : Int), .int .i64 prim, .slice a m cc] 42) := ⟨_, rfl⟩
      have hba : Below wr.heap.size wr wa := by rw [hwa]; exact bel_alloc' wr _
      have hboxa : wa.heap[wr.heap.size]? = some (.cells #[.int .u64 (rev : Int), .int .u64 (term : Int), .int .i64 prim, .slice a m cc] 42 (0, 0)) := by rw [hwa]; exact heapNew (w := wr) _
      have hsa : wa.heap.size = wr.heap.size + 1 := by rw [hwa]; simp
      obtain ⟨j0, j1, j2, j3⟩ := hat'.keep (w' := wa) hbb' (fun p hp => hba.cell (by omega))
      have d1 : wa.cell? ⟨w.heap.size + 1, 1, none⟩ = some (.slice (some ⟨b', off', none⟩) n' c') := (hba.cell (p := ⟨w.heap.size + 1, 1, none⟩) (heapLt HBXR'.out)).trans (cellAt 1 HBXR'.out)
      simp only at k0 k1 k2 k3 j0 j1 j2 j3 HR2 HRX HRY
      obtain ⟨wi, hwi⟩ : ∃ wi, wi = wa.alloc (.cells #[.int .u64 (rev' : Int), .int .u64 (term' : Int), .int .i64 prim', .slice a' m' cc'] 42) := ⟨_, rfl⟩
      have hbi : Below wr.heap.size wr wi := by rw [hwi]; exact hba.alloc (by omega) _
      have hboxx : wi.heap[wr.heap.size]? = some (.cells #[.int .u64 (rev : Int), .int .u64 (term : Int), .int .i64 prim, .slice a m cc] 42 (0, 0)) := by rw [hwi]; exact heapOld hboxa
      have hboxy : wi.heap[wr.heap.size + 1]? = some (.cells #[.int .u64 (rev' : Int), .int .u64 (term' : Int), .int .i64 prim', .slice a' m' cc'] 42 (0, 0)) := by rw [hwi, ← hsa]; exact heapNew (w := wa) _
      have HBI := Lib.hid hbi
      have HBXX := Lib.hid hboxx
      have HBXY := Lib.hid hboxy
      have HWI := Lib.hid hwi.symm
      have HWA := Lib.hid hwa.symm
      have HHSA := Lib.hid hsa
      have hmc := HRX.out.sl.2.1
      have hcm : cc ≤ 9223372036854775807 := by have := HRX.out.sl.2.2.1; simpa [maxLen] using this
      have hmc' := HRY.out.sl.2.1
      have hcm' : cc' ≤ 9223372036854775807 := by have := HRY.out.sl.2.2.1; simpa [maxLen] using this
      simp only at hmc hmc'
      have HML := Lib.hid (show m = sync.length by have := HRX.out.sl.1; rw [ints_len] at this; exact this)
      have HML' := Lib.hid (show m' = sync'.length by have := HRY.out.sl.1; rw [ints_len] at this; exact this)
      have HBW := Lib.hid (HB.out.trans (HBI.out.mono HB.out.size))
      have hnI : (i : Int) < (n' : Int) := by have := HNN.out; omega
      have hnI' : i < n' := by have := HNN.out; omega
      clear hba hboxa hbi hboxx hboxy hwi hwa hat'
      go_upto_region 7 with (fail)
      rw [HWA.out]
      clear k0 k1 k2 k3 c0 c1
      have hsa := HHSA.out
      go_upto_region 8 with (fail)
      rw [HWI.out]
      clear j0 j1 j2 j3 d1 hsa
      have s0 : wi.cell? ⟨wr.heap.size, 0, none⟩ = some (.int .u64 (rev : Int)) := cellAt 0 HBXX.out
      have s1 : wi.cell? ⟨wr.heap.size, 1, none⟩ = some (.int .u64 (term : Int)) := cellAt 1 HBXX.out
      have s2 : wi.cell? ⟨wr.heap.size, 2, none⟩ = some (.int .i64 prim) := cellAt 2 HBXX.out
      have s3 : wi.cell? ⟨wr.heap.size, 3, none⟩ = some (.slice a m cc) := cellAt 3 HBXX.out
      have r0 : wi.cell? ⟨wr.heap.size + 1, 0, none⟩ = some (.int .u64 (rev' : Int)) := cellAt 0 HBXY.out
      have r1 : wi.cell? ⟨wr.heap.size + 1, 1, none⟩ = some (.int .u64 (term' : Int)) := cellAt 1 HBXY.out
      have r2 : wi.cell? ⟨wr.heap.size + 1, 2, none⟩ = some (.int .i64 prim') := cellAt 2 HBXY.out
      have r3 : wi.cell? ⟨wr.heap.size + 1, 3, none⟩ = some (.slice a' m' cc') := cellAt 3 HBXY.out
      rcases (Decidable.em (rev = rev')).symm with h1 | h1
      · have HQ : Hid (res = false) := Lib.hid (HR2.out.trans (by rw [decide_eq_false h1]; rfl))
        have e1 : ((rev : Int) != (rev' : Int)) = true := by simp; omega
        have e1n : (rev != rev') = true := by simp; omega
        clear HR2 h1
        go_wp2
        go_ret
        exact ⟨by rw [HQ.out]; rfl, bel_on HB0.out HBW.out⟩
      have e1 : ((rev : Int) != (rev' : Int)) = false := by simp; omega
      have e1n : (rev != rev') = false := by simp; omega
      rcases (Decidable.em (term = term')).symm with h2 | h2
      · have HQ : Hid (res = false) := Lib.hid (HR2.out.trans (by rw [decide_eq_false h2]; simp))
        have e2 : ((term : Int) != (term' : Int)) = true := by simp; omega
        have e2n : (term != term') = true := by simp; omega
        clear HR2 h1 h2
        go_wp2
        go_ret
        exact ⟨by rw [HQ.out]; rfl, bel_on HB0.out HBW.out⟩
      have e2 : ((term : Int) != (term' : Int)) = false := by simp; omega
      have e2n : (term != term') = false := by simp; omega
      rcases (Decidable.em (prim = prim')).symm with h3 | h3
      · have HQ : Hid (res = false) := Lib.hid (HR2.out.trans (by rw [decide_eq_false h3]; simp))
        have e3 : (prim != prim') = true := by simpa using h3
        clear HR2 h1 h2 h3
        go_wp2
        go_ret
        exact ⟨by rw [HQ.out]; rfl, bel_on HB0.out HBW.out⟩
      have e3 : (prim != prim') = false := by simpa using h3
      rcases (Decidable.em (m = m')).symm with h4 | h4
      · have HQ : Hid (res = false) := Lib.hid (HR2.out.trans (by rw [dec_len (l := sync.drop 0) (by have := HML.out; have := HML'.out; simp; omega)]; simp))
        have e4 : ((m : Int) != (m' : Int)) = true := by simp; omega
        have e4n : (m != m') = true := by simp; omega
        clear HR2 h1 h2 h3 h4
        go_wp2
        go_ret
        exact ⟨by rw [HQ.out]; rfl, bel_on HB0.out HBW.out⟩
      have e4 : ((m : Int) != (m' : Int)) = false := by simp; omega
      have e4n : (m != m') = false := by simp; omega
      have HRW : Hid (res = (decide (sync.drop 0 = sync'.drop 0) && decide (rows.drop (i + 1) = rows'.drop (i + 1)))) := Lib.hid (HR2.out.trans (by rw [decide_eq_true h1, decide_eq_true h2, decide_eq_true h3]; rfl))
      have HMM := Lib.hid h4
      clear HR2 h1 h2 h3 h4
      go_wp2
      clear e1 e1n e2 e2n e3 e4 e4n s0 s1 s2 s3 r0 r1 r2 r3
      go_loopw [8] (fun p w' => ∃ k : Nat, p = .int .i64 (k : Int) ∧ k ≤ m ∧ Hid (res = (decide (sync.drop k = sync'.drop k) && decide (rows.drop (i + 1) = rows'.drop (i + 1)))) ∧ Hid (Below wi.heap.size wi w')) (fun p _ => m - (intOf p).toNat)
      case atStart => exact ⟨0, rfl, Nat.zero_le _, HRW, Lib.hid (Below.refl _ _)⟩
      case round =>
        clear HRW
        obtain ⟨k, rfl, hk, HR, HBK⟩ := hrel
        rename World => wk
        have HB3 := Lib.hid (HBW.out.trans (HBK.out.mono HBW.out.size))
        have hboxx := (HBK.out.block wr.heap.size (heapLt HBXX.out)).trans HBXX.out
        have hboxy := (HBK.out.block (wr.heap.size + 1) (heapLt HBXY.out)).trans HBXY.out
        have s3 : wk.cell? ⟨wr.heap.size, 3, none⟩ = some (.slice a m cc) := cellAt 3 hboxx
        have r3 : wk.cell? ⟨wr.heap.size + 1, 3, none⟩ = some (.slice a' m' cc') := cellAt 3 hboxy
        have hbrk : Below wr.heap.size wr wk := HBI.out.trans (HBK.out.mono HBI.out.size)
        clear hboxx hboxy
        by_cases hkm : k < m
        · obtain ⟨bs, os, rfl, hbs, hcs⟩ := rdi_cells (zs := sync) (n := m) HRX.out.sl (by omega)
          obtain ⟨bs', os', rfl, hbs', hcs'⟩ := rdi_cells (zs := sync') (n := m') HRY.out.sl (by have := HMM.out; omega)
          have hkl : k < sync.length := by have := HML.out; omega
          have hkl' : k < sync'.length := by have := HML'.out; have := HMM.out; omega
          have hce := (hbrk.cell (p := ⟨bs, os + k, none⟩) hbs).trans (hcs k hkl)
          rw [List.getD_eq_getElem?_getD, List.getElem?_eq_getElem hkl, Option.getD_some] at hce
          have hce' := (hbrk.cell (p := ⟨bs', os' + k, none⟩) hbs').trans (hcs' k hkl')
          rw [List.getD_eq_getElem?_getD, List.getElem?_eq_getElem hkl', Option.getD_some] at hce'
          rw [List.drop_eq_getElem_cons hkl, List.drop_eq_getElem_cons hkl', dec_cons] at HR
          generalize sync[k] = y at *
          generalize sync'[k] = y' at *
          have hkj : (k : Int) < (m : Int) := by omega
          have hkj' : (k : Int) < (m' : Int) := by have := HMM.out; omega
          have hkn' : k < m' := by omega
          have HBQ := Lib.hid (fun q => (show Below wi.heap.size wi (wk.drewN q) from ⟨HBK.out.os, HBK.out.tape, HBK.out.output, HBK.out.size, HBK.out.block⟩))
          have HBQ2 := Lib.hid (fun q => bel_on HB0.out (show Below w1.heap.size w1 (wk.drewN q) from ⟨HB3.out.os, HB3.out.tape, HB3.out.output, HB3.out.size, HB3.out.block⟩))
          clear hcs hcs' hbrk
          by_cases h5 : y = y'
          · have e5 : (y != y') = false := by simpa using h5
            have HRN : Hid (res = (decide (sync.drop (k + 1) = sync'.drop (k + 1)) && decide (rows.drop (i + 1) = rows'.drop (i + 1)))) := Lib.hid (HR.out.trans (by rw [decide_eq_true h5]; rfl))
            clear HR h5
            go_wp2_with fail
            go_quiet (fail)
            go_wp2
            exact ⟨⟨k + 1, by go_num, by omega, HRN, Lib.hid (HBQ.out _)⟩, by simp [intOf]; omega⟩
          · have e5 : (y != y') = true := by simpa using h5
            have HQ : Hid (res = false) := Lib.hid (HR.out.trans (by rw [decide_eq_false h5]; rfl))
            clear HR h5
            go_wp2_with fail
            go_quiet (fail)
            go_wp2
            go_ret
            exact ⟨by rw [HQ.out]; rfl, HBQ2.out _⟩
        · have HRN : Hid (res = decide (rows.drop (i + 1) = rows'.drop (i + 1))) := Lib.hid (HR.out.trans (by rw [List.drop_eq_nil_of_le (by have := HML.out; omega), List.drop_eq_nil_of_le (by have := HML'.out; have := HMM.out; omega)]; rfl))
          clear HR hbrk
          go_wp2
          exact ⟨⟨i + 1, by go_num, by omega, HRN, HB3⟩, by simp [intOf]; omega⟩
    · have HQ : Hid (res = true) := Lib.hid (HR.out.trans (by rw [List.drop_eq_nil_of_le (by have := HRL.out; omega), List.drop_eq_nil_of_le (by have := HRL'.out; have := HNN.out; omega)]; rfl))
      have HB3 := Lib.hid (bel_on HB0.out HB.out)
      clear HR
      go_wp2
      go_ret
      exact ⟨by rw [HQ.out]; rfl, HB3.out⟩
end Go.Proofs.Ytghnelfgnfhclaa
