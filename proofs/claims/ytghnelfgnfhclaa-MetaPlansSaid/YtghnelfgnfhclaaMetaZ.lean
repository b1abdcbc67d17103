/-
  The document's Plan, by a contract; the law MetaPlans.
-/
import Derived.Test.YtghnelfgnfhclaaMetaY
import Derived.Test.YtghnelfgnfhclaaMetaO
namespace Go.Proofs.Ytghnelfgnfhclaa
open Go.RowKit Mem Go.ChangeShapes
set_option linter.unusedVariables false
set_option maxRecDepth 100000

/-- the loads so far, and the table's box beside them -/
structure TalB (w0 wr : World) (g nn : Nat) (rows : List M.R) (part : List Int) (nz : Int) (A : Option Addr) (n cp : Nat) : Prop where
  tal : Tallied w0 wr g nn rows part
  box : wr.heap[w0.heap.size]? = some (.cells #[.int .i64 nz, .slice A n cp] 24 (0, 0))
theorem TalB.put {w0 wr : World} {g nn x n cp : Nat} {rows : List M.R} {part : List Int} {nz : Int} {A : Option Addr} (h : TalB w0 wr g nn rows part nz A n cp) (hg : w0.heap.size < g) (hx : x < nn) (hn : ¬ (x : Int) ∈ part) :
    TalB w0 (wr.setCell ⟨g, x, none⟩ (.int .i64 ((M.tally nn rows part).getD x 0 + 1))) g nn rows (part ++ [(x : Int)]) nz A n cp :=
  ⟨h.tal.put hx hn, heapFar h.box (by show w0.heap.size ≠ g; omega)⟩

/-- the loads are there, to be read -/
structure LQ (w0 wr : World) (g : Nat) (zs : List Int) (nz : Int) (A : Option Addr) (n cp : Nat) : Prop where
  cells : ∀ j, j < zs.length → wr.cell? ⟨g, j, none⟩ = some (.int .i64 (zs.getD j 0))
  box : wr.heap[w0.heap.size]? = some (.cells #[.int .i64 nz, .slice A n cp] 24 (0, 0))
  below : Below w0.heap.size w0 wr
theorem LQ.drewN {w0 wr : World} {g n cp : Nat} {zs : List Int} {nz : Int} {A : Option Addr} (h : LQ w0 wr g zs nz A n cp) (q : Nat) : LQ w0 (wr.drewN q) g zs nz A n cp :=
  ⟨h.cells, h.box, ⟨h.below.os, h.below.tape, h.below.output, h.below.size, h.below.block⟩⟩

set_option maxHeartbeats 4000000 in
theorem refPlan_any (A : Option Addr) (n cp : Nat) (t : M.T) (w : World) (ht : TabIs w w.heap.size A n cp t) (hi : I64 t.nodes) : Calls Try.prog 23 #[.agg #[.int .i64 t.nodes, .slice A n cp]] w (PlanOf t w) := by
  have HT := Lib.hid ht
  have HFM := Lib.hid (fun (W : World) (h : Below w.heap.size w W) => refForm_any _ t W ((ht.on h).rdt hi))
  have HLN := Lib.hid ht.len
  obtain ⟨hcap, hmax, _⟩ := ht.bounds
  clear ht
  obtain ⟨fm, hfm⟩ : ∃ fm, fm = M.form t := ⟨_, rfl⟩
  have HF := Lib.hid hfm
  rw [← hfm] at HFM
  clear hfm
  obtain ⟨nz, hnz⟩ : ∃ nz, nz = t.nodes := ⟨_, rfl⟩
  have HNZ := Lib.hid hnz
  rw [← hnz] at HFM ⊢
  clear hnz hi
  obtain ⟨w1, hw1⟩ : ∃ w1, w1 = w.alloc (.cells #[.int .i64 nz, .slice A n cp] 24) := ⟨_, rfl⟩
  have hbx : w1.heap[w.heap.size]? = some (.cells #[.int .i64 nz, .slice A n cp] 24 (0, 0)) := by rw [hw1]; exact heapNew (w := w) _
  have hs1 : w1.heap.size = w.heap.size + 1 := by rw [hw1]; simp
  have HS1 := Lib.hid hs1
  have HB := Lib.hid (show Below w.heap.size w w1 by rw [hw1]; exact bel_alloc' w _)
  have HBX := Lib.hid hbx
  have HW1 := Lib.hid hw1.symm
  clear hw1 hbx hs1
  have c0 : w1.cell? ⟨w.heap.size, 0, none⟩ = some (.int .i64 nz) := cellAt 0 HBX.out
  have c1 : w1.cell? ⟨w.heap.size, 1, none⟩ = some (.slice A n cp) := cellAt 1 HBX.out
  go_enter Try.func23, Try.ntmps23
  go_upto_region 1 with (fail)
  rw [HW1.out]
  go_wp2_with fail
  refine (HFM.out w1 HB.out).mono ?_
  rintro e w2 ⟨rfl, hb2⟩
  have HB2 := Lib.hid (HB.out.trans (hb2.mono HB.out.size))
  have HBX2 := Lib.hid ((hb2.block w.heap.size (heapLt HBX.out)).trans HBX.out)
  have HS2 := Lib.hid (show w.heap.size + 1 ≤ w2.heap.size by have := hb2.size; have := HS1.out; omega)
  clear hb2 c0 c1
  have c0 : w2.cell? ⟨w.heap.size, 0, none⟩ = some (.int .i64 nz) := cellAt 0 HBX2.out
  have c1 : w2.cell? ⟨w.heap.size, 1, none⟩ = some (.slice A n cp) := cellAt 1 HBX2.out
  cases fm
  · have HM := Lib.hid (show M.moves t = false by unfold M.moves; rw [← HF.out]; rfl)
    go_wp2
    refine bodyPost_ret (v := .tuple #[.int .i64 0, .int .i64 0, .int .i64 0, .bool false]) (by simp [results, Try.results23, go_sem]) rfl ?_
    exact ⟨plan_no HM.out, HB2.out⟩
  · obtain ⟨hq1, hq5, hqr1, hqr8⟩ := M.form_nodes HF.out.symm
    obtain ⟨nn, hnn⟩ : ∃ nn : Nat, nz = (nn : Int) := ⟨nz.toNat, by have := HNZ.out; omega⟩
    subst hnn
    have hnn0 : 0 < nn := by have := HNZ.out; omega
    have hnn5 : nn ≤ 5 := by have := HNZ.out; omega
    have hn8 : n ≤ 8 := by have := HLN.out; omega
    clear hq1 hq5 hqr1 hqr8
    have hmk := run_make_row' (P := Try.prog) 40 3 (.int .i64 0) 8 Try.underlying40 Try.infoInt rfl .i64 .i64 nn (by omega) (by omega)
    obtain ⟨w3, hw3⟩ : ∃ w3, w3 = w2.alloc (.cells (madeCells #[.int .i64 0] nn) 3) := ⟨_, rfl⟩
    obtain ⟨g, hg⟩ : ∃ g, g = w2.heap.size := ⟨_, rfl⟩
    have HG := Lib.hid (show w.heap.size < g by rw [hg]; have := HS2.out; omega)
    have HTL := Lib.hid (show TalB w w3 g nn (t.rows.take 0) [] (nn : Int) A n cp by
      refine ⟨⟨?_, by rw [hw3]; exact HB2.out.alloc HB2.out.size _⟩, by rw [hw3]; exact heapOld HBX2.out⟩
      rw [List.take_zero, M.tally_zero, hw3, hg]
      exact (own_zeros w2 nn hnn5).less HS2.out)
    have HW3 := Lib.hid (show w2.alloc (.cells (madeCells #[.int .i64 0] nn) 3) = w3 from hw3.symm)
    have HGE := Lib.hid hg.symm
    clear hw3 hg
    go_upto_region 4 with (fail)
    rw [HW3.out, HGE.out]
    clear hmk c0 c1
    go_wp2
    go_loopw [9] (fun p wr => ∃ i : Nat, p = .int .i64 (i : Int) ∧ i ≤ n ∧ Hid (TalB w wr g nn (t.rows.take i) [] (nn : Int) A n cp)) (fun p _ => n - (intOf p).toNat)
    case atStart => exact ⟨0, rfl, Nat.zero_le _, HTL⟩
    case round =>
      clear HTL
      obtain ⟨i, rfl, hi, HR⟩ := hrel
      rename World => wr
      by_cases hin : i < n
      · have hrb : i < t.rows.length := by have := HLN.out; omega
        obtain ⟨b, off, x, rfl, hbb, hat0, hrx, hrow⟩ := HT.out.row hin
        have HAT := Lib.hid hat0
        have hxr : x.r = t.rows[i] := by rw [List.getElem?_eq_getElem hrb] at hrow; exact (Option.some.inj hrow).symm
        have hfr := (form_row HF.out.symm (List.getElem_mem hrb)).1
        have hsucc := take_succ_rows hrb
        rw [← hxr] at hfr hsucc
        have HSU := Lib.hid hsucc
        have HRI := Lib.hid hfr
        have HRX := Lib.hid hrx
        clear hrow hxr hfr hsucc hrx hat0
        obtain ⟨⟨rv, term, prim, sync⟩, ax, m, cx⟩ := x
        simp only at HRI
        have hml : m = sync.length := by have := HRX.out.sl.1; rw [ints_len] at this; exact this
        have hmm := HRX.out.sl.max
        have hmc := HRX.out.sl.2.1
        have HML := Lib.hid hml
        clear hml
        simp only at hmm hmc
        have HR1 := Lib.hid (show TalB w wr g nn (t.rows.take i) (sync.take 0) (nn : Int) (some ⟨b, off, none⟩) n cp from HR.out)
        have c1 : wr.cell? ⟨w.heap.size, 1, none⟩ = some (.slice (some ⟨b, off, none⟩) n cp) := cellAt 1 HR.out.box
        clear HR
        go_wp2
        clear c1
        go_loopw [10] (fun p wi => ∃ j : Nat, p = .int .i64 (j : Int) ∧ j ≤ m ∧ Hid (TalB w wi g nn (t.rows.take i) (sync.take j) (nn : Int) (some ⟨b, off, none⟩) n cp)) (fun p _ => m - (intOf p).toNat)
        case atStart => exact ⟨0, rfl, Nat.zero_le _, HR1⟩
        case round =>
          clear HR1
          obtain ⟨j, rfl, hj, HJ⟩ := hrel
          rename World => wi
          have c1 : wi.cell? ⟨w.heap.size, 1, none⟩ = some (.slice (some ⟨b, off, none⟩) n cp) := cellAt 1 HJ.out.box
          have k3 : wi.cell? ⟨b, off + i * 4 + 3, none⟩ = some (.slice ax m cx) := (HJ.out.tal.below.cell (p := ⟨b, off + i * 4 + 3, none⟩) hbb).trans HAT.out.2.2.2
          by_cases hjm : j < m
          · have hjl : j < sync.length := by have := HML.out; omega
            have hmem := M.rises_mem HRI.out sync[j] (List.getElem_mem hjl)
            obtain ⟨y, hy⟩ : ∃ y : Nat, sync[j] = (y : Int) := ⟨sync[j].toNat, by omega⟩
            have hy0 := hy
            have hyn : y < nn := by have := HNZ.out; omega
            have hnot := fresh_next (M.rises_pair HRI.out) hjl
            have hput := HJ.out.put HG.out hyn (hy ▸ hnot)
            rw [← hy, ← take_succ_ints hjl] at hput
            have HPUT := Lib.hid hput
            obtain ⟨hc, hfz, hgl, hgb⟩ := HJ.out.tal.own.atI (j := y) (by rw [M.tally_len]; exact hyn)
            have hbd := M.getD_le (M.tally_le nn (t.rows.take i) (sync.take j)) (by omega) y
            have hlt : (t.rows.take i).length ≤ 8 := by rw [List.length_take]; have := HLN.out; omega
            generalize (M.tally nn (t.rows.take i) (sync.take j)).getD y 0 = val at *
            obtain ⟨bs, os, e1, hbs, hcs⟩ := rdi_cells HRX.out.sl (show 0 < m by omega)
            simp only at e1
            subst e1
            have hcj := (HJ.out.tal.below.cell (p := ⟨bs, os + j, none⟩) (by omega)).trans (hcs j hjl)
            have hyb : (y : Int) < (nn : Int) := by omega
            have hwv : IntKind.i64.wrap (val + 1) = val + 1 := by rw [IntKind.wrap_i64]; omega
            clear hmem hnot hput hy hbd hlt hcs HJ
            rw [show sync.getD j 0 = (y : Int) from by rw [List.getD_eq_getElem?_getD, List.getElem?_eq_getElem hjl]; exact hy0] at hcj
            clear hy0 hjl
            go_wp2
            exact ⟨⟨j + 1, by go_num, by omega, HPUT⟩, by simp [intOf]; omega⟩
          · obtain rfl : j = m := by omega
            have HJ2 := Lib.hid (show TalB w wi g nn (t.rows.take (i + 1)) [] (nn : Int) (some ⟨b, off, none⟩) n cp by
              rw [HSU.out]
              refine ⟨Tallied.next (r := ⟨rv, term, prim, sync⟩) ?_, HJ.out.box⟩
              have := HJ.out.tal
              rwa [List.take_of_length_le (l := sync) (by have := HML.out; omega)] at this)
            clear HJ
            go_wp2
            exact ⟨⟨i + 1, by go_num, by omega, HJ2⟩, by simp [intOf]; omega⟩
      · obtain rfl : i = n := by omega
        have HR2 := Lib.hid (show TalB w wr g nn t.rows [] (nn : Int) A i cp by
          have := HR.out
          rwa [List.take_of_length_le (l := t.rows) (by have := HLN.out; omega)] at this)
        clear HR
        have hnt : t.nodes.toNat = nn := by rw [← HNZ.out, Int.toNat_natCast]
        obtain ⟨zs, hzs⟩ : ∃ zs, zs = M.loads t := ⟨_, rfl⟩
        have HZS := Lib.hid hzs
        have HLL := Lib.hid (show zs.length = nn by rw [hzs, M.loads_len, hnt])
        have HLQ := Lib.hid (show LQ w wr g zs (nn : Int) A i cp by
          refine ⟨fun j hj => ?_, HR2.out.box, HR2.out.tal.below⟩
          have h1 := HR2.out.tal.own
          have h2 := M.tally_all t
          rw [hnt] at h2
          rw [h2, ← hzs] at h1
          exact (h1.atI hj).1)
        clear HR2 hzs
        have c1 : wr.cell? ⟨w.heap.size, 1, none⟩ = some (.slice A i cp) := cellAt 1 HLQ.out.box
        go_wp2
        clear c1
        go_loopw [7, 8, 11] (fun p q r wq => ∃ k : Nat, p = .int .i64 (M.top zs (k - 1) : Int) ∧ q = .int .i64 (M.low zs (k - 1) : Int) ∧ r = .int .i64 (k : Int) ∧ 1 ≤ k ∧ k ≤ nn ∧ Hid (LQ w wq g zs (nn : Int) A i cp)) (fun _ _ r _ => nn - (intOf r).toNat)
        case atStart => exact ⟨1, rfl, rfl, rfl, Nat.le_refl _, hnn0, HLQ⟩
        case round =>
          clear HLQ
          obtain ⟨k, rfl, rfl, rfl, hk1, hkn, HQ⟩ := hrel
          rename World => wq
          have c0 : wq.cell? ⟨w.heap.size, 0, none⟩ = some (.int .i64 (nn : Int)) := cellAt 0 HQ.out.box
          have htl := M.top_le zs (k - 1)
          have hll := M.low_le zs (k - 1)
          by_cases hlt : k < nn
          · have y1 := HQ.out.cells k (by rw [HLL.out]; exact hlt)
            have y2 := HQ.out.cells (M.top zs (k - 1)) (by rw [HLL.out]; omega)
            have y3 := HQ.out.cells (M.low zs (k - 1)) (by rw [HLL.out]; omega)
            have hT : (zs.getD (M.top zs (k - 1)) 0 < zs.getD k 0 ∧ M.top zs k = k) ∨ (¬ zs.getD (M.top zs (k - 1)) 0 < zs.getD k 0 ∧ M.top zs k = M.top zs (k - 1)) := by
              have e : M.top zs ((k - 1) + 1) = if zs.getD (M.top zs (k - 1)) 0 < zs.getD ((k - 1) + 1) 0 then (k - 1) + 1 else M.top zs (k - 1) := rfl
              rw [Nat.sub_add_cancel hk1] at e
              rcases Decidable.em (zs.getD (M.top zs (k - 1)) 0 < zs.getD k 0) with h | h
              · exact .inl ⟨h, by rw [e, if_pos h]⟩
              · exact .inr ⟨h, by rw [e, if_neg h]⟩
            have hL : (zs.getD k 0 < zs.getD (M.low zs (k - 1)) 0 ∧ M.low zs k = k) ∨ (¬ zs.getD k 0 < zs.getD (M.low zs (k - 1)) 0 ∧ M.low zs k = M.low zs (k - 1)) := by
              have e : M.low zs ((k - 1) + 1) = if zs.getD ((k - 1) + 1) 0 < zs.getD (M.low zs (k - 1)) 0 then (k - 1) + 1 else M.low zs (k - 1) := rfl
              rw [Nat.sub_add_cancel hk1] at e
              rcases Decidable.em (zs.getD k 0 < zs.getD (M.low zs (k - 1)) 0) with h | h
              · exact .inl ⟨h, by rw [e, if_pos h]⟩
              · exact .inr ⟨h, by rw [e, if_neg h]⟩
            generalize M.top zs (k - 1) = a at *
            generalize M.low zs (k - 1) = b at *
            generalize zs.getD a 0 = va at *
            generalize zs.getD b 0 = vb at *
            generalize zs.getD k 0 = vk at *
            have han : (a : Int) < (nn : Int) := by omega
            have hbn : (b : Int) < (nn : Int) := by omega
            have hkI : (k : Int) < (nn : Int) := by omega
            have hwk : IntKind.i64.wrap ((k : Int) + 1) = (k : Int) + 1 := by rw [IntKind.wrap_i64]; omega
            rcases hT with ⟨h1, h2⟩ | ⟨h1, h2⟩ <;> rcases hL with ⟨h3, h4⟩ | ⟨h3, h4⟩
            all_goals
              have H2 := Lib.hid h2; have H4 := Lib.hid h4
              clear h2 h4
              go_wp2_with fail
              go_quiet (fail)
              go_wp2_with fail
              go_quiet (fail)
              go_wp2
              exact ⟨⟨k + 1, by rw [Nat.add_sub_cancel, H2.out], by rw [Nat.add_sub_cancel, H4.out], by go_num, by omega, by omega, Lib.hid (HQ.out.drewN _)⟩, by simp [intOf]; omega⟩
          · obtain rfl : k = nn := by omega
            obtain ⟨-, -, -, -, ⟨m5, m6⟩, ⟨m7, m8⟩, m9, m10⟩ := M.plan_math HF.out.symm k (by rw [← HNZ.out])
            have hff : M.top zs (k - 1) = M.from_ t := by unfold M.from_; rw [← HZS.out, ← HNZ.out, Int.toNat_natCast]
            have hgg : M.low zs (k - 1) = M.to_ t := by unfold M.to_; rw [← HZS.out, ← HNZ.out, Int.toNat_natCast]
            have HFF := Lib.hid hff; have HGG := Lib.hid hgg
            have HMV := Lib.hid (show M.moves t = decide (2 ≤ zs.getD (M.top zs (k - 1)) 0 - zs.getD (M.low zs (k - 1)) 0) by unfold M.moves; rw [← HF.out, hff, hgg, HZS.out]; rfl)
            rw [← HZS.out, ← hff] at m5 m6
            rw [← HZS.out, ← hgg] at m7 m8
            have y2 := HQ.out.cells (M.top zs (k - 1)) (by rw [HLL.out]; omega)
            have y3 := HQ.out.cells (M.low zs (k - 1)) (by rw [HLL.out]; omega)
            clear m9 m10 hff hgg
            generalize M.top zs (k - 1) = ff at *
            generalize M.low zs (k - 1) = gg at *
            generalize zs.getD ff 0 = hi at *
            generalize zs.getD gg 0 = lo at *
            have han : (ff : Int) < (k : Int) := by omega
            have hbn : (gg : Int) < (k : Int) := by omega
            have hwr : IntKind.i64.wrap (hi - lo) = hi - lo := by rw [IntKind.wrap_i64]; omega
            rcases (Decidable.em (2 ≤ hi - lo)).symm with hd | hd
            · have HM := Lib.hid (show M.moves t = false by rw [HMV.out, decide_eq_false hd])
              go_wp2_with fail
              go_quiet (fail)
              go_wp2
              refine bodyPost_ret (v := .tuple #[.int .i64 0, .int .i64 0, .int .i64 0, .bool false]) (by simp [results, Try.results23, go_sem]) rfl ?_
              exact ⟨plan_no HM.out, (HQ.out.drewN _).below⟩
            · have HM := Lib.hid (show M.moves t = true by rw [HMV.out, decide_eq_true hd])
              have HWL := Lib.hid (M.which_lt HM.out)
              have HWR := Lib.hid (M.which_row HWL.out)
              have HWB := Lib.hid (fun i h hl => M.which_before (t := t) (i := i) h hl)
              rw [← HFF.out, ← HGG.out] at HWR HWB
              go_wp2_with fail
              go_quiet (fail)
              have HQ2 := Lib.hid (HQ.out.drewN nq)
              generalize wq.drewN nq = w5 at *
              clear y2 y3 c0 hwr htl hll HQ
              have c1 : w5.cell? ⟨w.heap.size, 1, none⟩ = some (.slice A i cp) := cellAt 1 HQ2.out.box
              go_wp2
              clear c1
              go_loopw [12] (fun p wr => ∃ z : Nat, p = .int .i64 (z : Int) ∧ z ≤ i ∧ Hid (z ≤ M.which t) ∧ Hid (wr.heap[w.heap.size]? = some (.cells #[.int .i64 (k : Int), .slice A i cp] 24 (0, 0))) ∧ Hid (Below w.heap.size w wr)) (fun p _ => i - (intOf p).toNat)
              case atStart => exact ⟨0, rfl, Nat.zero_le _, Lib.hid (Nat.zero_le _), Lib.hid HQ2.out.box, Lib.hid HQ2.out.below⟩
              case round =>
                obtain ⟨z, rfl, hzn, HIW, HBX5, HBW⟩ := hrel
                rename World => wr
                have hwl := heapLt HBX5.out
                by_cases hlt : z < i
                · have hrb : z < t.rows.length := by have := HLN.out; omega
                  obtain ⟨b, off, x, rfl, hbb, hat, hrx, hrow⟩ := HT.out.row hlt
                  have hat := hat.keep (w' := wr) hbb (fun p hp => HBW.out.cell hp)
                  have hxr : x.r = t.rows[z] := by rw [List.getElem?_eq_getElem hrb] at hrow; exact (Option.some.inj hrow).symm
                  have hrx1 := (hrx.below HBW.out).more HBW.out.size
                  have HC1 := Lib.hid (refIn_any x (ff : Int) wr hrx1)
                  have HRX := Lib.hid (fun (W : World) (h : Below wr.heap.size wr W) => refIn_any x (gg : Int) W ((hrx1.below h).more h.size))
                  have HMW := Lib.hid (show M.mayMove ff gg t.rows[z] = (x.r.sync.contains (ff : Int) && !x.r.sync.contains (gg : Int)) by rw [← hxr]; rfl)
                  have HWI := Lib.hid (show z = M.which t → M.mayMove ff gg t.rows[z] = true from fun e => by have := HWR.out; subst e; exact this)
                  have HWJ := Lib.hid (show z < M.which t → M.mayMove ff gg t.rows[z] = false from fun e => HWB.out z e hrb)
                  rw [HMW.out] at HWI HWJ
                  obtain ⟨⟨rv, term, prim, sync⟩, ax, m, cx⟩ := x
                  obtain ⟨k0, k1, k2, k3⟩ := hat
                  unfold X.val at HC1 HRX
                  simp only at k0 k1 k2 k3 HC1 HRX HWI HWJ
                  clear hrx hrow hxr HMW hrx1
                  have HK := Lib.hid (show wr.cell? ⟨b, off + z * 4, none⟩ = some (.int .u64 (rv : Int)) ∧ wr.cell? ⟨b, off + z * 4 + 1, none⟩ = some (.int .u64 (term : Int)) ∧ wr.cell? ⟨b, off + z * 4 + 2, none⟩ = some (.int .i64 prim) ∧ wr.cell? ⟨b, off + z * 4 + 3, none⟩ = some (.slice ax m cx) from ⟨k0, k1, k2, k3⟩)
                  have hbw : b < wr.heap.size := by have := HBW.out.size; omega
                  have c1 : wr.cell? ⟨w.heap.size, 1, none⟩ = some (.slice (some ⟨b, off, none⟩) i cp) := cellAt 1 HBX5.out
                  generalize sync.contains (ff : Int) = q1 at *
                  generalize sync.contains (gg : Int) = q2 at *
                  rcases Decidable.em (z = M.which t) with he | he
                  · have hq := HWI.out he
                    have HE := Lib.hid he
                    rw [Bool.and_eq_true, Bool.not_eq_true'] at hq
                    obtain ⟨rfl, rfl⟩ := hq
                    clear he HWI HWJ
                    go_wp2_with fail
                    refine HC1.out.mono ?_
                    rintro e w8 ⟨rfl, hb8⟩
                    have HB8 := Lib.hid (HBW.out.trans (hb8.mono HBW.out.size))
                    have c1 := (hb8.cell (p := ⟨w.heap.size, 1, none⟩) hwl).trans c1
                    have k0 := (hb8.cell (p := ⟨b, off + z * 4, none⟩) hbw).trans HK.out.1
                    have k1 := (hb8.cell (p := ⟨b, off + z * 4 + 1, none⟩) hbw).trans HK.out.2.1
                    have k2 := (hb8.cell (p := ⟨b, off + z * 4 + 2, none⟩) hbw).trans HK.out.2.2.1
                    have k3 := (hb8.cell (p := ⟨b, off + z * 4 + 3, none⟩) hbw).trans HK.out.2.2.2
                    have HC2 := Lib.hid (HRX.out w8 hb8)
                    clear hb8
                    go_wp2_with fail
                    refine HC2.out.mono ?_
                    rintro e w9 ⟨rfl, hb9⟩
                    have HB9 := Lib.hid (HB8.out.trans (hb9.mono HB8.out.size))
                    clear hb9 c1 k0 k1 k2 k3
                    go_wp2
                    refine bodyPost_ret (v := .tuple #[.int .i64 (z : Int), .int .i64 (ff : Int), .int .i64 (gg : Int), .bool true]) (by simp [results, Try.results23, go_sem]) rfl ?_
                    refine ⟨?_, HB9.out⟩
                    rw [← plan_yes HM.out, ← HE.out, ← HFF.out, ← HGG.out]
                  · have hq := HWJ.out (by have := HIW.out; omega)
                    have HN := Lib.hid (show z + 1 ≤ M.which t by have := HIW.out; omega)
                    clear he HWI HWJ HIW
                    cases q1
                    · go_wp2_with fail
                      refine HC1.out.mono ?_
                      rintro e w8 ⟨rfl, hb8⟩
                      have HB8 := Lib.hid (HBW.out.trans (hb8.mono HBW.out.size))
                      have HBX8 := Lib.hid ((hb8.block w.heap.size hwl).trans HBX5.out)
                      clear hb8 c1 k0 k1 k2 k3
                      go_wp2
                      exact ⟨⟨z + 1, by go_num, by omega, HN, HBX8, HB8⟩, by simp [intOf]; omega⟩
                    · rw [Bool.true_and, Bool.not_eq_false'] at hq
                      subst hq
                      go_wp2_with fail
                      refine HC1.out.mono ?_
                      rintro e w8 ⟨rfl, hb8⟩
                      have HB8 := Lib.hid (HBW.out.trans (hb8.mono HBW.out.size))
                      have hbx8 := (hb8.block w.heap.size hwl).trans HBX5.out
                      have hwl8 := heapLt hbx8
                      have HBX8 := Lib.hid hbx8
                      have c1 := (hb8.cell (p := ⟨w.heap.size, 1, none⟩) hwl).trans c1
                      have k0 := (hb8.cell (p := ⟨b, off + z * 4, none⟩) hbw).trans HK.out.1
                      have k1 := (hb8.cell (p := ⟨b, off + z * 4 + 1, none⟩) hbw).trans HK.out.2.1
                      have k2 := (hb8.cell (p := ⟨b, off + z * 4 + 2, none⟩) hbw).trans HK.out.2.2.1
                      have k3 := (hb8.cell (p := ⟨b, off + z * 4 + 3, none⟩) hbw).trans HK.out.2.2.2
                      have HC2 := Lib.hid (HRX.out w8 hb8)
                      clear hb8 hbx8
                      go_wp2_with fail
                      refine HC2.out.mono ?_
                      rintro e w9 ⟨rfl, hb9⟩
                      have HB9 := Lib.hid (HB8.out.trans (hb9.mono HB8.out.size))
                      have HBX9 := Lib.hid ((hb9.block w.heap.size hwl8).trans HBX8.out)
                      clear hb9 c1 k0 k1 k2 k3
                      go_wp2
                      exact ⟨⟨z + 1, by go_num, by omega, HN, HBX9, HB9⟩, by simp [intOf]; omega⟩
                · exfalso
                  have h1 := HIW.out
                  have h2 := HWL.out
                  have h3 := HLN.out
                  omega

set_option maxHeartbeats 4000000 in
theorem metaPlans_any (A : Option Addr) (n cp : Nat) (t : M.T) (w : World) (ht : TabIs w w.heap.size A n cp t) (hi : I64 t.nodes) : Calls Try.prog 7 #[.agg #[.int .i64 t.nodes, .slice A n cp]] w (SaysB true w) := by
  have HAW := Lib.hid (fun W => awake14_any W)
  have HP1 := Lib.hid (fun (W : World) (h : Below w.heap.size w W) => plan_any A n cp t W (ht.on h) hi)
  have HP2 := Lib.hid (fun (W : World) (h : Below w.heap.size w W) => refPlan_any A n cp t W (ht.on h) hi)
  unfold PlanOf at HP1 HP2
  generalize M.pS t = ps at *
  generalize M.pF t = pf at *
  generalize M.pG t = pg at *
  generalize M.moves t = pm at *
  clear ht hi
  generalize t.nodes = nz at *
  obtain ⟨w1, hw1⟩ : ∃ w1, w1 = w.alloc (.cells #[.int .i64 nz, .slice A n cp] 24) := ⟨_, rfl⟩
  have hbx : w1.heap[w.heap.size]? = some (.cells #[.int .i64 nz, .slice A n cp] 24 (0, 0)) := by rw [hw1]; exact heapNew (w := w) _
  have HB := Lib.hid (show Below w.heap.size w w1 by rw [hw1]; exact bel_alloc' w _)
  have HBX := Lib.hid hbx
  have HW1 := Lib.hid hw1.symm
  clear hw1 hbx
  go_enter Try.func7, Try.ntmps7
  go_upto_region 1 with (fail)
  rw [HW1.out]
  go_wp2_with fail
  refine (HAW.out w1).mono ?_
  rintro e w2 ⟨rfl, hb2⟩
  have HB2 := Lib.hid (HB.out.trans (hb2.mono HB.out.size))
  have HBX2 := Lib.hid ((hb2.block w.heap.size (heapLt HBX.out)).trans HBX.out)
  clear hb2
  have c0 : w2.cell? ⟨w.heap.size, 0, none⟩ = some (.int .i64 nz) := cellAt 0 HBX2.out
  have c1 : w2.cell? ⟨w.heap.size, 1, none⟩ = some (.slice A n cp) := cellAt 1 HBX2.out
  go_wp2_with fail
  refine (HP1.out w2 HB2.out).mono ?_
  rintro e w3 ⟨rfl, hb3⟩
  have HB3 := Lib.hid (HB2.out.trans (hb3.mono HB2.out.size))
  have HBX3 := Lib.hid ((hb3.block w.heap.size (heapLt HBX2.out)).trans HBX2.out)
  clear hb3 c0 c1
  have c0 : w3.cell? ⟨w.heap.size, 0, none⟩ = some (.int .i64 nz) := cellAt 0 HBX3.out
  have c1 : w3.cell? ⟨w.heap.size, 1, none⟩ = some (.slice A n cp) := cellAt 1 HBX3.out
  go_wp2_with fail
  refine (HP2.out w3 HB3.out).mono ?_
  rintro e w4 ⟨rfl, hb4⟩
  have HB4 := Lib.hid (HB3.out.trans (hb4.mono HB3.out.size))
  clear hb4 c0 c1
  have e1 : ((ps : Int) == (ps : Int)) = true := by simp
  cases pm
  all_goals
    go_wp2
    go_ret
    exact ⟨by first | rfl | simp, HB4.out⟩
end Go.Proofs.Ytghnelfgnfhclaa
