/-
  The document's Apply where the place and the turn are right, by a contract.
-/
import Derived.Test.YtghnelfgnfhclaaMetaSb
import Derived.Test.YtghnelfgnfhclaaMetaSd
import Derived.Test.YtghnelfgnfhclaaMetaPm
namespace Go.Proofs.Ytghnelfgnfhclaa
open Go.RowKit Mem Go.ChangeShapes
set_option linter.unusedVariables false
set_option maxRecDepth 100000

theorem refList_len (r : M.R) (c : M.C) (k : Nat) : (M.refList r c k).length ≤ k := by
  unfold M.refList
  refine Nat.le_trans (List.length_filter_le _ _) ?_
  simp

set_option maxHeartbeats 8000000 in
theorem refApply_yes (t : M.T) (A : Option Addr) (n cp : Nat) (kind k d rev : Nat) (w : World) (B : Nat) (hB : B ≤ w.heap.size) (ht : TabIs w B A n cp t) (hk256 : kind < 256) (nn : Nat) (hnn : t.nodes = (nn : Int)) (hform : M.form t = true) (hkn : k < n) (hd : d < nn)
    (hrev : rev = (M.row t ⟨kind, (k : Int), (d : Int), rev⟩).rev) (hr60 : rev < 1152921504606846976) (ht60 : (M.row t ⟨kind, (k : Int), (d : Int), rev⟩).term < 1152921504606846976) :
    Calls Try.prog 18 #[.agg #[.int .i64 (nn : Int), .slice A n cp], .agg #[.int .u8 (kind : Int), .int .i64 (k : Int), .int .i64 (d : Int), .int .u64 (rev : Int)]] w (AppliedR t n ⟨kind, (k : Int), (d : Int), rev⟩ B w) := by
  obtain ⟨i0, hi, hz0, hz1, hz2⟩ := info_of Try.infoInt
  have HI := Lib.hid hi; have HZ0 := Lib.hid hz0; have HZ1 := Lib.hid hz1; have HZ2 := Lib.hid hz2
  clear hi hz0 hz1 hz2
  obtain ⟨i1, hi, hz0, hz1, hz2⟩ := info_of Try.infoShard
  have HJS := Lib.hid hi; have HY0 := Lib.hid hz0; have HY1 := Lib.hid hz1; have HY2 := Lib.hid hz2
  clear hi hz0 hz1 hz2
  have HT := Lib.hid ht
  have HBB := Lib.hid hB
  have HF := Lib.hid (fun (W : World) (h : Below w.heap.size w W) => refForm_any _ t W (((ht.more hB).on h).rdt (by rw [hnn]; unfold I64; have := M.form_nodes hform; omega)))
  rw [hform, hnn] at HF
  obtain ⟨hcap, hmax, hlight⟩ := ht.bounds
  have hn5 : nn ≤ 5 := by have := M.form_nodes hform; omega
  obtain ⟨b, off, x, rfl, hbb, hat0, hrx, hrow⟩ := ht.row hkn
  have HAT := Lib.hid hat0
  have HRX := Lib.hid hrx
  have hro : M.row t ⟨kind, (k : Int), (d : Int), rev⟩ = x.r := by unfold M.row; rw [show ((⟨kind, (k : Int), (d : Int), rev⟩ : M.C).shard).toNat = k from Int.toNat_natCast k, hrow]; rfl
  have HRO := Lib.hid hro
  rw [hro] at hrev ht60
  have hrise : M.rises (nn : Int) (-1) x.r.sync = true := by
    have := (form_row hform (r := x.r) (List.mem_of_getElem? hrow)).1
    rwa [hnn] at this
  have HRI := Lib.hid hrise
  have HROW := Lib.hid hrow
  have HFM := Lib.hid hform
  have HNN := Lib.hid hnn
  clear ht hnn hform hat0 hrx hro hrise hrow hlight
  obtain ⟨⟨rv, term, prim, sync⟩, ax, mx, cx⟩ := x
  simp only at hrev ht60 HRI
  subst hrev
  have g6 : decide ((1152921504606846976 : Int) ≤ (rev : Int)) = false := by rw [decide_eq_false_iff_not]; omega
  have g7 : decide ((1152921504606846976 : Int) ≤ (term : Int)) = false := by rw [decide_eq_false_iff_not]; omega
  have hwr : IntKind.u64.wrap ((rev : Int) + 1) = (rev : Int) + 1 := by rw [IntKind.wrap_u64]; omega
  have hwt : IntKind.u64.wrap ((term : Int) + 1) = (term : Int) + 1 := by rw [IntKind.wrap_u64]; omega
  have HR60 := Lib.hid hr60; have HT60 := Lib.hid ht60
  clear hr60 ht60
  obtain ⟨K, hK⟩ : ∃ K : Int, K = (kind : Int) := ⟨_, rfl⟩
  rw [← hK]
  have HK := Lib.hid hK
  clear hK
  obtain ⟨w1, hw1⟩ : ∃ w1, w1 = ((w.alloc (.cells #[.int .i64 (nn : Int), .slice (some ⟨b, off, none⟩) n cp] 24)).alloc (.cells #[.int .u8 K, .int .i64 (k : Int), .int .i64 (d : Int), .int .u64 (rev : Int)] 39)).alloc (.cells #[.int .i64 0, .slice none 0 0] 24) := ⟨_, rfl⟩
  have hb : Below w.heap.size w w1 := by rw [hw1]; exact ((bel_alloc' w _).alloc (by simp) _).alloc (by simp; omega) _
  have hbt : w1.heap[w.heap.size]? = some (.cells #[.int .i64 (nn : Int), .slice (some ⟨b, off, none⟩) n cp] 24 (0, 0)) := by rw [hw1]; exact heapOld (heapOld (heapNew (w := w) _))
  have hbc : w1.heap[w.heap.size + 1]? = some (.cells #[.int .u8 K, .int .i64 (k : Int), .int .i64 (d : Int), .int .u64 (rev : Int)] 39 (0, 0)) := by
    rw [hw1]
    have h := heapOld (o := .cells #[.int .i64 0, .slice none 0 0] 24) (heapNew (w := w.alloc (.cells #[.int .i64 (nn : Int), .slice (some ⟨b, off, none⟩) n cp] 24)) (.cells #[.int .u8 K, .int .i64 (k : Int), .int .i64 (d : Int), .int .u64 (rev : Int)] 39))
    simpa using h
  have hbr : w1.heap[w.heap.size + 1 + 1]? = some (.cells #[.int .i64 0, .slice none 0 0] 24 (0, 0)) := by
    rw [hw1]
    have h := heapNew (w := (w.alloc (.cells #[.int .i64 (nn : Int), .slice (some ⟨b, off, none⟩) n cp] 24)).alloc (.cells #[.int .u8 K, .int .i64 (k : Int), .int .i64 (d : Int), .int .u64 (rev : Int)] 39)) (.cells #[.int .i64 0, .slice none 0 0] 24)
    simpa using h
  have HBW := Lib.hid hb; have HBT := Lib.hid hbt; have HBC := Lib.hid hbc; have HBR := Lib.hid hbr; have HW1 := Lib.hid hw1.symm
  clear hb hbt hbc hbr hw1
  go_enter Try.func18, Try.ntmps18
  go_upto_region 1 with (fail)
  rw [HW1.out]
  have a0 : w1.cell? ⟨w.heap.size, 0, none⟩ = some (.int .i64 (nn : Int)) := cellAt 0 HBT.out
  have a1 : w1.cell? ⟨w.heap.size, 1, none⟩ = some (.slice (some ⟨b, off, none⟩) n cp) := cellAt 1 HBT.out
  go_wp2_with fail
  refine (HF.out w1 HBW.out).mono ?_
  rintro e w2 ⟨rfl, hb2⟩
  have HB2 := Lib.hid (HBW.out.trans (hb2.mono HBW.out.size))
  have hbt := (hb2.block w.heap.size (heapLt HBT.out)).trans HBT.out
  have hbc := (hb2.block (w.heap.size + 1) (heapLt HBC.out)).trans HBC.out
  have hbr := (hb2.block (w.heap.size + 1 + 1) (heapLt HBR.out)).trans HBR.out
  clear hb2 a0 a1
  have a0 : w2.cell? ⟨w.heap.size, 0, none⟩ = some (.int .i64 (nn : Int)) := cellAt 0 hbt
  have a1 : w2.cell? ⟨w.heap.size, 1, none⟩ = some (.slice (some ⟨b, off, none⟩) n cp) := cellAt 1 hbt
  have b1 : w2.cell? ⟨w.heap.size + 1, 1, none⟩ = some (.int .i64 (k : Int)) := cellAt 1 hbc
  have b2 : w2.cell? ⟨w.heap.size + 1, 2, none⟩ = some (.int .i64 (d : Int)) := cellAt 2 hbc
  obtain ⟨k0, k1, k2, k3⟩ := HAT.out.keep hbb (fun p hp => HB2.out.cell (by omega))
  simp only at k0 k1 k2 k3
  obtain ⟨w3, hw3⟩ : ∃ w3, w3 = w2.alloc (.cells #[.int .u64 (rev : Int), .int .u64 (term : Int), .int .i64 prim, .slice ax mx cx] 42) := ⟨_, rfl⟩
  obtain ⟨r, hr⟩ : ∃ r, r = w2.heap.size := ⟨_, rfl⟩
  have HL0 := Lib.hid (show RefL w w3 r (nn : Int) (some ⟨b, off, none⟩) n cp K (k : Int) (d : Int) rev ⟨⟨rev, term, prim, sync⟩, ax, mx, cx⟩ (.slice none 0 0) [] by
    rw [hw3, hr]
    exact ⟨heapOld hbt, heapOld hbc, heapOld hbr, heapNew (w := w2) _, OwnV.nil _ _ _, HB2.out.alloc HB2.out.size _⟩)
  have hwr3 : w.heap.size + 1 + 1 < r := by rw [hr]; exact heapLt hbr
  have HWR := Lib.hid hwr3
  have HW3 := Lib.hid hw3.symm
  have HRE := Lib.hid hr.symm
  clear hw3 hr hbt hbc hbr hwr3
  have hkI : (k : Int) < (n : Int) := by omega
  have hdI : (d : Int) < (nn : Int) := by omega
  go_upto_region 5 with (fail)
  rw [HW3.out, HRE.out]
  clear k0 k1 k2 k3 a0 a1 b1 b2
  have b2 : w3.cell? ⟨w.heap.size + 1, 2, none⟩ = some (.int .i64 (d : Int)) := cellAt 2 HL0.out.cmd
  have b3 : w3.cell? ⟨w.heap.size + 1, 3, none⟩ = some (.int .u64 (rev : Int)) := cellAt 3 HL0.out.cmd
  have s0 : w3.cell? ⟨r, 0, none⟩ = some (.int .u64 (rev : Int)) := cellAt 0 HL0.out.row
  have s1 : w3.cell? ⟨r, 1, none⟩ = some (.int .u64 (term : Int)) := cellAt 1 HL0.out.row
  have s2 : w3.cell? ⟨r, 2, none⟩ = some (.int .i64 prim) := cellAt 2 HL0.out.row
  have s3 : w3.cell? ⟨r, 3, none⟩ = some (.slice ax mx cx) := cellAt 3 HL0.out.row
  have hrr : ((rev : Int) != (rev : Int)) = false := by simp
  have HIN := Lib.hid (show ∀ (z : Int) (W : World), Below w.heap.size w W → Calls Try.prog 27 #[.agg #[.int .u64 (rev : Int), .int .u64 (term : Int), .int .i64 prim, .slice ax mx cx], .int .i64 z] W (SaysB (sync.contains z) W) from fun z W hW => refIn_any ⟨⟨rev, term, prim, sync⟩, ax, mx, cx⟩ z W ((HRX.out.below (hW.mono hB)).more (Nat.le_trans hB hW.size)))
  go_wp2_with fail
  refine (HIN.out (d : Int) w3 HL0.out.below).mono ?_
  rintro e w4 ⟨rfl, hb4⟩
  have HL4 := Lib.hid (HL0.out.on hb4)
  clear hb4 b2 b3 s0 s1 s2 s3 HL0 g6 g7 hrr
  have HQD : Hid (∃ q, q = sync.contains (d : Int)) := Lib.hid ⟨_, rfl⟩
  obtain ⟨q, hq⟩ := HQD.out
  have HQ := Lib.hid hq
  rw [← hq]
  clear hq HQD
  obtain ⟨cc, hcc⟩ : ∃ cc : M.C, cc = ⟨kind, (k : Int), (d : Int), rev⟩ := ⟨_, rfl⟩
  obtain ⟨rr, hrr⟩ : ∃ rr : M.R, rr = ⟨rev, term, prim, sync⟩ := ⟨_, rfl⟩
  have HCC := Lib.hid hcc; have HRR := Lib.hid hrr
  rw [← hcc]
  clear hcc hrr
  go_wp2
  go_loopw [9, 10] (fun u p wr => ∃ j : Nat, p = .int .i64 (j : Int) ∧ j ≤ nn ∧ Hid (RefL w wr r (nn : Int) (some ⟨b, off, none⟩) n cp K (k : Int) (d : Int) rev ⟨⟨rev, term, prim, sync⟩, ax, mx, cx⟩ u (M.refList rr cc j))) (fun _ p _ => nn - (intOf p).toNat)
  case atStart => exact ⟨0, rfl, Nat.zero_le _, HL4⟩
  case round =>
    clear HL4
    obtain ⟨j, rfl, hj, HJ⟩ := hrel
    rename World => wr
    by_cases hjn : j < nn
    · have b0 : wr.cell? ⟨w.heap.size, 0, none⟩ = some (.int .i64 (nn : Int)) := cellAt 0 HJ.out.tab
      have s0 : wr.cell? ⟨r, 0, none⟩ = some (.int .u64 (rev : Int)) := cellAt 0 HJ.out.row
      have s1 : wr.cell? ⟨r, 1, none⟩ = some (.int .u64 (term : Int)) := cellAt 1 HJ.out.row
      have s2 : wr.cell? ⟨r, 2, none⟩ = some (.int .i64 prim) := cellAt 2 HJ.out.row
      have s3 : wr.cell? ⟨r, 3, none⟩ = some (.slice ax mx cx) := cellAt 3 HJ.out.row
      have HINJ := Lib.hid (HIN.out (j : Int) wr HJ.out.below)
      have HSU : Hid (M.refList rr cc (j + 1) = M.refList rr cc j ++ (if (if (j : Int) = (d : Int) then decide (kind ≠ 3) else sync.contains (j : Int)) = true then [(j : Int)] else [])) := by
        refine Lib.hid ?_
        rw [M.refList_succ, HCC.out, HRR.out]
      have HLL := Lib.hid (Nat.le_trans (refList_len rr cc j) (show j ≤ 5 by omega))
      generalize sync.contains (j : Int) = qj at *
      go_wp2_with fail
      refine HINJ.out.mono ?_
      rintro e wi ⟨rfl, hbi⟩
      have HI5 := Lib.hid (HJ.out.on hbi)
      clear hbi b0 s0 s1 s2 s3 HJ HINJ
      have c0 : wi.cell? ⟨w.heap.size + 1, 0, none⟩ = some (.int .u8 K) := cellAt 0 HI5.out.cmd
      have c2 : wi.cell? ⟨w.heap.size + 1, 2, none⟩ = some (.int .i64 (d : Int)) := cellAt 2 HI5.out.cmd
      obtain ⟨L, hL⟩ : ∃ L, L = M.refList rr cc j := ⟨_, rfl⟩
      rw [← hL] at HI5 HSU HLL
      clear hL
      by_cases hjd : j = d
      · have e1 : ((j : Int) == (d : Int)) = true := by rw [hjd]; simp
        rw [if_pos (show (j : Int) = (d : Int) by rw [hjd])] at HSU
        by_cases hk3 : kind = 3
        · obtain rfl : K = 3 := by rw [HK.out, hk3]; rfl
          rw [if_neg (by simp [hk3])] at HSU
          clear hk3
          subst hjd
          rw [List.append_nil] at HSU
          have HNX := Lib.hid (show RefL w wi r (nn : Int) (some ⟨b, off, none⟩) n cp 3 (k : Int) (j : Int) rev ⟨⟨rev, term, prim, sync⟩, ax, mx, cx⟩ u9 (M.refList rr cc (j + 1)) by rw [HSU.out]; exact HI5.out)
          go_wp2
          exact ⟨⟨j + 1, by go_num, by omega, HNX⟩, by simp [intOf]; omega⟩
        · have hK3 : ¬ K = 3 := by have := HK.out; omega
          have hKb : (K != 3) = true := by simp [hK3]
          rw [if_pos (by simp [hk3])] at HSU
          clear hk3
          subst hjd
          have hown0 := HI5.out.own
          obtain ⟨Au, cu, hu, hju, hcu⟩ := hown0.form
          rw [ints_len] at hu hju
          subst hu
          have HOND := Lib.hid (show World.ownsRow (wi.alloc (.cells #[.int .i64 (j : Int)] 3)) w.heap.size 3 1 (.slice Au L.length cu) L.length (ints L) from by
            have h := hown0
            unfold OwnV at h
            rw [ints_len] at h
            exact World.ownsRow.alloc h _)
          have HGR := Lib.hid (fun (w8 : World) (v8 : Value) h1 h2 => RefL.app (w8 := w8) HI5.out (k := (j : Int)) (o := .cells #[.int .i64 (j : Int)] 3) (v8 := v8) h1 h2)
          have HLN := Lib.hid (show L.length ≤ 5 by have := HLL.out; omega)
          have hwsz := HI5.out.below.size
          clear hown0
          generalize hLl : L.length = m at *
          have hm5 := HLN.out
          clear HLN
          go_wp2_with (at_builtin; go_must (refine wpList_appX (wi.alloc _) rfl (.tmp 87) (.tmp 89) _ rfl w.heap.size 3 i0 _ 1 8 Try.underlying40 HI.out HZ0.out HZ1.out HZ2.out rfl (by omega) (.slice Au m cu) m (ints L) HOND.out rfl ⟨wi.heap.size, 0, none⟩ 1 1 [.int .i64 (j : Int)] rfl rfl (World.news_of_block (cs := #[.int .i64 (j : Int)]) (t := 3) (fr := (0, 0)) (heap_alloc_new wi _)) (by simp [Value.oneCell']) (by simp only [maxLen]; omega) (by omega) (by simp; omega) ?_))
          intro v8 w8 hown8 hgrow8 hat8
          have HNX := Lib.hid (HGR.out w8 v8 hown8 hgrow8)
          rw [← HSU.out] at HNX
          clear hown8 hgrow8 hat8 hm5 hju hcu
          go_wp2
          exact ⟨⟨j + 1, by go_num, by omega, HNX⟩, by simp [intOf]; omega⟩
      · have e1 : ((j : Int) == (d : Int)) = false := by simp; omega
        have hjdI : ¬ (j : Int) = (d : Int) := by omega
        rw [if_neg hjdI] at HSU
        cases qj
        · rw [if_neg (by simp)] at HSU
          rw [List.append_nil] at HSU
          have HNX := Lib.hid (show RefL w wi r (nn : Int) (some ⟨b, off, none⟩) n cp K (k : Int) (d : Int) rev ⟨⟨rev, term, prim, sync⟩, ax, mx, cx⟩ u9 (M.refList rr cc (j + 1)) by rw [HSU.out]; exact HI5.out)
          go_wp2
          exact ⟨⟨j + 1, by go_num, by omega, HNX⟩, by simp [intOf]; omega⟩
        · rw [if_pos rfl] at HSU
          have hown0 := HI5.out.own
          obtain ⟨Au, cu, hu, hju, hcu⟩ := hown0.form
          rw [ints_len] at hu hju
          subst hu
          have HOND := Lib.hid (show World.ownsRow (wi.alloc (.cells #[.int .i64 (j : Int)] 3)) w.heap.size 3 1 (.slice Au L.length cu) L.length (ints L) from by
            have h := hown0
            unfold OwnV at h
            rw [ints_len] at h
            exact World.ownsRow.alloc h _)
          have HGR := Lib.hid (fun (w8 : World) (v8 : Value) h1 h2 => RefL.app (w8 := w8) HI5.out (k := (j : Int)) (o := .cells #[.int .i64 (j : Int)] 3) (v8 := v8) h1 h2)
          have HLN := Lib.hid (show L.length ≤ 5 by have := HLL.out; omega)
          have hwsz := HI5.out.below.size
          clear hown0
          generalize hLl : L.length = m at *
          have hm5 := HLN.out
          clear HLN
          go_wp2_with (at_builtin; go_must (refine wpList_appX (wi.alloc _) rfl (.tmp 87) (.tmp 89) _ rfl w.heap.size 3 i0 _ 1 8 Try.underlying40 HI.out HZ0.out HZ1.out HZ2.out rfl (by omega) (.slice Au m cu) m (ints L) HOND.out rfl ⟨wi.heap.size, 0, none⟩ 1 1 [.int .i64 (j : Int)] rfl rfl (World.news_of_block (cs := #[.int .i64 (j : Int)]) (t := 3) (fr := (0, 0)) (heap_alloc_new wi _)) (by simp [Value.oneCell']) (by simp only [maxLen]; omega) (by omega) (by simp; omega) ?_))
          intro v8 w8 hown8 hgrow8 hat8
          have HNX := Lib.hid (HGR.out w8 v8 hown8 hgrow8)
          rw [← HSU.out] at HNX
          clear hown8 hgrow8 hat8 hm5 hju hcu
          go_wp2
          exact ⟨⟨j + 1, by go_num, by omega, HNX⟩, by simp [intOf]; omega⟩
    · obtain rfl : j = nn := by omega
      have b0 : wr.cell? ⟨w.heap.size, 0, none⟩ = some (.int .i64 (j : Int)) := cellAt 0 HJ.out.tab
      have c0 : wr.cell? ⟨w.heap.size + 1, 0, none⟩ = some (.int .u8 K) := cellAt 0 HJ.out.cmd
      have c2 : wr.cell? ⟨w.heap.size + 1, 2, none⟩ = some (.int .i64 (d : Int)) := cellAt 2 HJ.out.cmd
      have s2 : wr.cell? ⟨r, 2, none⟩ = some (.int .i64 prim) := cellAt 2 HJ.out.row
      have HLL := Lib.hid (Nat.le_trans (refList_len rr cc j) hn5)
      obtain ⟨L, hL⟩ : ∃ L, L = M.refList rr cc j := ⟨_, rfl⟩
      rw [← hL] at HJ HLL
      have HL := Lib.hid hL
      clear hL
      have HROr := Lib.hid (show M.row t cc = rr by rw [HCC.out, HRO.out, HRR.out])
      have HFT := Lib.hid (show M.fits t cc = M.does rr cc by
        unfold M.fits
        rw [HROr.out]
        have h1 : M.place t cc = true := by
          unfold M.place
          rw [HFM.out, HCC.out, HNN.out]
          have := HT.out.len
          simp only [Bool.true_and, Bool.and_eq_true, decide_eq_true_eq]
          omega
        have h2 : M.turn rr cc = true := by
          unfold M.turn M.bound
          rw [HCC.out, HRR.out, decide_eq_true_eq]
          exact ⟨rfl, HR60.out, HT60.out⟩
        rw [h1, h2]
        rfl)
      have HAZ := Lib.hid (show M.does rr cc = true → (M.apply t cc).rows = t.rows.set k (M.next rr cc) from fun h => by
        unfold M.apply
        rw [if_pos (HFT.out.trans h), HROr.out, HCC.out]
        show t.rows.set ((k : Int).toNat) _ = _
        rw [Int.toNat_natCast])
      have hpar : kind = 1 ∨ kind = 2 ∨ kind = 3 ∨ (kind ≠ 1 ∧ kind ≠ 2 ∧ kind ≠ 3) := by omega
      rcases hpar with h | h | h | ⟨h1, h2, h3⟩
      · obtain rfl : K = 1 := by rw [HK.out, h]; rfl
        cases q
        · have HDO := Lib.hid (show M.does rr cc = false by unfold M.does; rw [HCC.out, HRR.out]; simp only [h]; rw [← HQ.out])
          have a1 : wr.cell? ⟨w.heap.size, 1, none⟩ = some (.slice (some ⟨b, off, none⟩) n cp) := cellAt 1 HJ.out.tab
          have p0 : wr.cell? ⟨w.heap.size + 1 + 1, 0, none⟩ = some (.int .i64 0) := cellAt 0 HJ.out.res
          have p1 : wr.cell? ⟨w.heap.size + 1 + 1, 1, none⟩ = some (.slice none 0 0) := cellAt 1 HJ.out.res
          have q0 := freeAt 0 HJ.out.res
          have q1 := freeAt 1 HJ.out.res
          have HE := Lib.hid (heapSet 1 (.slice (some ⟨b, off, none⟩) n cp) (heapSet 0 (.int .i64 (j : Int)) HJ.out.res))
          have HE2 := Lib.hid ((HJ.out.below.setCell (p := ⟨w.heap.size + 1 + 1, 0, none⟩) (by show w.heap.size ≤ w.heap.size + 1 + 1; omega) (.int .i64 (j : Int))).setCell (p := ⟨w.heap.size + 1 + 1, 1, none⟩) (by show w.heap.size ≤ w.heap.size + 1 + 1; omega) (.slice (some ⟨b, off, none⟩) n cp))
          go_wp2
          refine bodyPost_ret (results_row2 rfl _ _ (w.heap.size + 1 + 1) 24 #[.int .i64 (j : Int), .slice (some ⟨b, off, none⟩) n cp] (0, 0) _ rfl HE.out Try.underlying24 rfl Try.tabSize) rfl ?_
          refine ⟨some ⟨b, off, none⟩, cp, by rw [HNN.out, ← HCC.out, HFT.out, HDO.out]; rfl, ?_, HE2.out⟩
          intro W hW
          rw [← HCC.out, apply_no (HFT.out.trans HDO.out)]
          exact (HT.out.keep (fun p hp => (hW.cell (p := p) (by have := HE2.out.size; omega) (fun e => by have := e.1; omega)).trans (HE2.out.cell (by omega)))).more (by have := hW.size; have := HE2.out.size; omega)
        · have HDO := Lib.hid (show M.does rr cc = true by unfold M.does; rw [HCC.out, HRR.out]; simp only [h]; rw [← HQ.out])
          have HAY := Lib.hid (show (M.apply t cc).rows = t.rows.set k ⟨rev + 1, term + 1, (d : Int), sync⟩ by rw [HAZ.out HDO.out]; unfold M.next; rw [HCC.out, HRR.out]; simp only [h])
          clear h
          have s0 : wr.cell? ⟨r, 0, none⟩ = some (.int .u64 (rev : Int)) := cellAt 0 HJ.out.row
          have s1 : wr.cell? ⟨r, 1, none⟩ = some (.int .u64 (term : Int)) := cellAt 1 HJ.out.row
          have s3 : wr.cell? ⟨r, 3, none⟩ = some (.slice ax mx cx) := cellAt 3 HJ.out.row
          have f0 := freeAt 0 HJ.out.row
          have f1 := freeAt 1 HJ.out.row
          have f2 := freeAt 2 HJ.out.row
          have f3 := freeAt 3 HJ.out.row
          have a1 : wr.cell? ⟨w.heap.size, 1, none⟩ = some (.slice (some ⟨b, off, none⟩) n cp) := cellAt 1 HJ.out.tab
          obtain ⟨w5, hw5⟩ : ∃ w5, w5 = ((wr.setCell ⟨r, 1, none⟩ (.int .u64 ((term : Int) + 1))).setCell ⟨r, 2, none⟩ (.int .i64 (d : Int))).setCell ⟨r, 0, none⟩ (.int .u64 ((rev : Int) + 1)) := ⟨_, rfl⟩
          have hwr := HWR.out
          have HY := Lib.hid (show RefY B w w5 r (j : Int) (some ⟨b, off, none⟩) n cp 1 (k : Int) (d : Int) rev ⟨⟨rev + 1, term + 1, (d : Int), sync⟩, ax, mx, cx⟩ by
            rw [hw5]
            refine ⟨heapFar (heapFar (heapFar (HJ.out.tab) (by simp only; omega)) (by simp only; omega)) (by simp only; omega), heapFar (heapFar (heapFar (HJ.out.cmd) (by simp only; omega)) (by simp only; omega)) (by simp only; omega), heapFar (heapFar (heapFar (HJ.out.res) (by simp only; omega)) (by simp only; omega)) (by simp only; omega), heapSet 0 (.int .u64 ((rev : Int) + 1)) (heapSet 2 (.int .i64 (d : Int)) (heapSet 1 (.int .u64 ((term : Int) + 1)) (HJ.out.row))), (((HJ.out.below).setCell (p := ⟨r, 1, none⟩) (by show w.heap.size ≤ r; omega) _).setCell (p := ⟨r, 2, none⟩) (by show w.heap.size ≤ r; omega) _).setCell (p := ⟨r, 0, none⟩) (by show w.heap.size ≤ r; omega) _, ?_, ?_, ?_, ?_, ?_, hB, ?_⟩
            · show rev + 1 < _; have := HR60.out; omega
            · show term + 1 < _; have := HT60.out; omega
            · show I64 (d : Int); unfold I64; omega
            · exact HRX.out.sync
            · exact HRX.out.light
            · refine .inl ?_
              have hs := HRX.out.sl.below (HJ.out.below.mono hB)
              exact (((hs).keep (fun p hp => World.cell?_setCell_other _ _ p _ (fun e => by rw [← e] at hp; simp at hp; omega))).keep (fun p hp => World.cell?_setCell_other _ _ p _ (fun e => by rw [← e] at hp; simp at hp; omega))).keep (fun p hp => World.cell?_setCell_other _ _ p _ (fun e => by rw [← e] at hp; simp at hp; omega)))
          have HW5 := Lib.hid hw5.symm
          clear hw5
          go_upto_region 25 with (fail)
          rw [HW5.out]
          clear s0 s1 s2 s3 f0 f1 f2 f3 a1 b0 c0 c2 HJ
          have b0 : w5.cell? ⟨w.heap.size, 0, none⟩ = some (.int .i64 (j : Int)) := cellAt 0 HY.out.tab
          obtain ⟨w6, hw6⟩ : ∃ w6, w6 = w5.alloc (.cells #[.int .i64 (j : Int), .slice none 0 0] 24) := ⟨_, rfl⟩
          obtain ⟨o, ho⟩ : ∃ o, o = w5.heap.size := ⟨_, rfl⟩
          have HY6 := Lib.hid (show RefY B w w6 r (j : Int) (some ⟨b, off, none⟩) n cp 1 (k : Int) (d : Int) rev ⟨⟨rev + 1, term + 1, (d : Int), sync⟩, ax, mx, cx⟩ by rw [hw6]; exact HY.out.on (bel_alloc' w5 _))
          have hob : w6.heap[o]? = some (.cells #[.int .i64 (j : Int), .slice none 0 0] 24 (0, 0)) := by rw [hw6, ho]; exact heapNew (w := w5) _
          have hor : r ≠ o := by rw [ho]; have := heapLt HY.out.row; omega
          have hoh : w.heap.size + 1 + 1 < o := by rw [ho]; exact heapLt HY.out.res
          have HOB := Lib.hid hob; have HOR := Lib.hid hor; have HOH := Lib.hid hoh
          have HW6 := Lib.hid hw6.symm; have HO := Lib.hid ho.symm
          clear hw6 ho hob hor
          go_upto_region 26 with (fail)
          rw [HW6.out, HO.out]
          clear b0 HY
          have b1 : w6.cell? ⟨w.heap.size, 1, none⟩ = some (.slice (some ⟨b, off, none⟩) n cp) := cellAt 1 HY6.out.tab
          have o1 : w6.cell? ⟨o, 1, none⟩ = some (.slice none 0 0) := cellAt 1 HOB.out
          have fo1 := freeAt 1 HOB.out
          obtain ⟨xs, hxs, hmap⟩ := HT.out
          have hx6 := hxs.below (HY6.out.below.mono hB)
          obtain ⟨bq, oq, eq1, hbq, hcq⟩ := hx6.cells (by omega)
          injection eq1 with eq1; injection eq1 with eqa eqb; subst eqa eqb
          have HNEWS := Lib.hid (rdx_news hcq (B := 0) (c := 0) (n := 0))
          have HXL := Lib.hid hx6.len
          have HXR := Lib.hid hxs.rows; have HMAP := Lib.hid hmap; have HXLI := Lib.hid hxs.light
          have hbase6 := HY6.out.below.size
          have hnl := hxs.light
          clear hxs hmap hx6 hcq hbq
          go_wp2_with (at_builtin; go_must (refine wpList_appX w6 rfl (.tmp 137) (.tmp 139) _ rfl w.heap.size 42 i1 _ 4 48 Try.underlying22 HJS.out HY0.out HY1.out HY2.out rfl (by omega) (.slice none 0 0) 0 [] (World.ownsRow_nil _ _ _ _) rfl ⟨b, off, none⟩ n cp (xcells xs) (by rw [xcells_len, ← HXL.out]) rfl HNEWS.out (xcells_one xs) (by simp only [maxLen]; omega) (by omega) hbase6 ?_))
          intro v7 w7 hown7 hg7 hat7
          have hb7 : Below w6.heap.size w6 w7 := ⟨hg7.os, hg7.tape, hg7.output, hg7.size, fun q hq => hg7.block q hq (by simp [Value.ownBlock])⟩
          have HY7 := Lib.hid (HY6.out.on hb7)
          have HOB7 := Lib.hid ((hb7.block o (heapLt HOB.out)).trans HOB.out)
          try rw [Nat.zero_add] at hown7
          try rw [List.nil_append] at hown7
          rcases hown7.2 with ⟨_, h0⟩ | ⟨g, c7, cur, rfl, hgb, hgh, hnc7, hc7m, hcs7, hct7⟩
          · omega
          have HGH := Lib.hid hgh; have HGB := Lib.hid hgb
          have hc7m' : c7 ≤ 9223372036854775807 := by simpa only [maxLen] using hc7m
          have HCT := Lib.hid (show ∀ (i : Nat) (u : Value), (xcells xs)[i]? = some u → cur[i]? = some u from fun i u hu => by
            have h1 : (xcells xs)[i]? = (cur.toList.take (n * 4))[i]? := by rw [hct7]
            have hi : i < n * 4 := by have := (List.getElem?_eq_some_iff.1 hu).1; rw [xcells_len, ← HXL.out] at this; exact this
            rw [h1, List.getElem?_take, if_pos hi] at hu
            simpa using hu)
          clear hown7 hg7 hat7 hb7 hcs7 hct7 hc7m hgh hgb o1 fo1 b1 HNEWS hbase6
          have o1 : w7.cell? ⟨o, 1, none⟩ = some (.slice none 0 0) := cellAt 1 HOB7.out
          have fo1 := freeAt 1 HOB7.out
          obtain ⟨w8, hw8⟩ : ∃ w8, w8 = w7.setCell ⟨o, 1, none⟩ (.slice (some ⟨g, 0, none⟩) n c7) := ⟨_, rfl⟩
          have hgo : g ≠ o := fun e => by
            have h1 := HGH.out
            rw [e] at h1
            have := h1.symm.trans HOB7.out
            simp at this
          have HGO := Lib.hid hgo
          have HY8 := Lib.hid (show RefY B w w8 r (j : Int) (some ⟨b, off, none⟩) n cp 1 (k : Int) (d : Int) rev ⟨⟨rev + 1, term + 1, (d : Int), sync⟩, ax, mx, cx⟩ by rw [hw8]; exact HY7.out.set HOB7.out HOH.out HOR.out 1 _)
          have HOB8 := Lib.hid (show w8.heap[o]? = some (.cells #[.int .i64 (j : Int), .slice (some ⟨g, 0, none⟩) n c7] 24 (0, 0)) by rw [hw8]; exact heapSet 1 _ HOB7.out)
          have HGH8 := Lib.hid (show w8.heap[g]? = some (.cells cur 42 (0, 0)) by rw [hw8]; exact heapFar HGH.out (by show g ≠ o; exact hgo))
          have HW8 := Lib.hid hw8.symm
          clear hw8 hgo HY6 HY7
          go_upto_region 27 with (fail)
          rw [HW8.out]
          clear o1 fo1
          have hkx : k < xs.length := by have := HXL.out; omega
          obtain ⟨d0, d1, d2, d3⟩ := xcells_at hkx
          have o1 : w8.cell? ⟨o, 1, none⟩ = some (.slice (some ⟨g, 0, none⟩) n c7) := cellAt 1 HOB8.out
          have m1 : w8.cell? ⟨w.heap.size + 1, 1, none⟩ = some (.int .i64 (k : Int)) := cellAt 1 HY8.out.cmd
          have r0 : w8.cell? ⟨r, 0, none⟩ = some (.int .u64 ((rev : Int) + 1)) := cellAt 0 HY8.out.row
          have r1 : w8.cell? ⟨r, 1, none⟩ = some (.int .u64 ((term : Int) + 1)) := cellAt 1 HY8.out.row
          have r2 : w8.cell? ⟨r, 2, none⟩ = some (.int .i64 (d : Int)) := cellAt 2 HY8.out.row
          have r3 : w8.cell? ⟨r, 3, none⟩ = some (.slice ax mx cx) := cellAt 3 HY8.out.row
          have e0 : w8.cell? ⟨g, k * 4, none⟩ = some (.int .u64 (xs[k].r.rev : Int)) := (cellAt _ HGH8.out).trans (HCT.out _ _ d0)
          have e1 : w8.cell? ⟨g, k * 4 + 1, none⟩ = some (.int .u64 (xs[k].r.term : Int)) := (cellAt _ HGH8.out).trans (HCT.out _ _ d1)
          have e2 : w8.cell? ⟨g, k * 4 + 2, none⟩ = some (.int .i64 xs[k].r.prim) := (cellAt _ HGH8.out).trans (HCT.out _ _ d2)
          have e3 : w8.cell? ⟨g, k * 4 + 3, none⟩ = some (.slice xs[k].a xs[k].n xs[k].c) := (cellAt _ HGH8.out).trans (HCT.out _ _ d3)
          have x0 := freeAt (k * 4) HGH8.out
          have x1 := freeAt (k * 4 + 1) HGH8.out
          have x2 := freeAt (k * 4 + 2) HGH8.out
          have x3 := freeAt (k * 4 + 3) HGH8.out
          have HFIN := Lib.hid (HY8.out.fin (k := k) (c7 := c7) (xs := xs) (t' := M.apply t cc) (v := .slice (some ⟨g, 0, none⟩) n c7) HGH8.out HGB.out HCT.out hkx HXL.out hnc7 hc7m' hnl HXR.out (by
            rw [HAY.out, List.map_set, HMAP.out]))
          obtain ⟨w9, hw9⟩ : ∃ w9, w9 = put4 w8 g k ⟨⟨rev + 1, term + 1, (d : Int), sync⟩, ax, mx, cx⟩ := ⟨_, rfl⟩
          have HOB9 := Lib.hid (show w9.heap[o]? = some (.cells #[.int .i64 (j : Int), .slice (some ⟨g, 0, none⟩) n c7] 24 (0, 0)) by
            rw [hw9]
            unfold put4
            exact heapFar (heapFar (heapFar (heapFar HOB8.out (fun e => HGO.out e.symm)) (fun e => HGO.out e.symm)) (fun e => HGO.out e.symm)) (fun e => HGO.out e.symm))
          have HRS9 := Lib.hid (show w9.heap[w.heap.size + 1 + 1]? = some (.cells #[.int .i64 0, .slice none 0 0] 24 (0, 0)) by
            have hgr : w.heap.size + 1 + 1 ≠ g := fun e => by
              have h1 := HGH8.out
              rw [← e] at h1
              have := h1.symm.trans HY8.out.res
              simp at this
            rw [hw9]
            unfold put4
            exact heapFar (heapFar (heapFar (heapFar HY8.out.res hgr) hgr) hgr) hgr)
          rw [← hw9] at HFIN
          unfold put4 at hw9
          simp only at hw9
          try push_cast at hw9
          have HW9 := Lib.hid hw9.symm
          clear hw9 d0 d1 d2 d3
          go_upto_region 28 with (fail)
          rw [HW9.out]
          clear o1 m1 r0 r1 r2 r3 e0 e1 e2 e3 x0 x1 x2 x3
          have o0 : w9.cell? ⟨o, 0, none⟩ = some (.int .i64 (j : Int)) := cellAt 0 HOB9.out
          have o1 : w9.cell? ⟨o, 1, none⟩ = some (.slice (some ⟨g, 0, none⟩) n c7) := cellAt 1 HOB9.out
          have p0 : w9.cell? ⟨w.heap.size + 1 + 1, 0, none⟩ = some (.int .i64 0) := cellAt 0 HRS9.out
          have p1 : w9.cell? ⟨w.heap.size + 1 + 1, 1, none⟩ = some (.slice none 0 0) := cellAt 1 HRS9.out
          have q0 := freeAt 0 HRS9.out
          have q1 := freeAt 1 HRS9.out
          go_wp2
          refine bodyPost_ret (results_row2 rfl _ _ (w.heap.size + 1 + 1) 24 #[.int .i64 (j : Int), .slice (some ⟨g, 0, none⟩) n c7] (0, 0) _ rfl HFIN.out.1 Try.underlying24 rfl Try.tabSize) rfl ?_
          refine ⟨some ⟨g, 0, none⟩, c7, by rw [HNN.out, ← HCC.out, HFT.out, HDO.out]; rfl, ?_, HFIN.out.2.2⟩
          intro W hW
          rw [← HCC.out]
          exact HFIN.out.2.1 W hW
      · obtain rfl : K = 2 := by rw [HK.out, h]; rfl
        cases q
        · have HDO := Lib.hid (show M.does rr cc = true by unfold M.does; rw [HCC.out, HRR.out]; simp only [h]; rw [← HQ.out]; rfl)
          have HAY := Lib.hid (show (M.apply t cc).rows = t.rows.set k ⟨rev + 1, term, prim, L⟩ by
            have hni : ¬ (d : Int) ∈ sync := by have := HQ.out; simpa using this.symm
            have h1 : L = M.ins sync (d : Int) := by
              rw [HL.out]
              have := M.refList_ins (r := rr) (c := cc) (nodes := j) (by rw [HRR.out]; exact HRI.out) (by rw [HCC.out]; exact h) (by rw [HCC.out]; simp only; omega) (by rw [HCC.out, HRR.out]; exact hni)
              rw [this, HRR.out, HCC.out]
            rw [HAZ.out HDO.out, h1]; unfold M.next; rw [HCC.out, HRR.out]; simp only [h])
          clear h
          obtain ⟨Au, cu, hu, hju, hcu⟩ := HJ.out.own.form
          rw [ints_len] at hu hju
          subst hu
          have HOWN := Lib.hid HJ.out.own
          have s0 : wr.cell? ⟨r, 0, none⟩ = some (.int .u64 (rev : Int)) := cellAt 0 HJ.out.row
          have s1 : wr.cell? ⟨r, 1, none⟩ = some (.int .u64 (term : Int)) := cellAt 1 HJ.out.row
          have s3 : wr.cell? ⟨r, 3, none⟩ = some (.slice ax mx cx) := cellAt 3 HJ.out.row
          have f0 := freeAt 0 HJ.out.row
          have f1 := freeAt 1 HJ.out.row
          have f2 := freeAt 2 HJ.out.row
          have f3 := freeAt 3 HJ.out.row
          have a1 : wr.cell? ⟨w.heap.size, 1, none⟩ = some (.slice (some ⟨b, off, none⟩) n cp) := cellAt 1 HJ.out.tab
          obtain ⟨w5, hw5⟩ : ∃ w5, w5 = (wr.setCell ⟨r, 3, none⟩ (.slice Au L.length cu)).setCell ⟨r, 0, none⟩ (.int .u64 ((rev : Int) + 1)) := ⟨_, rfl⟩
          have hwr := HWR.out
          have HY := Lib.hid (show RefY B w w5 r (j : Int) (some ⟨b, off, none⟩) n cp 2 (k : Int) (d : Int) rev ⟨⟨rev + 1, term, prim, L⟩, Au, L.length, cu⟩ by
            rw [hw5]
            refine ⟨heapFar (heapFar (HJ.out.tab) (by simp only; omega)) (by simp only; omega), heapFar (heapFar (HJ.out.cmd) (by simp only; omega)) (by simp only; omega), heapFar (heapFar (HJ.out.res) (by simp only; omega)) (by simp only; omega), heapSet 0 (.int .u64 ((rev : Int) + 1)) (heapSet 3 (.slice Au L.length cu) (HJ.out.row)), ((HJ.out.below).setCell (p := ⟨r, 3, none⟩) (by show w.heap.size ≤ r; omega) _).setCell (p := ⟨r, 0, none⟩) (by show w.heap.size ≤ r; omega) _, ?_, ?_, ?_, ?_, ?_, hB, ?_⟩
            · show rev + 1 < _; have := HR60.out; omega
            · show term < _; have := HT60.out; omega
            · exact HRX.out.prim
            · intro z hz
              have hz' : z ∈ L := hz
              rw [HL.out, M.refList_mem] at hz'
              unfold I64; omega
            · show L.length ≤ _; have := HLL.out; omega
            · refine .inr ?_
              have ho := HOWN.out
              have hTT : Turned (· = r) wr _ := Turned.setCell (F := (· = r)) (Turned.setCell (F := (· = r)) (Turned.refl _ wr) (p := ⟨r, 3, none⟩) (.inl rfl) (.slice Au L.length cu)) (p := ⟨r, 0, none⟩) (.inl rfl) (.int .u64 ((rev : Int) + 1))
              exact ho.turned hTT (fun q hq e => block_ne ho HJ.out.row (by decide) (by rw [hq, e])))
          have HW5 := Lib.hid hw5.symm
          clear hw5
          go_upto_region 25 with (fail)
          rw [HW5.out]
          clear s0 s1 s2 s3 f0 f1 f2 f3 a1 b0 c0 c2 HJ
          have b0 : w5.cell? ⟨w.heap.size, 0, none⟩ = some (.int .i64 (j : Int)) := cellAt 0 HY.out.tab
          obtain ⟨w6, hw6⟩ : ∃ w6, w6 = w5.alloc (.cells #[.int .i64 (j : Int), .slice none 0 0] 24) := ⟨_, rfl⟩
          obtain ⟨o, ho⟩ : ∃ o, o = w5.heap.size := ⟨_, rfl⟩
          have HY6 := Lib.hid (show RefY B w w6 r (j : Int) (some ⟨b, off, none⟩) n cp 2 (k : Int) (d : Int) rev ⟨⟨rev + 1, term, prim, L⟩, Au, L.length, cu⟩ by rw [hw6]; exact HY.out.on (bel_alloc' w5 _))
          have hob : w6.heap[o]? = some (.cells #[.int .i64 (j : Int), .slice none 0 0] 24 (0, 0)) := by rw [hw6, ho]; exact heapNew (w := w5) _
          have hor : r ≠ o := by rw [ho]; have := heapLt HY.out.row; omega
          have hoh : w.heap.size + 1 + 1 < o := by rw [ho]; exact heapLt HY.out.res
          have HOB := Lib.hid hob; have HOR := Lib.hid hor; have HOH := Lib.hid hoh
          have HW6 := Lib.hid hw6.symm; have HO := Lib.hid ho.symm
          clear hw6 ho hob hor
          go_upto_region 26 with (fail)
          rw [HW6.out, HO.out]
          clear b0 HY
          have b1 : w6.cell? ⟨w.heap.size, 1, none⟩ = some (.slice (some ⟨b, off, none⟩) n cp) := cellAt 1 HY6.out.tab
          have o1 : w6.cell? ⟨o, 1, none⟩ = some (.slice none 0 0) := cellAt 1 HOB.out
          have fo1 := freeAt 1 HOB.out
          obtain ⟨xs, hxs, hmap⟩ := HT.out
          have hx6 := hxs.below (HY6.out.below.mono hB)
          obtain ⟨bq, oq, eq1, hbq, hcq⟩ := hx6.cells (by omega)
          injection eq1 with eq1; injection eq1 with eqa eqb; subst eqa eqb
          have HNEWS := Lib.hid (rdx_news hcq (B := 0) (c := 0) (n := 0))
          have HXL := Lib.hid hx6.len
          have HXR := Lib.hid hxs.rows; have HMAP := Lib.hid hmap; have HXLI := Lib.hid hxs.light
          have hbase6 := HY6.out.below.size
          have hnl := hxs.light
          clear hxs hmap hx6 hcq hbq
          go_wp2_with (at_builtin; go_must (refine wpList_appX w6 rfl (.tmp 137) (.tmp 139) _ rfl w.heap.size 42 i1 _ 4 48 Try.underlying22 HJS.out HY0.out HY1.out HY2.out rfl (by omega) (.slice none 0 0) 0 [] (World.ownsRow_nil _ _ _ _) rfl ⟨b, off, none⟩ n cp (xcells xs) (by rw [xcells_len, ← HXL.out]) rfl HNEWS.out (xcells_one xs) (by simp only [maxLen]; omega) (by omega) hbase6 ?_))
          intro v7 w7 hown7 hg7 hat7
          have hb7 : Below w6.heap.size w6 w7 := ⟨hg7.os, hg7.tape, hg7.output, hg7.size, fun q hq => hg7.block q hq (by simp [Value.ownBlock])⟩
          have HY7 := Lib.hid (HY6.out.on hb7)
          have HOB7 := Lib.hid ((hb7.block o (heapLt HOB.out)).trans HOB.out)
          try rw [Nat.zero_add] at hown7
          try rw [List.nil_append] at hown7
          rcases hown7.2 with ⟨_, h0⟩ | ⟨g, c7, cur, rfl, hgb, hgh, hnc7, hc7m, hcs7, hct7⟩
          · omega
          have HGH := Lib.hid hgh; have HGB := Lib.hid hgb
          have hc7m' : c7 ≤ 9223372036854775807 := by simpa only [maxLen] using hc7m
          have HCT := Lib.hid (show ∀ (i : Nat) (u : Value), (xcells xs)[i]? = some u → cur[i]? = some u from fun i u hu => by
            have h1 : (xcells xs)[i]? = (cur.toList.take (n * 4))[i]? := by rw [hct7]
            have hi : i < n * 4 := by have := (List.getElem?_eq_some_iff.1 hu).1; rw [xcells_len, ← HXL.out] at this; exact this
            rw [h1, List.getElem?_take, if_pos hi] at hu
            simpa using hu)
          clear hown7 hg7 hat7 hb7 hcs7 hct7 hc7m hgh hgb o1 fo1 b1 HNEWS hbase6
          have o1 : w7.cell? ⟨o, 1, none⟩ = some (.slice none 0 0) := cellAt 1 HOB7.out
          have fo1 := freeAt 1 HOB7.out
          obtain ⟨w8, hw8⟩ : ∃ w8, w8 = w7.setCell ⟨o, 1, none⟩ (.slice (some ⟨g, 0, none⟩) n c7) := ⟨_, rfl⟩
          have hgo : g ≠ o := fun e => by
            have h1 := HGH.out
            rw [e] at h1
            have := h1.symm.trans HOB7.out
            simp at this
          have HGO := Lib.hid hgo
          have HY8 := Lib.hid (show RefY B w w8 r (j : Int) (some ⟨b, off, none⟩) n cp 2 (k : Int) (d : Int) rev ⟨⟨rev + 1, term, prim, L⟩, Au, L.length, cu⟩ by rw [hw8]; exact HY7.out.set HOB7.out HOH.out HOR.out 1 _)
          have HOB8 := Lib.hid (show w8.heap[o]? = some (.cells #[.int .i64 (j : Int), .slice (some ⟨g, 0, none⟩) n c7] 24 (0, 0)) by rw [hw8]; exact heapSet 1 _ HOB7.out)
          have HGH8 := Lib.hid (show w8.heap[g]? = some (.cells cur 42 (0, 0)) by rw [hw8]; exact heapFar HGH.out (by show g ≠ o; exact hgo))
          have HW8 := Lib.hid hw8.symm
          clear hw8 hgo HY6 HY7
          go_upto_region 27 with (fail)
          rw [HW8.out]
          clear o1 fo1
          have hkx : k < xs.length := by have := HXL.out; omega
          obtain ⟨d0, d1, d2, d3⟩ := xcells_at hkx
          have o1 : w8.cell? ⟨o, 1, none⟩ = some (.slice (some ⟨g, 0, none⟩) n c7) := cellAt 1 HOB8.out
          have m1 : w8.cell? ⟨w.heap.size + 1, 1, none⟩ = some (.int .i64 (k : Int)) := cellAt 1 HY8.out.cmd
          have r0 : w8.cell? ⟨r, 0, none⟩ = some (.int .u64 ((rev : Int) + 1)) := cellAt 0 HY8.out.row
          have r1 : w8.cell? ⟨r, 1, none⟩ = some (.int .u64 ((term : Int))) := cellAt 1 HY8.out.row
          have r2 : w8.cell? ⟨r, 2, none⟩ = some (.int .i64 prim) := cellAt 2 HY8.out.row
          have r3 : w8.cell? ⟨r, 3, none⟩ = some (.slice Au L.length cu) := cellAt 3 HY8.out.row
          have e0 : w8.cell? ⟨g, k * 4, none⟩ = some (.int .u64 (xs[k].r.rev : Int)) := (cellAt _ HGH8.out).trans (HCT.out _ _ d0)
          have e1 : w8.cell? ⟨g, k * 4 + 1, none⟩ = some (.int .u64 (xs[k].r.term : Int)) := (cellAt _ HGH8.out).trans (HCT.out _ _ d1)
          have e2 : w8.cell? ⟨g, k * 4 + 2, none⟩ = some (.int .i64 xs[k].r.prim) := (cellAt _ HGH8.out).trans (HCT.out _ _ d2)
          have e3 : w8.cell? ⟨g, k * 4 + 3, none⟩ = some (.slice xs[k].a xs[k].n xs[k].c) := (cellAt _ HGH8.out).trans (HCT.out _ _ d3)
          have x0 := freeAt (k * 4) HGH8.out
          have x1 := freeAt (k * 4 + 1) HGH8.out
          have x2 := freeAt (k * 4 + 2) HGH8.out
          have x3 := freeAt (k * 4 + 3) HGH8.out
          have HFIN := Lib.hid (HY8.out.fin (k := k) (c7 := c7) (xs := xs) (t' := M.apply t cc) (v := .slice (some ⟨g, 0, none⟩) n c7) HGH8.out HGB.out HCT.out hkx HXL.out hnc7 hc7m' hnl HXR.out (by
            rw [HAY.out, List.map_set, HMAP.out]))
          obtain ⟨w9, hw9⟩ : ∃ w9, w9 = put4 w8 g k ⟨⟨rev + 1, term, prim, L⟩, Au, L.length, cu⟩ := ⟨_, rfl⟩
          have HOB9 := Lib.hid (show w9.heap[o]? = some (.cells #[.int .i64 (j : Int), .slice (some ⟨g, 0, none⟩) n c7] 24 (0, 0)) by
            rw [hw9]
            unfold put4
            exact heapFar (heapFar (heapFar (heapFar HOB8.out (fun e => HGO.out e.symm)) (fun e => HGO.out e.symm)) (fun e => HGO.out e.symm)) (fun e => HGO.out e.symm))
          have HRS9 := Lib.hid (show w9.heap[w.heap.size + 1 + 1]? = some (.cells #[.int .i64 0, .slice none 0 0] 24 (0, 0)) by
            have hgr : w.heap.size + 1 + 1 ≠ g := fun e => by
              have h1 := HGH8.out
              rw [← e] at h1
              have := h1.symm.trans HY8.out.res
              simp at this
            rw [hw9]
            unfold put4
            exact heapFar (heapFar (heapFar (heapFar HY8.out.res hgr) hgr) hgr) hgr)
          rw [← hw9] at HFIN
          unfold put4 at hw9
          simp only at hw9
          try push_cast at hw9
          have HW9 := Lib.hid hw9.symm
          clear hw9 d0 d1 d2 d3
          go_upto_region 28 with (fail)
          rw [HW9.out]
          clear o1 m1 r0 r1 r2 r3 e0 e1 e2 e3 x0 x1 x2 x3
          have o0 : w9.cell? ⟨o, 0, none⟩ = some (.int .i64 (j : Int)) := cellAt 0 HOB9.out
          have o1 : w9.cell? ⟨o, 1, none⟩ = some (.slice (some ⟨g, 0, none⟩) n c7) := cellAt 1 HOB9.out
          have p0 : w9.cell? ⟨w.heap.size + 1 + 1, 0, none⟩ = some (.int .i64 0) := cellAt 0 HRS9.out
          have p1 : w9.cell? ⟨w.heap.size + 1 + 1, 1, none⟩ = some (.slice none 0 0) := cellAt 1 HRS9.out
          have q0 := freeAt 0 HRS9.out
          have q1 := freeAt 1 HRS9.out
          go_wp2
          refine bodyPost_ret (results_row2 rfl _ _ (w.heap.size + 1 + 1) 24 #[.int .i64 (j : Int), .slice (some ⟨g, 0, none⟩) n c7] (0, 0) _ rfl HFIN.out.1 Try.underlying24 rfl Try.tabSize) rfl ?_
          refine ⟨some ⟨g, 0, none⟩, c7, by rw [HNN.out, ← HCC.out, HFT.out, HDO.out]; rfl, ?_, HFIN.out.2.2⟩
          intro W hW
          rw [← HCC.out]
          exact HFIN.out.2.1 W hW
        · have HDO := Lib.hid (show M.does rr cc = false by unfold M.does; rw [HCC.out, HRR.out]; simp only [h]; rw [← HQ.out]; rfl)
          have a1 : wr.cell? ⟨w.heap.size, 1, none⟩ = some (.slice (some ⟨b, off, none⟩) n cp) := cellAt 1 HJ.out.tab
          have p0 : wr.cell? ⟨w.heap.size + 1 + 1, 0, none⟩ = some (.int .i64 0) := cellAt 0 HJ.out.res
          have p1 : wr.cell? ⟨w.heap.size + 1 + 1, 1, none⟩ = some (.slice none 0 0) := cellAt 1 HJ.out.res
          have q0 := freeAt 0 HJ.out.res
          have q1 := freeAt 1 HJ.out.res
          have HE := Lib.hid (heapSet 1 (.slice (some ⟨b, off, none⟩) n cp) (heapSet 0 (.int .i64 (j : Int)) HJ.out.res))
          have HE2 := Lib.hid ((HJ.out.below.setCell (p := ⟨w.heap.size + 1 + 1, 0, none⟩) (by show w.heap.size ≤ w.heap.size + 1 + 1; omega) (.int .i64 (j : Int))).setCell (p := ⟨w.heap.size + 1 + 1, 1, none⟩) (by show w.heap.size ≤ w.heap.size + 1 + 1; omega) (.slice (some ⟨b, off, none⟩) n cp))
          go_wp2
          refine bodyPost_ret (results_row2 rfl _ _ (w.heap.size + 1 + 1) 24 #[.int .i64 (j : Int), .slice (some ⟨b, off, none⟩) n cp] (0, 0) _ rfl HE.out Try.underlying24 rfl Try.tabSize) rfl ?_
          refine ⟨some ⟨b, off, none⟩, cp, by rw [HNN.out, ← HCC.out, HFT.out, HDO.out]; rfl, ?_, HE2.out⟩
          intro W hW
          rw [← HCC.out, apply_no (HFT.out.trans HDO.out)]
          exact (HT.out.keep (fun p hp => (hW.cell (p := p) (by have := HE2.out.size; omega) (fun e => by have := e.1; omega)).trans (HE2.out.cell (by omega)))).more (by have := hW.size; have := HE2.out.size; omega)
      · obtain rfl : K = 3 := by rw [HK.out, h]; rfl
        cases q
        · have HDO := Lib.hid (show M.does rr cc = false by unfold M.does; rw [HCC.out, HRR.out]; simp only [h]; rw [← HQ.out]; rfl)
          have a1 : wr.cell? ⟨w.heap.size, 1, none⟩ = some (.slice (some ⟨b, off, none⟩) n cp) := cellAt 1 HJ.out.tab
          have p0 : wr.cell? ⟨w.heap.size + 1 + 1, 0, none⟩ = some (.int .i64 0) := cellAt 0 HJ.out.res
          have p1 : wr.cell? ⟨w.heap.size + 1 + 1, 1, none⟩ = some (.slice none 0 0) := cellAt 1 HJ.out.res
          have q0 := freeAt 0 HJ.out.res
          have q1 := freeAt 1 HJ.out.res
          have HE := Lib.hid (heapSet 1 (.slice (some ⟨b, off, none⟩) n cp) (heapSet 0 (.int .i64 (j : Int)) HJ.out.res))
          have HE2 := Lib.hid ((HJ.out.below.setCell (p := ⟨w.heap.size + 1 + 1, 0, none⟩) (by show w.heap.size ≤ w.heap.size + 1 + 1; omega) (.int .i64 (j : Int))).setCell (p := ⟨w.heap.size + 1 + 1, 1, none⟩) (by show w.heap.size ≤ w.heap.size + 1 + 1; omega) (.slice (some ⟨b, off, none⟩) n cp))
          go_wp2
          refine bodyPost_ret (results_row2 rfl _ _ (w.heap.size + 1 + 1) 24 #[.int .i64 (j : Int), .slice (some ⟨b, off, none⟩) n cp] (0, 0) _ rfl HE.out Try.underlying24 rfl Try.tabSize) rfl ?_
          refine ⟨some ⟨b, off, none⟩, cp, by rw [HNN.out, ← HCC.out, HFT.out, HDO.out]; rfl, ?_, HE2.out⟩
          intro W hW
          rw [← HCC.out, apply_no (HFT.out.trans HDO.out)]
          exact (HT.out.keep (fun p hp => (hW.cell (p := p) (by have := HE2.out.size; omega) (fun e => by have := e.1; omega)).trans (HE2.out.cell (by omega)))).more (by have := hW.size; have := HE2.out.size; omega)
        · by_cases hdp : (d : Int) = prim
          · have e9 : ((d : Int) != prim) = false := by simp [hdp]
            have HDO := Lib.hid (show M.does rr cc = false by unfold M.does; rw [HCC.out, HRR.out]; simp only [h]; rw [← HQ.out, decide_eq_false (fun e => e hdp)]; rfl)
            have a1 : wr.cell? ⟨w.heap.size, 1, none⟩ = some (.slice (some ⟨b, off, none⟩) n cp) := cellAt 1 HJ.out.tab
            have p0 : wr.cell? ⟨w.heap.size + 1 + 1, 0, none⟩ = some (.int .i64 0) := cellAt 0 HJ.out.res
            have p1 : wr.cell? ⟨w.heap.size + 1 + 1, 1, none⟩ = some (.slice none 0 0) := cellAt 1 HJ.out.res
            have q0 := freeAt 0 HJ.out.res
            have q1 := freeAt 1 HJ.out.res
            have HE := Lib.hid (heapSet 1 (.slice (some ⟨b, off, none⟩) n cp) (heapSet 0 (.int .i64 (j : Int)) HJ.out.res))
            have HE2 := Lib.hid ((HJ.out.below.setCell (p := ⟨w.heap.size + 1 + 1, 0, none⟩) (by show w.heap.size ≤ w.heap.size + 1 + 1; omega) (.int .i64 (j : Int))).setCell (p := ⟨w.heap.size + 1 + 1, 1, none⟩) (by show w.heap.size ≤ w.heap.size + 1 + 1; omega) (.slice (some ⟨b, off, none⟩) n cp))
            go_wp2
            refine bodyPost_ret (results_row2 rfl _ _ (w.heap.size + 1 + 1) 24 #[.int .i64 (j : Int), .slice (some ⟨b, off, none⟩) n cp] (0, 0) _ rfl HE.out Try.underlying24 rfl Try.tabSize) rfl ?_
            refine ⟨some ⟨b, off, none⟩, cp, by rw [HNN.out, ← HCC.out, HFT.out, HDO.out]; rfl, ?_, HE2.out⟩
            intro W hW
            rw [← HCC.out, apply_no (HFT.out.trans HDO.out)]
            exact (HT.out.keep (fun p hp => (hW.cell (p := p) (by have := HE2.out.size; omega) (fun e => by have := e.1; omega)).trans (HE2.out.cell (by omega)))).more (by have := hW.size; have := HE2.out.size; omega)
          · have e9 : ((d : Int) != prim) = true := by simp [hdp]
            have HDO := Lib.hid (show M.does rr cc = true by unfold M.does; rw [HCC.out, HRR.out]; simp only [h]; rw [← HQ.out, decide_eq_true hdp]; rfl)
            have HAY := Lib.hid (show (M.apply t cc).rows = t.rows.set k ⟨rev + 1, term, prim, L⟩ by
              have hni : (d : Int) ∈ sync := by have := HQ.out; simpa using this.symm
              have h1 : L = M.del sync (d : Int) := by
                rw [HL.out]
                have := M.refList_del (r := rr) (c := cc) (nodes := j) (by rw [HRR.out]; exact HRI.out) (by rw [HCC.out]; exact h) (by rw [HCC.out, HRR.out]; exact hni)
                rw [this, HRR.out, HCC.out]
              rw [HAZ.out HDO.out, h1]; unfold M.next; rw [HCC.out, HRR.out]; simp only [h])
            clear h
            obtain ⟨Au, cu, hu, hju, hcu⟩ := HJ.out.own.form
            rw [ints_len] at hu hju
            subst hu
            have HOWN := Lib.hid HJ.out.own
            have s0 : wr.cell? ⟨r, 0, none⟩ = some (.int .u64 (rev : Int)) := cellAt 0 HJ.out.row
            have s1 : wr.cell? ⟨r, 1, none⟩ = some (.int .u64 (term : Int)) := cellAt 1 HJ.out.row
            have s3 : wr.cell? ⟨r, 3, none⟩ = some (.slice ax mx cx) := cellAt 3 HJ.out.row
            have f0 := freeAt 0 HJ.out.row
            have f1 := freeAt 1 HJ.out.row
            have f2 := freeAt 2 HJ.out.row
            have f3 := freeAt 3 HJ.out.row
            have a1 : wr.cell? ⟨w.heap.size, 1, none⟩ = some (.slice (some ⟨b, off, none⟩) n cp) := cellAt 1 HJ.out.tab
            obtain ⟨w5, hw5⟩ : ∃ w5, w5 = (wr.setCell ⟨r, 3, none⟩ (.slice Au L.length cu)).setCell ⟨r, 0, none⟩ (.int .u64 ((rev : Int) + 1)) := ⟨_, rfl⟩
            have hwr := HWR.out
            have HY := Lib.hid (show RefY B w w5 r (j : Int) (some ⟨b, off, none⟩) n cp 3 (k : Int) (d : Int) rev ⟨⟨rev + 1, term, prim, L⟩, Au, L.length, cu⟩ by
              rw [hw5]
              refine ⟨heapFar (heapFar (HJ.out.tab) (by simp only; omega)) (by simp only; omega), heapFar (heapFar (HJ.out.cmd) (by simp only; omega)) (by simp only; omega), heapFar (heapFar (HJ.out.res) (by simp only; omega)) (by simp only; omega), heapSet 0 (.int .u64 ((rev : Int) + 1)) (heapSet 3 (.slice Au L.length cu) (HJ.out.row)), ((HJ.out.below).setCell (p := ⟨r, 3, none⟩) (by show w.heap.size ≤ r; omega) _).setCell (p := ⟨r, 0, none⟩) (by show w.heap.size ≤ r; omega) _, ?_, ?_, ?_, ?_, ?_, hB, ?_⟩
              · show rev + 1 < _; have := HR60.out; omega
              · show term < _; have := HT60.out; omega
              · exact HRX.out.prim
              · intro z hz
                have hz' : z ∈ L := hz
                rw [HL.out, M.refList_mem] at hz'
                unfold I64; omega
              · show L.length ≤ _; have := HLL.out; omega
              · refine .inr ?_
                have ho := HOWN.out
                have hTT : Turned (· = r) wr _ := Turned.setCell (F := (· = r)) (Turned.setCell (F := (· = r)) (Turned.refl _ wr) (p := ⟨r, 3, none⟩) (.inl rfl) (.slice Au L.length cu)) (p := ⟨r, 0, none⟩) (.inl rfl) (.int .u64 ((rev : Int) + 1))
                exact ho.turned hTT (fun q hq e => block_ne ho HJ.out.row (by decide) (by rw [hq, e])))
            have HW5 := Lib.hid hw5.symm
            clear hw5
            go_upto_region 25 with (fail)
            rw [HW5.out]
            clear s0 s1 s2 s3 f0 f1 f2 f3 a1 b0 c0 c2 HJ
            have b0 : w5.cell? ⟨w.heap.size, 0, none⟩ = some (.int .i64 (j : Int)) := cellAt 0 HY.out.tab
            obtain ⟨w6, hw6⟩ : ∃ w6, w6 = w5.alloc (.cells #[.int .i64 (j : Int), .slice none 0 0] 24) := ⟨_, rfl⟩
            obtain ⟨o, ho⟩ : ∃ o, o = w5.heap.size := ⟨_, rfl⟩
            have HY6 := Lib.hid (show RefY B w w6 r (j : Int) (some ⟨b, off, none⟩) n cp 3 (k : Int) (d : Int) rev ⟨⟨rev + 1, term, prim, L⟩, Au, L.length, cu⟩ by rw [hw6]; exact HY.out.on (bel_alloc' w5 _))
            have hob : w6.heap[o]? = some (.cells #[.int .i64 (j : Int), .slice none 0 0] 24 (0, 0)) := by rw [hw6, ho]; exact heapNew (w := w5) _
            have hor : r ≠ o := by rw [ho]; have := heapLt HY.out.row; omega
            have hoh : w.heap.size + 1 + 1 < o := by rw [ho]; exact heapLt HY.out.res
            have HOB := Lib.hid hob; have HOR := Lib.hid hor; have HOH := Lib.hid hoh
            have HW6 := Lib.hid hw6.symm; have HO := Lib.hid ho.symm
            clear hw6 ho hob hor
            go_upto_region 26 with (fail)
            rw [HW6.out, HO.out]
            clear b0 HY
            have b1 : w6.cell? ⟨w.heap.size, 1, none⟩ = some (.slice (some ⟨b, off, none⟩) n cp) := cellAt 1 HY6.out.tab
            have o1 : w6.cell? ⟨o, 1, none⟩ = some (.slice none 0 0) := cellAt 1 HOB.out
            have fo1 := freeAt 1 HOB.out
            obtain ⟨xs, hxs, hmap⟩ := HT.out
            have hx6 := hxs.below (HY6.out.below.mono hB)
            obtain ⟨bq, oq, eq1, hbq, hcq⟩ := hx6.cells (by omega)
            injection eq1 with eq1; injection eq1 with eqa eqb; subst eqa eqb
            have HNEWS := Lib.hid (rdx_news hcq (B := 0) (c := 0) (n := 0))
            have HXL := Lib.hid hx6.len
            have HXR := Lib.hid hxs.rows; have HMAP := Lib.hid hmap; have HXLI := Lib.hid hxs.light
            have hbase6 := HY6.out.below.size
            have hnl := hxs.light
            clear hxs hmap hx6 hcq hbq
            go_wp2_with (at_builtin; go_must (refine wpList_appX w6 rfl (.tmp 137) (.tmp 139) _ rfl w.heap.size 42 i1 _ 4 48 Try.underlying22 HJS.out HY0.out HY1.out HY2.out rfl (by omega) (.slice none 0 0) 0 [] (World.ownsRow_nil _ _ _ _) rfl ⟨b, off, none⟩ n cp (xcells xs) (by rw [xcells_len, ← HXL.out]) rfl HNEWS.out (xcells_one xs) (by simp only [maxLen]; omega) (by omega) hbase6 ?_))
            intro v7 w7 hown7 hg7 hat7
            have hb7 : Below w6.heap.size w6 w7 := ⟨hg7.os, hg7.tape, hg7.output, hg7.size, fun q hq => hg7.block q hq (by simp [Value.ownBlock])⟩
            have HY7 := Lib.hid (HY6.out.on hb7)
            have HOB7 := Lib.hid ((hb7.block o (heapLt HOB.out)).trans HOB.out)
            try rw [Nat.zero_add] at hown7
            try rw [List.nil_append] at hown7
            rcases hown7.2 with ⟨_, h0⟩ | ⟨g, c7, cur, rfl, hgb, hgh, hnc7, hc7m, hcs7, hct7⟩
            · omega
            have HGH := Lib.hid hgh; have HGB := Lib.hid hgb
            have hc7m' : c7 ≤ 9223372036854775807 := by simpa only [maxLen] using hc7m
            have HCT := Lib.hid (show ∀ (i : Nat) (u : Value), (xcells xs)[i]? = some u → cur[i]? = some u from fun i u hu => by
              have h1 : (xcells xs)[i]? = (cur.toList.take (n * 4))[i]? := by rw [hct7]
              have hi : i < n * 4 := by have := (List.getElem?_eq_some_iff.1 hu).1; rw [xcells_len, ← HXL.out] at this; exact this
              rw [h1, List.getElem?_take, if_pos hi] at hu
              simpa using hu)
            clear hown7 hg7 hat7 hb7 hcs7 hct7 hc7m hgh hgb o1 fo1 b1 HNEWS hbase6
            have o1 : w7.cell? ⟨o, 1, none⟩ = some (.slice none 0 0) := cellAt 1 HOB7.out
            have fo1 := freeAt 1 HOB7.out
            obtain ⟨w8, hw8⟩ : ∃ w8, w8 = w7.setCell ⟨o, 1, none⟩ (.slice (some ⟨g, 0, none⟩) n c7) := ⟨_, rfl⟩
            have hgo : g ≠ o := fun e => by
              have h1 := HGH.out
              rw [e] at h1
              have := h1.symm.trans HOB7.out
              simp at this
            have HGO := Lib.hid hgo
            have HY8 := Lib.hid (show RefY B w w8 r (j : Int) (some ⟨b, off, none⟩) n cp 3 (k : Int) (d : Int) rev ⟨⟨rev + 1, term, prim, L⟩, Au, L.length, cu⟩ by rw [hw8]; exact HY7.out.set HOB7.out HOH.out HOR.out 1 _)
            have HOB8 := Lib.hid (show w8.heap[o]? = some (.cells #[.int .i64 (j : Int), .slice (some ⟨g, 0, none⟩) n c7] 24 (0, 0)) by rw [hw8]; exact heapSet 1 _ HOB7.out)
            have HGH8 := Lib.hid (show w8.heap[g]? = some (.cells cur 42 (0, 0)) by rw [hw8]; exact heapFar HGH.out (by show g ≠ o; exact hgo))
            have HW8 := Lib.hid hw8.symm
            clear hw8 hgo HY6 HY7
            go_upto_region 27 with (fail)
            rw [HW8.out]
            clear o1 fo1
            have hkx : k < xs.length := by have := HXL.out; omega
            obtain ⟨d0, d1, d2, d3⟩ := xcells_at hkx
            have o1 : w8.cell? ⟨o, 1, none⟩ = some (.slice (some ⟨g, 0, none⟩) n c7) := cellAt 1 HOB8.out
            have m1 : w8.cell? ⟨w.heap.size + 1, 1, none⟩ = some (.int .i64 (k : Int)) := cellAt 1 HY8.out.cmd
            have r0 : w8.cell? ⟨r, 0, none⟩ = some (.int .u64 ((rev : Int) + 1)) := cellAt 0 HY8.out.row
            have r1 : w8.cell? ⟨r, 1, none⟩ = some (.int .u64 ((term : Int))) := cellAt 1 HY8.out.row
            have r2 : w8.cell? ⟨r, 2, none⟩ = some (.int .i64 prim) := cellAt 2 HY8.out.row
            have r3 : w8.cell? ⟨r, 3, none⟩ = some (.slice Au L.length cu) := cellAt 3 HY8.out.row
            have e0 : w8.cell? ⟨g, k * 4, none⟩ = some (.int .u64 (xs[k].r.rev : Int)) := (cellAt _ HGH8.out).trans (HCT.out _ _ d0)
            have e1 : w8.cell? ⟨g, k * 4 + 1, none⟩ = some (.int .u64 (xs[k].r.term : Int)) := (cellAt _ HGH8.out).trans (HCT.out _ _ d1)
            have e2 : w8.cell? ⟨g, k * 4 + 2, none⟩ = some (.int .i64 xs[k].r.prim) := (cellAt _ HGH8.out).trans (HCT.out _ _ d2)
            have e3 : w8.cell? ⟨g, k * 4 + 3, none⟩ = some (.slice xs[k].a xs[k].n xs[k].c) := (cellAt _ HGH8.out).trans (HCT.out _ _ d3)
            have x0 := freeAt (k * 4) HGH8.out
            have x1 := freeAt (k * 4 + 1) HGH8.out
            have x2 := freeAt (k * 4 + 2) HGH8.out
            have x3 := freeAt (k * 4 + 3) HGH8.out
            have HFIN := Lib.hid (HY8.out.fin (k := k) (c7 := c7) (xs := xs) (t' := M.apply t cc) (v := .slice (some ⟨g, 0, none⟩) n c7) HGH8.out HGB.out HCT.out hkx HXL.out hnc7 hc7m' hnl HXR.out (by
              rw [HAY.out, List.map_set, HMAP.out]))
            obtain ⟨w9, hw9⟩ : ∃ w9, w9 = put4 w8 g k ⟨⟨rev + 1, term, prim, L⟩, Au, L.length, cu⟩ := ⟨_, rfl⟩
            have HOB9 := Lib.hid (show w9.heap[o]? = some (.cells #[.int .i64 (j : Int), .slice (some ⟨g, 0, none⟩) n c7] 24 (0, 0)) by
              rw [hw9]
              unfold put4
              exact heapFar (heapFar (heapFar (heapFar HOB8.out (fun e => HGO.out e.symm)) (fun e => HGO.out e.symm)) (fun e => HGO.out e.symm)) (fun e => HGO.out e.symm))
            have HRS9 := Lib.hid (show w9.heap[w.heap.size + 1 + 1]? = some (.cells #[.int .i64 0, .slice none 0 0] 24 (0, 0)) by
              have hgr : w.heap.size + 1 + 1 ≠ g := fun e => by
                have h1 := HGH8.out
                rw [← e] at h1
                have := h1.symm.trans HY8.out.res
                simp at this
              rw [hw9]
              unfold put4
              exact heapFar (heapFar (heapFar (heapFar HY8.out.res hgr) hgr) hgr) hgr)
            rw [← hw9] at HFIN
            unfold put4 at hw9
            simp only at hw9
            try push_cast at hw9
            have HW9 := Lib.hid hw9.symm
            clear hw9 d0 d1 d2 d3
            go_upto_region 28 with (fail)
            rw [HW9.out]
            clear o1 m1 r0 r1 r2 r3 e0 e1 e2 e3 x0 x1 x2 x3
            have o0 : w9.cell? ⟨o, 0, none⟩ = some (.int .i64 (j : Int)) := cellAt 0 HOB9.out
            have o1 : w9.cell? ⟨o, 1, none⟩ = some (.slice (some ⟨g, 0, none⟩) n c7) := cellAt 1 HOB9.out
            have p0 : w9.cell? ⟨w.heap.size + 1 + 1, 0, none⟩ = some (.int .i64 0) := cellAt 0 HRS9.out
            have p1 : w9.cell? ⟨w.heap.size + 1 + 1, 1, none⟩ = some (.slice none 0 0) := cellAt 1 HRS9.out
            have q0 := freeAt 0 HRS9.out
            have q1 := freeAt 1 HRS9.out
            go_wp2
            refine bodyPost_ret (results_row2 rfl _ _ (w.heap.size + 1 + 1) 24 #[.int .i64 (j : Int), .slice (some ⟨g, 0, none⟩) n c7] (0, 0) _ rfl HFIN.out.1 Try.underlying24 rfl Try.tabSize) rfl ?_
            refine ⟨some ⟨g, 0, none⟩, c7, by rw [HNN.out, ← HCC.out, HFT.out, HDO.out]; rfl, ?_, HFIN.out.2.2⟩
            intro W hW
            rw [← HCC.out]
            exact HFIN.out.2.1 W hW
      · have n1 : ¬ K = 1 := by have := HK.out; omega
        have n2 : ¬ K = 2 := by have := HK.out; omega
        have n3 : ¬ K = 3 := by have := HK.out; omega
        have m1 : (K == 1) = false := by simp [n1]
        have m2 : (K == 2) = false := by simp [n2]
        have m3 : (K == 3) = false := by simp [n3]
        have HDO := Lib.hid (show M.does rr cc = false by unfold M.does; rw [HCC.out, HRR.out]; split <;> first | rfl | (exfalso; rename_i hh; simp only at hh; omega))
        have a1 : wr.cell? ⟨w.heap.size, 1, none⟩ = some (.slice (some ⟨b, off, none⟩) n cp) := cellAt 1 HJ.out.tab
        have p0 : wr.cell? ⟨w.heap.size + 1 + 1, 0, none⟩ = some (.int .i64 0) := cellAt 0 HJ.out.res
        have p1 : wr.cell? ⟨w.heap.size + 1 + 1, 1, none⟩ = some (.slice none 0 0) := cellAt 1 HJ.out.res
        have q0 := freeAt 0 HJ.out.res
        have q1 := freeAt 1 HJ.out.res
        have HE := Lib.hid (heapSet 1 (.slice (some ⟨b, off, none⟩) n cp) (heapSet 0 (.int .i64 (j : Int)) HJ.out.res))
        have HE2 := Lib.hid ((HJ.out.below.setCell (p := ⟨w.heap.size + 1 + 1, 0, none⟩) (by show w.heap.size ≤ w.heap.size + 1 + 1; omega) (.int .i64 (j : Int))).setCell (p := ⟨w.heap.size + 1 + 1, 1, none⟩) (by show w.heap.size ≤ w.heap.size + 1 + 1; omega) (.slice (some ⟨b, off, none⟩) n cp))
        go_wp2
        refine bodyPost_ret (results_row2 rfl _ _ (w.heap.size + 1 + 1) 24 #[.int .i64 (j : Int), .slice (some ⟨b, off, none⟩) n cp] (0, 0) _ rfl HE.out Try.underlying24 rfl Try.tabSize) rfl ?_
        refine ⟨some ⟨b, off, none⟩, cp, by rw [HNN.out, ← HCC.out, HFT.out, HDO.out]; rfl, ?_, HE2.out⟩
        intro W hW
        rw [← HCC.out, apply_no (HFT.out.trans HDO.out)]
        exact (HT.out.keep (fun p hp => (hW.cell (p := p) (by have := HE2.out.size; omega) (fun e => by have := e.1; omega)).trans (HE2.out.cell (by omega)))).more (by have := hW.size; have := HE2.out.size; omega)
end Go.Proofs.Ytghnelfgnfhclaa
