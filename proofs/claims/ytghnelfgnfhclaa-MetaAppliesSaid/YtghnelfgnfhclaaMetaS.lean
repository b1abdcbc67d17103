/-
  The document's Apply, where nothing is done for want of a place, a turn or a right table.
-/
import Derived.Test.YtghnelfgnfhclaaMetaR
namespace Go.Proofs.Ytghnelfgnfhclaa
open Go.RowKit Mem Go.ChangeShapes
set_option linter.unusedVariables false
set_option maxRecDepth 100000

def StaysT (nn : Int) (A : Option Addr) (n c : Nat) (w : World) (e : Ending) (w' : World) : Prop :=
  e = .returned (.tuple #[.agg #[.int .i64 nn, .slice A n c], .bool false]) ∧ Below w.heap.size w w'

set_option maxHeartbeats 4000000 in
theorem refApply_none (t : M.T) (A : Option Addr) (n cp : Nat) (c : M.C) (w : World) (ht : TabIs w w.heap.size A n cp t) (hnn : I64 t.nodes) (hno : (M.place t c && M.turn (M.row t c) c) = false) :
    Calls Try.prog 18 #[.agg #[.int .i64 t.nodes, .slice A n cp], .agg #[.int .u8 (c.kind : Int), .int .i64 c.shard, .int .i64 c.node, .int .u64 (c.rev : Int)]] w (StaysT t.nodes A n cp w) := by
  have HT := Lib.hid ht
  have HF := Lib.hid (fun (W : World) (h : Below w.heap.size w W) => refForm_any _ t W ((ht.on h).rdt hnn))
  have HB := ht.bounds
  have hb1 := HB.1; have hb2 := HB.2.1
  clear HB ht
  have HNO := Lib.hid hno
  clear hno
  obtain ⟨nn, hnn2⟩ : ∃ nn, nn = t.nodes := ⟨_, rfl⟩
  have HNN := Lib.hid hnn2
  rw [← hnn2] at HF ⊢
  clear hnn2 hnn
  obtain ⟨kind, shard, node, rev⟩ := c
  simp only at HNO ⊢
  obtain ⟨w1, hw1⟩ : ∃ w1, w1 = ((w.alloc (.cells #[.int .i64 nn, .slice A n cp] 24)).alloc (.cells #[.int .u8 (kind : Int), .int .i64 shard, .int .i64 node, .int .u64 (rev : Int)] 39)).alloc (.cells #[.int .i64 0, .slice none 0 0] 24) := ⟨_, rfl⟩
  have hb : Below w.heap.size w w1 := by rw [hw1]; exact ((bel_alloc' w _).alloc (by simp) _).alloc (by simp; omega) _
  have hbt : w1.heap[w.heap.size]? = some (.cells #[.int .i64 nn, .slice A n cp] 24 (0, 0)) := by rw [hw1]; exact heapOld (heapOld (heapNew (w := w) _))
  have hbc : w1.heap[w.heap.size + 1]? = some (.cells #[.int .u8 (kind : Int), .int .i64 shard, .int .i64 node, .int .u64 (rev : Int)] 39 (0, 0)) := by
    rw [hw1]
    have h := heapOld (o := .cells #[.int .i64 0, .slice none 0 0] 24) (heapNew (w := w.alloc (.cells #[.int .i64 nn, .slice A n cp] 24)) (.cells #[.int .u8 (kind : Int), .int .i64 shard, .int .i64 node, .int .u64 (rev : Int)] 39))
    simpa using h
  have hbr : w1.heap[w.heap.size + 1 + 1]? = some (.cells #[.int .i64 0, .slice none 0 0] 24 (0, 0)) := by
    rw [hw1]
    have h := heapNew (w := (w.alloc (.cells #[.int .i64 nn, .slice A n cp] 24)).alloc (.cells #[.int .u8 (kind : Int), .int .i64 shard, .int .i64 node, .int .u64 (rev : Int)] 39)) (.cells #[.int .i64 0, .slice none 0 0] 24)
    simpa using h
  have HBW := Lib.hid hb; have HBT := Lib.hid hbt; have HBC := Lib.hid hbc; have HBR := Lib.hid hbr; have HW1 := Lib.hid hw1.symm
  clear hb hbt hbc hbr hw1
  go_enter Try.func18, Try.ntmps18
  go_upto_region 1 with (fail)
  rw [HW1.out]
  have a0 : w1.cell? ⟨w.heap.size, 0, none⟩ = some (.int .i64 nn) := cellAt 0 HBT.out
  have a1 : w1.cell? ⟨w.heap.size, 1, none⟩ = some (.slice A n cp) := cellAt 1 HBT.out
  have hbig : M.bound = 1152921504606846976 := rfl
  obtain ⟨fm, hfm⟩ : ∃ fm, fm = M.form t := ⟨_, rfl⟩
  have HFM := Lib.hid hfm
  rw [← hfm] at HF
  clear hfm hbig
  cases fm
  · go_wp2_with fail
    refine (HF.out w1 HBW.out).mono ?_
    rintro e w2 ⟨rfl, hb2⟩
    have HB2 := Lib.hid (HBW.out.trans (hb2.mono HBW.out.size))
    have hbt := (hb2.block w.heap.size (heapLt HBT.out)).trans HBT.out
    have hbc := (hb2.block (w.heap.size + 1) (heapLt HBC.out)).trans HBC.out
    have hbr := (hb2.block (w.heap.size + 1 + 1) (heapLt HBR.out)).trans HBR.out
    have hl2 : w.heap.size + 1 + 1 < w2.heap.size := heapLt hbr
    clear hb2 a0 a1
    have a0 : w2.cell? ⟨w.heap.size, 0, none⟩ = some (.int .i64 nn) := cellAt 0 hbt
    have a1 : w2.cell? ⟨w.heap.size, 1, none⟩ = some (.slice A n cp) := cellAt 1 hbt
    have b0 : w2.cell? ⟨w.heap.size + 1, 0, none⟩ = some (.int .u8 (kind : Int)) := cellAt 0 hbc
    have b1 : w2.cell? ⟨w.heap.size + 1, 1, none⟩ = some (.int .i64 shard) := cellAt 1 hbc
    have b2 : w2.cell? ⟨w.heap.size + 1, 2, none⟩ = some (.int .i64 node) := cellAt 2 hbc
    have b3 : w2.cell? ⟨w.heap.size + 1, 3, none⟩ = some (.int .u64 (rev : Int)) := cellAt 3 hbc
    have p0 : w2.cell? ⟨w.heap.size + 1 + 1, 0, none⟩ = some (.int .i64 0) := cellAt 0 hbr
    have p1 : w2.cell? ⟨w.heap.size + 1 + 1, 1, none⟩ = some (.slice none 0 0) := cellAt 1 hbr
    have q0 := freeAt 0 hbr
    have q1 := freeAt 1 hbr
    have HE := Lib.hid (heapSet 1 (.slice A n cp) (heapSet 0 (.int .i64 nn) hbr))
    have HE2 := Lib.hid ((HB2.out.setCell (p := ⟨w.heap.size + 1 + 1, 0, none⟩) (by show w.heap.size ≤ w.heap.size + 1 + 1; omega) (.int .i64 nn)).setCell (p := ⟨w.heap.size + 1 + 1, 1, none⟩) (by show w.heap.size ≤ w.heap.size + 1 + 1; omega) (.slice A n cp))
    clear hbt hbc hbr
    go_wp2
    refine bodyPost_ret (results_row2 rfl _ _ (w.heap.size + 1 + 1) 24 #[.int .i64 nn, .slice A n cp] (0, 0) _ rfl HE.out Try.underlying24 rfl Try.tabSize) rfl ?_
    exact ⟨rfl, HE2.out⟩
  · go_wp2_with fail
    refine (HF.out w1 HBW.out).mono ?_
    rintro e w2 ⟨rfl, hb2⟩
    have HB2 := Lib.hid (HBW.out.trans (hb2.mono HBW.out.size))
    have hbt := (hb2.block w.heap.size (heapLt HBT.out)).trans HBT.out
    have hbc := (hb2.block (w.heap.size + 1) (heapLt HBC.out)).trans HBC.out
    have hbr := (hb2.block (w.heap.size + 1 + 1) (heapLt HBR.out)).trans HBR.out
    have hl2 : w.heap.size + 1 + 1 < w2.heap.size := heapLt hbr
    clear hb2 a0 a1
    have a0 : w2.cell? ⟨w.heap.size, 0, none⟩ = some (.int .i64 nn) := cellAt 0 hbt
    have a1 : w2.cell? ⟨w.heap.size, 1, none⟩ = some (.slice A n cp) := cellAt 1 hbt
    have b0 : w2.cell? ⟨w.heap.size + 1, 0, none⟩ = some (.int .u8 (kind : Int)) := cellAt 0 hbc
    have b1 : w2.cell? ⟨w.heap.size + 1, 1, none⟩ = some (.int .i64 shard) := cellAt 1 hbc
    have b2 : w2.cell? ⟨w.heap.size + 1, 2, none⟩ = some (.int .i64 node) := cellAt 2 hbc
    have b3 : w2.cell? ⟨w.heap.size + 1, 3, none⟩ = some (.int .u64 (rev : Int)) := cellAt 3 hbc
    have p0 : w2.cell? ⟨w.heap.size + 1 + 1, 0, none⟩ = some (.int .i64 0) := cellAt 0 hbr
    have p1 : w2.cell? ⟨w.heap.size + 1 + 1, 1, none⟩ = some (.slice none 0 0) := cellAt 1 hbr
    have q0 := freeAt 0 hbr
    have q1 := freeAt 1 hbr
    have HE := Lib.hid (heapSet 1 (.slice A n cp) (heapSet 0 (.int .i64 nn) hbr))
    have HE2 := Lib.hid ((HB2.out.setCell (p := ⟨w.heap.size + 1 + 1, 0, none⟩) (by show w.heap.size ≤ w.heap.size + 1 + 1; omega) (.int .i64 nn)).setCell (p := ⟨w.heap.size + 1 + 1, 1, none⟩) (by show w.heap.size ≤ w.heap.size + 1 + 1; omega) (.slice A n cp))
    have HBR2 := Lib.hid hbr; have HBC2 := Lib.hid hbc; have HBT2 := Lib.hid hbt
    clear hbt hbc hbr
    by_cases g1 : shard < 0
    · go_wp2
      refine bodyPost_ret (results_row2 rfl _ _ (w.heap.size + 1 + 1) 24 #[.int .i64 nn, .slice A n cp] (0, 0) _ rfl HE.out Try.underlying24 rfl Try.tabSize) rfl ?_
      exact ⟨rfl, HE2.out⟩
    by_cases g2 : (n : Int) ≤ shard
    · go_wp2
      refine bodyPost_ret (results_row2 rfl _ _ (w.heap.size + 1 + 1) 24 #[.int .i64 nn, .slice A n cp] (0, 0) _ rfl HE.out Try.underlying24 rfl Try.tabSize) rfl ?_
      exact ⟨rfl, HE2.out⟩
    by_cases g3 : node < 0
    · go_wp2
      refine bodyPost_ret (results_row2 rfl _ _ (w.heap.size + 1 + 1) 24 #[.int .i64 nn, .slice A n cp] (0, 0) _ rfl HE.out Try.underlying24 rfl Try.tabSize) rfl ?_
      exact ⟨rfl, HE2.out⟩
    by_cases g4 : nn ≤ node
    · go_wp2
      refine bodyPost_ret (results_row2 rfl _ _ (w.heap.size + 1 + 1) 24 #[.int .i64 nn, .slice A n cp] (0, 0) _ rfl HE.out Try.underlying24 rfl Try.tabSize) rfl ?_
      exact ⟨rfl, HE2.out⟩
    clear HE HE2 p0 p1 q0 q1
    obtain ⟨k, rfl⟩ : ∃ k : Nat, shard = (k : Int) := ⟨shard.toNat, by omega⟩
    have hkn : k < n := by omega
    have hTB := HT.out.on HB2.out
    obtain ⟨b, off, x, rfl, hbb, hat, hrx, hrow⟩ := hTB.row hkn
    obtain ⟨k0, k1, k2, k3⟩ := hat
    have hro : M.row t ⟨kind, (k : Int), node, rev⟩ = x.r := by unfold M.row; rw [show ((⟨kind, (k : Int), node, rev⟩ : M.C).shard).toNat = k from Int.toNat_natCast k, hrow]; rfl
    have hno : M.turn x.r ⟨kind, (k : Int), node, rev⟩ = false := by
      have h := HNO.out
      rw [hro] at h
      rwa [show M.place t ⟨kind, (k : Int), node, rev⟩ = true from by
        unfold M.place
        rw [← HFM.out, Bool.true_and, Bool.and_eq_true, decide_eq_true_eq, decide_eq_true_eq, ← HNN.out]
        exact ⟨⟨by simp only; omega, by have := HT.out.len; simp only; omega⟩, by simp only; omega, by simp only; omega⟩, Bool.true_and] at h
    have HN2 := Lib.hid hno
    clear hno hro hrow hTB
    obtain ⟨⟨rv, term, prim, sync⟩, ax, mx, cx⟩ := x
    simp only at k0 k1 k2 k3
    obtain ⟨w3, hw3⟩ : ∃ w3, w3 = w2.alloc (.cells #[.int .u64 (rv : Int), .int .u64 (term : Int), .int .i64 prim, .slice ax mx cx] 42) := ⟨_, rfl⟩
    have hb3 : Below w2.heap.size w2 w3 := by rw [hw3]; exact bel_alloc' w2 _
    have hbx : w3.heap[w2.heap.size]? = some (.cells #[.int .u64 (rv : Int), .int .u64 (term : Int), .int .i64 prim, .slice ax mx cx] 42 (0, 0)) := by rw [hw3]; exact heapNew (w := w2) _
    have HW3 := Lib.hid hw3.symm
    have HBX := Lib.hid hbx
    have HB3 := Lib.hid (HB2.out.trans (hb3.mono HB2.out.size))
    have hbt := (hb3.block w.heap.size (heapLt HBT2.out)).trans HBT2.out
    have hbc := (hb3.block (w.heap.size + 1) (heapLt HBC2.out)).trans HBC2.out
    have hbr := (hb3.block (w.heap.size + 1 + 1) (heapLt HBR2.out)).trans HBR2.out
    have HT3 := Lib.hid hbt; have HC3 := Lib.hid hbc; have HR3 := Lib.hid hbr
    clear hb3 hbx hw3 hbt hbc hbr hrx
    go_upto_region 5 with (fail)
    rw [HW3.out]
    clear k0 k1 k2 k3 a0 a1 b0 b1 b2 b3
    have a0 : w3.cell? ⟨w.heap.size, 0, none⟩ = some (.int .i64 nn) := cellAt 0 HT3.out
    have a1 : w3.cell? ⟨w.heap.size, 1, none⟩ = some (.slice (some ⟨b, off, none⟩) n cp) := cellAt 1 HT3.out
    have b3 : w3.cell? ⟨w.heap.size + 1, 3, none⟩ = some (.int .u64 (rev : Int)) := cellAt 3 HC3.out
    have s0 : w3.cell? ⟨w2.heap.size, 0, none⟩ = some (.int .u64 (rv : Int)) := cellAt 0 HBX.out
    have s1 : w3.cell? ⟨w2.heap.size, 1, none⟩ = some (.int .u64 (term : Int)) := cellAt 1 HBX.out
    have p0 : w3.cell? ⟨w.heap.size + 1 + 1, 0, none⟩ = some (.int .i64 0) := cellAt 0 HR3.out
    have p1 : w3.cell? ⟨w.heap.size + 1 + 1, 1, none⟩ = some (.slice none 0 0) := cellAt 1 HR3.out
    have q0 := freeAt 0 HR3.out
    have q1 := freeAt 1 HR3.out
    have HE := Lib.hid (heapSet 1 (.slice (some ⟨b, off, none⟩) n cp) (heapSet 0 (.int .i64 nn) HR3.out))
    have HE2 := Lib.hid ((HB3.out.setCell (p := ⟨w.heap.size + 1 + 1, 0, none⟩) (by show w.heap.size ≤ w.heap.size + 1 + 1; omega) (.int .i64 nn)).setCell (p := ⟨w.heap.size + 1 + 1, 1, none⟩) (by show w.heap.size ≤ w.heap.size + 1 + 1; omega) (.slice (some ⟨b, off, none⟩) n cp))
    rcases Decidable.em (rv = rev) with g5 | g5
    rotate_left
    · have e1 : ((rv : Int) != (rev : Int)) = true := by simp; omega
      have e1n : (rv != rev) = true := by simp; omega
      clear g5
      go_wp2
      refine bodyPost_ret (results_row2 rfl _ _ (w.heap.size + 1 + 1) 24 #[.int .i64 nn, .slice (some ⟨b, off, none⟩) n cp] (0, 0) _ rfl HE.out Try.underlying24 rfl Try.tabSize) rfl ?_
      exact ⟨rfl, HE2.out⟩
    have e1 : ((rv : Int) != (rev : Int)) = false := by simp; omega
    have e1n : (rv != rev) = false := by simp; omega
    by_cases g6 : decide ((1152921504606846976 : Int) ≤ (rv : Int)) = true
    · clear HNO HN2 HFM g5
      go_wp2
      refine bodyPost_ret (results_row2 rfl _ _ (w.heap.size + 1 + 1) 24 #[.int .i64 nn, .slice (some ⟨b, off, none⟩) n cp] (0, 0) _ rfl HE.out Try.underlying24 rfl Try.tabSize) rfl ?_
      exact ⟨rfl, HE2.out⟩
    have g6 : decide ((1152921504606846976 : Int) ≤ (rv : Int)) = false := by simpa using g6
    by_cases g7 : decide ((1152921504606846976 : Int) ≤ (term : Int)) = true
    · clear HNO HN2 HFM g5
      go_wp2
      refine bodyPost_ret (results_row2 rfl _ _ (w.heap.size + 1 + 1) 24 #[.int .i64 nn, .slice (some ⟨b, off, none⟩) n cp] (0, 0) _ rfl HE.out Try.underlying24 rfl Try.tabSize) rfl ?_
      exact ⟨rfl, HE2.out⟩
    exfalso
    have h := HN2.out
    unfold M.turn M.bound at h
    rw [decide_eq_false_iff_not] at h
    simp only [decide_eq_true_eq, decide_eq_false_iff_not] at g6 g7
    exact h ⟨g5.symm, by simp only; omega, by simp only; omega⟩
end Go.Proofs.Ytghnelfgnfhclaa
