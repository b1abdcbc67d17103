/-
  Decode, by a contract.
-/
import Derived.Test.YtghnelfgnfhclaaMetaU
import Derived.StillTailTactics
import Derived.Deep.RegionHeld3
namespace Go.Proofs.Ytghnelfgnfhclaa
open Go.RowKit Mem Go.ChangeShapes
set_option linter.unusedVariables false
set_option maxRecDepth 100000

abbrev czero : Value := .agg #[.int .u8 0, .int .i64 0, .int .i64 0, .int .u64 0]
def DecOf (l : List UInt8) (w : World) (e : Ending) (w' : World) : Prop :=
  e = .returned (.tuple #[if M.isCmd l then cval (M.told l) else czero, .int .i64 (if M.isCmd l then 0 else 3)]) ∧ Below w.heap.size w w'
theorem Try.cmdSize : (Try.prog.info? 39).map (·.size) = some 4 := by kernel_rfl

theorem below_drew {B : Nat} {w w' : World} (h : Below B w w') : Below B w w'.drew := ⟨h.os, h.tape, h.output, h.size, h.block⟩
theorem coded_of {x0 x1 x2 : Nat} {rv : Nat} : M.okc ⟨x0, (x1 : Int), (x2 : Int), rv⟩ = coded x0 (x1 : Int) (x2 : Int) := rfl

set_option maxHeartbeats 4000000 in
theorem decode_any (A : Option Addr) (n c : Nat) (l : List UInt8) (w : World) (h : Rd w w.heap.size A n c l) : Calls Try.prog 21 #[.slice A n c] w (DecOf l w) := by
  have hn := h.len
  have hcap := h.cap
  have hmax := h.max
  obtain ⟨w1, hw1⟩ : ∃ w1, w1 = w.alloc (.cells #[.int .u8 0, .int .i64 0, .int .i64 0, .int .u64 0] 39) := ⟨_, rfl⟩
  have hbx : w1.heap[w.heap.size]? = some (.cells #[.int .u8 0, .int .i64 0, .int .i64 0, .int .u64 0] 39 (0, 0)) := by rw [hw1]; exact heapNew (w := w) _
  have HB := Lib.hid (show Below w.heap.size w w1 by rw [hw1]; exact bel_alloc' w _)
  have HBX := Lib.hid hbx
  have HW1 := Lib.hid hw1.symm
  clear hw1 hbx
  have HRD := Lib.hid (h.below HB.out)
  have z0 : w1.cell? ⟨w.heap.size, 0, none⟩ = some (.int .u8 0) := cellAt 0 HBX.out
  have z1 : w1.cell? ⟨w.heap.size, 1, none⟩ = some (.int .i64 0) := cellAt 1 HBX.out
  have z2 : w1.cell? ⟨w.heap.size, 2, none⟩ = some (.int .i64 0) := cellAt 2 HBX.out
  have z3 : w1.cell? ⟨w.heap.size, 3, none⟩ = some (.int .u64 0) := cellAt 3 HBX.out
  have f0 := freeAt 0 HBX.out
  have f1 := freeAt 1 HBX.out
  have f2 := freeAt 2 HBX.out
  have f3 := freeAt 3 HBX.out
  by_cases h3 : n < 3
  · have HNO := Lib.hid (show M.isCmd l = false by unfold M.isCmd; rw [decide_eq_false (by omega)]; rfl)
    have HZ := Lib.hid (heapSet 3 (.int .u64 0) (heapSet 2 (.int .i64 0) (heapSet 1 (.int .i64 0) (heapSet 0 (.int .u8 0) HBX.out))))
    have HZB := Lib.hid ((((HB.out.setCell (p := ⟨w.heap.size, 0, none⟩) (Nat.le_refl _) (.int .u8 0)).setCell (p := ⟨w.heap.size, 1, none⟩) (Nat.le_refl _) (.int .i64 0)).setCell (p := ⟨w.heap.size, 2, none⟩) (Nat.le_refl _) (.int .i64 0)).setCell (p := ⟨w.heap.size, 3, none⟩) (Nat.le_refl _) (.int .u64 0))
    clear h hn
    go_enter Try.func21, Try.ntmps21
    go_upto_region 1 with (fail)
    rw [HW1.out]
    go_wp2
    refine bodyPost_ret (results_row2 rfl _ _ w.heap.size 39 #[.int .u8 0, .int .i64 0, .int .i64 0, .int .u64 0] (0, 0) _ rfl HZ.out Try.underlying39 rfl Try.cmdSize) rfl ?_
    exact ⟨by rw [if_neg (by rw [HNO.out]; simp), if_neg (by rw [HNO.out]; simp)]; rfl, HZB.out⟩
  obtain ⟨b, off, rfl, hbl, hx0⟩ := h.at_ (k := 0) (by omega)
  obtain ⟨b', off', e1, -, hx1⟩ := h.at_ (k := 1) (by omega)
  obtain ⟨b2, off2, e2, -, hx2⟩ := h.at_ (k := 2) (by omega)
  injection e1 with e1; injection e1 with e1a e1b; subst e1a e1b
  injection e2 with e2; injection e2 with e2a e2b; subst e2a e2b
  rw [Nat.add_zero] at hx0
  obtain ⟨x0, hxe0⟩ : ∃ x : Nat, x = (l[0]?.getD 0).toNat := ⟨_, rfl⟩
  obtain ⟨x1, hxe1⟩ : ∃ x : Nat, x = (l[1]?.getD 0).toNat := ⟨_, rfl⟩
  obtain ⟨x2, hxe2⟩ : ∃ x : Nat, x = (l[2]?.getD 0).toNat := ⟨_, rfl⟩
  rw [← hxe0] at hx0
  rw [← hxe1] at hx1
  rw [← hxe2] at hx2
  have y0 : w1.cell? ⟨b, off, none⟩ = some (.int .u8 (x0 : Int)) := (HB.out.cell (p := ⟨b, off, none⟩) hbl).trans hx0
  have y1 : w1.cell? ⟨b, off + 1, none⟩ = some (.int .u8 (x1 : Int)) := (HB.out.cell (p := ⟨b, off + 1, none⟩) hbl).trans hx1
  have y2 : w1.cell? ⟨b, off + 2, none⟩ = some (.int .u8 (x2 : Int)) := (HB.out.cell (p := ⟨b, off + 2, none⟩) hbl).trans hx2
  have b0 : x0 < 256 := by rw [hxe0]; exact UInt8.toNat_lt _
  have b1 : x1 < 256 := by rw [hxe1]; exact UInt8.toNat_lt _
  have b2 : x2 < 256 := by rw [hxe2]; exact UInt8.toNat_lt _
  have HTO := Lib.hid (show M.told l = ⟨x0, (x1 : Int), (x2 : Int), (M.rdAt l 3).1⟩ by unfold M.told; rw [hxe0, hxe1, hxe2])
  have HIS := Lib.hid (show M.isCmd l = (decide ((M.rdAt l 3).2.2 = 0) && (decide ((M.rdAt l 3).2.1 = n) && M.okc (M.told l))) by unfold M.isCmd; rw [decide_eq_true (by omega), Bool.true_and, hn])
  have HRU := Lib.hid (readUvarint_any (some ⟨b, off, none⟩) n c w.heap.size l 3 w1 HRD.out (by omega) (by omega))
  have HER := Lib.hid (M.rdAt_err l 3)
  have HOKR := Lib.hid (fun h => (M.rdAt_le (l := l) (k := 3) h))
  have HRB := Lib.hid (fun h => (M.rdAt_ok (l := l) (k := 3) h))
  have HNL := Lib.hid hn
  clear hx0 hx1 hx2 hxe0 hxe1 hxe2 h hn
  unfold Tells at HRU
  have HDO : Hid (DecOf l w = fun e w' => e = .returned (.tuple #[if M.isCmd l then cval (M.told l) else czero, .int .i64 (if M.isCmd l then 0 else 3)]) ∧ Below w.heap.size w w') := rfl
  generalize DecOf l w = D at *
  generalize M.told l = tl at *
  generalize M.isCmd l = is at *
  obtain ⟨⟨rv, en, er⟩, hrd⟩ : ∃ r, r = M.rdAt l 3 := ⟨_, rfl⟩
  have HRD3 := Lib.hid hrd
  rw [← hrd] at HTO HIS HRU HER HOKR HRB
  clear hrd
  simp only at HTO HIS HRU HER HOKR HRB
  go_enter Try.func21, Try.ntmps21
  go_upto_region 1 with (fail)
  rw [HW1.out]
  go_wp2_with fail
  refine HRU.out.mono ?_
  rintro e w2 ⟨rfl, rfl⟩
  clear f0 f1 f2 f3 z0 z1 z2 z3
  have g0 : (0 : Int) < (n : Int) := by omega
  have g0n : 0 < n := by omega
  have v1 : IntKind.i64.wrap (x1 : Int) = (x1 : Int) := by rw [IntKind.wrap_i64]; omega
  have v2 : IntKind.i64.wrap (x2 : Int) = (x2 : Int) := by rw [IntKind.wrap_i64]; omega
  have g1 : (1 : Int) < (n : Int) := by omega
  have g2 : (2 : Int) < (n : Int) := by omega
  go_wp2_with fail
  go_region_held3 (fun W => W.cell? ⟨b, off, none⟩ = some (.int .u8 (x0 : Int)) ∧ W.cell? ⟨b, off + 1, none⟩ = some (.int .u8 (x1 : Int)) ∧ W.cell? ⟨b, off + 2, none⟩ = some (.int .u8 (x2 : Int)))
    (go_keep) (fail)
  have hs1 : w.heap.size < w1.heap.size := heapLt HBX.out
  have HWA := Lib.hid (fun W => written_any ⟨x0, (x1 : Int), (x2 : Int), rv⟩ W b0)
  unfold SaysB at HWA
  simp only at HWA
  rw [HTO.out, coded_of] at HIS
  generalize coded x0 (x1 : Int) (x2 : Int) = ok at *
  obtain ⟨w3, hw3⟩ : ∃ w3, w3 = (w1.alloc (.cells #[.int .u8 (x0 : Int), .int .i64 (x1 : Int), .int .i64 (x2 : Int), .int .u64 (rv : Int)] 39)).drew := ⟨_, rfl⟩
  have HW3 := Lib.hid hw3.symm
  have HB3 := Lib.hid (show Below w.heap.size w w3 by rw [hw3]; exact below_drew (HB.out.alloc HB.out.size _))
  have hbx3 : w3.heap[w.heap.size]? = some (.cells #[.int .u8 0, .int .i64 0, .int .i64 0, .int .u64 0] 39 (0, 0)) := by rw [hw3]; exact heapOld HBX.out
  have hby3 : w3.heap[w1.heap.size]? = some (.cells #[.int .u8 (x0 : Int), .int .i64 (x1 : Int), .int .i64 (x2 : Int), .int .u64 (rv : Int)] 39 (0, 0)) := by rw [hw3]; exact heapNew (w := w1) _
  have HBX3 := Lib.hid hbx3
  have HBY3 := Lib.hid hby3
  rw [HW3.out]
  clear hw3 hbx3 hby3 y0 y1 y2 g0 g0n g1 g2 v1 v2
  have z0 : w3.cell? ⟨w.heap.size, 0, none⟩ = some (.int .u8 0) := cellAt 0 HBX3.out
  have z1 : w3.cell? ⟨w.heap.size, 1, none⟩ = some (.int .i64 0) := cellAt 1 HBX3.out
  have z2 : w3.cell? ⟨w.heap.size, 2, none⟩ = some (.int .i64 0) := cellAt 2 HBX3.out
  have z3 : w3.cell? ⟨w.heap.size, 3, none⟩ = some (.int .u64 0) := cellAt 3 HBX3.out
  have f0 := freeAt 0 HBX3.out
  have f1 := freeAt 1 HBX3.out
  have f2 := freeAt 2 HBX3.out
  have f3 := freeAt 3 HBX3.out
  have HZ := Lib.hid (heapSet 3 (.int .u64 0) (heapSet 2 (.int .i64 0) (heapSet 1 (.int .i64 0) (heapSet 0 (.int .u8 0) HBX3.out))))
  have HZB := Lib.hid ((((HB3.out.setCell (p := ⟨w.heap.size, 0, none⟩) (Nat.le_refl _) (.int .u8 0)).setCell (p := ⟨w.heap.size, 1, none⟩) (Nat.le_refl _) (.int .i64 0)).setCell (p := ⟨w.heap.size, 2, none⟩) (Nat.le_refl _) (.int .i64 0)).setCell (p := ⟨w.heap.size, 3, none⟩) (Nat.le_refl _) (.int .u64 0))
  rcases HER.out with rfl | ⟨rfl, -⟩ | ⟨rfl, -⟩
  rotate_left
  · clear HER HRU HOKR HRB HRD3 HTO
    go_wp2
    refine bodyPost_ret (results_row2 rfl _ _ w.heap.size 39 #[.int .u8 0, .int .i64 0, .int .i64 0, .int .u64 0] (0, 0) _ rfl HZ.out Try.underlying39 rfl Try.cmdSize) rfl ?_
    rw [HDO.out, HIS.out]
    exact ⟨rfl, HZB.out⟩
  · clear HER HRU HOKR HRB HRD3 HTO
    go_wp2
    refine bodyPost_ret (results_row2 rfl _ _ w.heap.size 39 #[.int .u8 0, .int .i64 0, .int .i64 0, .int .u64 0] (0, 0) _ rfl HZ.out Try.underlying39 rfl Try.cmdSize) rfl ?_
    rw [HDO.out, HIS.out]
    exact ⟨rfl, HZB.out⟩
  clear HER HRU HOKR HRB HRD3
  rcases (Decidable.em (en = n)).symm with hen | hen
  · have e1 : ((en : Int) != (n : Int)) = true := by simp; omega
    have e1n : (en != n) = true := by simp; omega
    rw [decide_eq_false hen] at HIS
    clear hen
    go_wp2
    refine bodyPost_ret (results_row2 rfl _ _ w.heap.size 39 #[.int .u8 0, .int .i64 0, .int .i64 0, .int .u64 0] (0, 0) _ rfl HZ.out Try.underlying39 rfl Try.cmdSize) rfl ?_
    rw [HDO.out, HIS.out]
    exact ⟨rfl, HZB.out⟩
  rw [decide_eq_true hen] at HIS
  have e1 : ((en : Int) != (n : Int)) = false := by simp; omega
  have e1n : (en != n) = false := by simp; omega
  clear hen
  have y0 : w3.cell? ⟨w1.heap.size, 0, none⟩ = some (.int .u8 (x0 : Int)) := cellAt 0 HBY3.out
  have y1 : w3.cell? ⟨w1.heap.size, 1, none⟩ = some (.int .i64 (x1 : Int)) := cellAt 1 HBY3.out
  have y2 : w3.cell? ⟨w1.heap.size, 2, none⟩ = some (.int .i64 (x2 : Int)) := cellAt 2 HBY3.out
  have y3 : w3.cell? ⟨w1.heap.size, 3, none⟩ = some (.int .u64 (rv : Int)) := cellAt 3 HBY3.out
  go_wp2_with fail
  refine (HWA.out w3).mono ?_
  rintro e w4 ⟨rfl, hb4⟩
  have HB4 := Lib.hid (HB3.out.trans (hb4.mono HB3.out.size))
  have HBX4 := Lib.hid ((hb4.block w.heap.size (heapLt HBX3.out)).trans HBX3.out)
  have HBY4 := Lib.hid ((hb4.block w1.heap.size (heapLt HBY3.out)).trans HBY3.out)
  clear hb4 y0 y1 y2 y3 z0 z1 z2 z3 f0 f1 f2 f3 HZ HZB e1 e1n
  have z0 : w4.cell? ⟨w.heap.size, 0, none⟩ = some (.int .u8 0) := cellAt 0 HBX4.out
  have z1 : w4.cell? ⟨w.heap.size, 1, none⟩ = some (.int .i64 0) := cellAt 1 HBX4.out
  have z2 : w4.cell? ⟨w.heap.size, 2, none⟩ = some (.int .i64 0) := cellAt 2 HBX4.out
  have z3 : w4.cell? ⟨w.heap.size, 3, none⟩ = some (.int .u64 0) := cellAt 3 HBX4.out
  have f0 := freeAt 0 HBX4.out
  have f1 := freeAt 1 HBX4.out
  have f2 := freeAt 2 HBX4.out
  have f3 := freeAt 3 HBX4.out
  cases ok
  · have HZ := Lib.hid (heapSet 3 (.int .u64 0) (heapSet 2 (.int .i64 0) (heapSet 1 (.int .i64 0) (heapSet 0 (.int .u8 0) HBX4.out))))
    have HZB := Lib.hid ((((HB4.out.setCell (p := ⟨w.heap.size, 0, none⟩) (Nat.le_refl _) (.int .u8 0)).setCell (p := ⟨w.heap.size, 1, none⟩) (Nat.le_refl _) (.int .i64 0)).setCell (p := ⟨w.heap.size, 2, none⟩) (Nat.le_refl _) (.int .i64 0)).setCell (p := ⟨w.heap.size, 3, none⟩) (Nat.le_refl _) (.int .u64 0))
    go_wp2
    refine bodyPost_ret (results_row2 rfl _ _ w.heap.size 39 #[.int .u8 0, .int .i64 0, .int .i64 0, .int .u64 0] (0, 0) _ rfl HZ.out Try.underlying39 rfl Try.cmdSize) rfl ?_
    rw [HDO.out, HIS.out]
    exact ⟨rfl, HZB.out⟩
  · have HZ := Lib.hid (heapSet 3 (.int .u64 (rv : Int)) (heapSet 2 (.int .i64 (x2 : Int)) (heapSet 1 (.int .i64 (x1 : Int)) (heapSet 0 (.int .u8 (x0 : Int)) HBX4.out))))
    have HZB := Lib.hid ((((HB4.out.setCell (p := ⟨w.heap.size, 0, none⟩) (Nat.le_refl _) (.int .u8 (x0 : Int))).setCell (p := ⟨w.heap.size, 1, none⟩) (Nat.le_refl _) (.int .i64 (x1 : Int))).setCell (p := ⟨w.heap.size, 2, none⟩) (Nat.le_refl _) (.int .i64 (x2 : Int))).setCell (p := ⟨w.heap.size, 3, none⟩) (Nat.le_refl _) (.int .u64 (rv : Int)))
    have y0 : w4.cell? ⟨w1.heap.size, 0, none⟩ = some (.int .u8 (x0 : Int)) := cellAt 0 HBY4.out
    have y1 : w4.cell? ⟨w1.heap.size, 1, none⟩ = some (.int .i64 (x1 : Int)) := cellAt 1 HBY4.out
    have y2 : w4.cell? ⟨w1.heap.size, 2, none⟩ = some (.int .i64 (x2 : Int)) := cellAt 2 HBY4.out
    have y3 : w4.cell? ⟨w1.heap.size, 3, none⟩ = some (.int .u64 (rv : Int)) := cellAt 3 HBY4.out
    go_wp2
    refine bodyPost_ret (results_row2 rfl _ _ w.heap.size 39 #[.int .u8 (x0 : Int), .int .i64 (x1 : Int), .int .i64 (x2 : Int), .int .u64 (rv : Int)] (0, 0) _ rfl HZ.out Try.underlying39 rfl Try.cmdSize) rfl ?_
    rw [HDO.out, HIS.out, HTO.out]
    exact ⟨rfl, HZB.out⟩
end Go.Proofs.Ytghnelfgnfhclaa
