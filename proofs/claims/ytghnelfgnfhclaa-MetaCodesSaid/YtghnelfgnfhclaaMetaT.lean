/-
  Has a command a form as bytes: written, by a contract.
-/
import Derived.Test.YtghnelfgnfhclaaMetaG
namespace Go.Proofs.Ytghnelfgnfhclaa
open Go.RowKit Mem Go.ChangeShapes
set_option linter.unusedVariables false
set_option maxRecDepth 100000

def coded (kind : Nat) (shard node : Int) : Bool := decide (1 ≤ kind ∧ kind ≤ 3) && (decide (0 ≤ shard ∧ shard ≤ 7) && decide (0 ≤ node ∧ node ≤ 4))

set_option maxHeartbeats 4000000 in
theorem written_any (c : M.C) (w : World) (hk : c.kind < 256) : Calls Try.prog 34 #[.agg #[.int .u8 (c.kind : Int), .int .i64 c.shard, .int .i64 c.node, .int .u64 (c.rev : Int)]] w (SaysB (coded c.kind c.shard c.node) w) := by
  obtain ⟨kind, shard, node, rev⟩ := c
  simp only at hk ⊢
  have HI1 := Lib.hid (fun W => within_any shard 0 7 W)
  have HI2 := Lib.hid (fun W => within_any node 0 4 W)
  have HR : Hid (coded kind shard node = (decide (1 ≤ kind ∧ kind ≤ 3) && (decide (0 ≤ shard ∧ shard ≤ 7) && decide (0 ≤ node ∧ node ≤ 4)))) := rfl
  generalize coded kind shard node = res at *
  generalize decide (0 ≤ shard ∧ shard ≤ 7) = q1 at *
  generalize decide (0 ≤ node ∧ node ≤ 4) = q2 at *
  obtain ⟨K, hK⟩ : ∃ K : Int, K = (kind : Int) := ⟨_, rfl⟩
  rw [← hK]
  obtain ⟨w1, hw1⟩ : ∃ w1, w1 = w.alloc (.cells #[.int .u8 K, .int .i64 shard, .int .i64 node, .int .u64 (rev : Int)] 39) := ⟨_, rfl⟩
  have hbx : w1.heap[w.heap.size]? = some (.cells #[.int .u8 K, .int .i64 shard, .int .i64 node, .int .u64 (rev : Int)] 39 (0, 0)) := by rw [hw1]; exact heapNew (w := w) _
  have HB := Lib.hid (show Below w.heap.size w w1 by rw [hw1]; exact bel_alloc' w _)
  have HBX := Lib.hid hbx
  have HW1 := Lib.hid hw1.symm
  clear hw1 hbx
  rcases Decidable.em (1 ≤ kind ∧ kind ≤ 3) with hd | hd
  · have HR2 : Hid (res = (q1 && q2)) := Lib.hid (HR.out.trans (by rw [decide_eq_true hd]; rfl))
    clear HR
    have h3 : K = 1 ∨ K = 2 ∨ K = 3 := by omega
    have HC0 := Lib.hid (show w1.cell? ⟨w.heap.size, 0, none⟩ = some (.int .u8 K) from cellAt 0 HBX.out)
    clear hd hk hK
    rcases h3 with rfl | rfl | rfl
    all_goals
      go_enter Try.func34, Try.ntmps34
      go_upto_region 1 with (fail)
      rw [HW1.out]
      have c0 := HC0.out
      have c1 : w1.cell? ⟨w.heap.size, 1, none⟩ = some (.int .i64 shard) := cellAt 1 HBX.out
      have c2 : w1.cell? ⟨w.heap.size, 2, none⟩ = some (.int .i64 node) := cellAt 2 HBX.out
      go_wp2_with fail
      refine (HI1.out w1).mono ?_
      rintro e w2 ⟨rfl, rfl⟩
      cases q1
      · go_wp2
        go_ret
        exact ⟨by rw [HR2.out]; rfl, HB.out⟩
      · go_wp2_with fail
        refine (HI2.out w2).mono ?_
        rintro e w3 ⟨rfl, rfl⟩
        go_wp2
        go_ret
        exact ⟨by rw [HR2.out]; rfl, HB.out⟩
  · have HR2 : Hid (res = false) := Lib.hid (HR.out.trans (by rw [decide_eq_false hd]; rfl))
    clear HR
    have e1 : ¬ K = 1 := by omega
    have e2 : ¬ K = 2 := by omega
    have e3 : ¬ K = 3 := by omega
    clear hd hk hK
    go_enter Try.func34, Try.ntmps34
    go_upto_region 1 with (fail)
    rw [HW1.out]
    have c0 : w1.cell? ⟨w.heap.size, 0, none⟩ = some (.int .u8 K) := cellAt 0 HBX.out
    go_wp2
    go_ret
    exact ⟨by rw [HR2.out]; rfl, HB.out⟩
end Go.Proofs.Ytghnelfgnfhclaa
