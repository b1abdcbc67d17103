/-
  The laws' awake, and HttpReads, by contracts.
-/
import Derived.Test.YthgfjfljiadllaaGreatDoorHttpH
import Derived.Laws.StructEq
namespace Go.Proofs.YthgfjfljiadllaaGreatDoor
open Go.RowKit Mem Go.Sort
set_option linter.unusedVariables false
set_option maxRecDepth 100000

def awakeL : List UInt8 := [71, 69, 84, 32, 47, 116, 97, 98, 108, 101, 32, 72, 84, 84, 80, 47, 49, 46, 49, 13, 10, 72, 111, 115, 116, 58, 32, 120, 13, 10, 13, 10]
theorem awake_read : M.read awakeL = (⟨[71, 69, 84], [47, 116, 97, 98, 108, 101], [], false⟩, 32, 0) := by kernel_rfl

set_option maxHeartbeats 1000000 in
theorem awake_any (w : World) (hV : Vars w) : Calls Tryz.prog 6 #[] w fun e w' => e = .returned (.bool true) ∧ Below w.heap.size w w' := by
  have HR := Lib.hid (Read_any ⟨awakeL.toArray⟩ w (by rw [size_mk]; decide) hV)
  rw [bl_mk, awake_read] at HR
  clear hV
  go_enter Tryz.func6, Tryz.ntmps6
  go_wp2_with fail
  refine HR.out.mono ?_
  rintro e w1 ⟨rfl, hb⟩
  simp only [rqv]
  go_wp2
  go_ret
  exact ⟨rfl, hb.alloc hb.size _⟩

set_option maxHeartbeats 2000000 in
theorem httpReads_any (s : ByteArray) (w : World) (hV : Vars w) (hs : s.size ≤ 140737488351232) (HREF : Hid (∀ w1, Calls Tryz.prog 8 #[.string s] w1 (TellsR (M.read (bl s)) w1))) :
    Calls Tryz.prog 3 #[.string s] w fun e w' => e = .returned (.bool true) ∧ Below w.heap.size w w' := by
  have HA := Lib.hid (awake_any w hV)
  have HR := Lib.hid (fun w1 (hb : Below w.heap.size w w1) => Read_any s w1 (by omega) (hV.below hb))
  clear hV
  generalize M.read (bl s) = rr at *
  obtain ⟨⟨m, pa, body, cl⟩, n, st⟩ := rr
  go_enter Tryz.func3, Tryz.ntmps3
  go_wp2_with fail
  refine HA.out.mono ?_
  rintro e w1 ⟨rfl, hb1⟩
  have HB1 := Lib.hid hb1
  clear hb1
  go_wp2_with fail
  refine (HR.out w1 HB1.out).mono ?_
  rintro e w2 ⟨rfl, hb2⟩
  have HB2 := Lib.hid (HB1.out.trans (hb2.mono HB1.out.size))
  clear hb2
  simp only [rqv]
  obtain ⟨w3, hw3⟩ : ∃ w3, w3 = w2.alloc (.cells #[.string ⟨m.toArray⟩, .string ⟨pa.toArray⟩, .string ⟨body.toArray⟩, .bool cl] 24) := ⟨_, rfl⟩
  have HQ3 := Lib.hid (show RqIn w3 w2.heap.size m pa body cl by rw [hw3]; exact heap_alloc_new _ _)
  have HB3 := Lib.hid (show Below w.heap.size w w3 by rw [hw3]; exact HB2.out.alloc HB2.out.size _)
  have HW3 := Lib.hid hw3
  clear hw3
  go_wp2_with fail
  rw [← HW3.out]
  refine (HREF.out w3).mono ?_
  rintro e w4 ⟨rfl, hb4⟩
  have HQ4 := Lib.hid (HQ3.out.on hb4)
  have HB4 := Lib.hid (HB3.out.trans (hb4.mono HB3.out.size))
  have hlt4 := HQ4.out.lt
  obtain ⟨x0, x1, x2, x3⟩ := HQ4.out.cells
  clear hb4
  simp only [rqv]
  go_wp2
  go_ret
  exact ⟨by simp, HB4.out.alloc HB4.out.size _⟩
end Go.Proofs.YthgfjfljiadllaaGreatDoor
