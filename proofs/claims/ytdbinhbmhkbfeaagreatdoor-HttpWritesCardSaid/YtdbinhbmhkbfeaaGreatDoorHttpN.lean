/-
  The laws' awake, and HttpReads, by contracts.
-/
import Derived.Test.YtdbinhbmhkbfeaaGreatDoorHttpH
import Derived.Laws.StructEq
namespace Go.Proofs.YtdbinhbmhkbfeaaGreatDoor
open Go.RowKit Mem Go.Sort
set_option linter.unusedVariables false
set_option maxRecDepth 100000

def awakeL : List UInt8 := [71, 69, 84, 32, 47, 116, 97, 98, 108, 101, 32, 72, 84, 84, 80, 47, 49, 46, 49, 13, 10, 72, 111, 115, 116, 58, 32, 120, 13, 10, 13, 10]
theorem awake_read : M.read awakeL = (⟨[71, 69, 84], [47, 116, 97, 98, 108, 101], [], false⟩, 32, 0) := by kernel_rfl

set_option maxHeartbeats 1000000 in
theorem awake_any (w : World) (hV : Vars w) : Calls Tryz.prog 5 #[] w fun e w' => e = .returned (.bool true) ∧ Below w.heap.size w w' := by
  have HR := Lib.hid (Read_any ⟨awakeL.toArray⟩ w (by rw [size_mk]; decide) hV)
  rw [bl_mk, awake_read] at HR
  clear hV
  go_enter Tryz.func5, Tryz.ntmps5
  go_wp2_with fail
  refine HR.out.mono ?_
  rintro e w1 ⟨rfl, hb⟩
  simp only [rqv]
  go_wp2
  go_ret
  exact ⟨rfl, hb.alloc hb.size _⟩

end Go.Proofs.YtdbinhbmhkbfeaaGreatDoor
