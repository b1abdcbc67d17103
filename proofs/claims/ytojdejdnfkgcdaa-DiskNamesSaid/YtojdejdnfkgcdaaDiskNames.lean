/-
  The law DiskNames, by the contracts.
-/
import Derived.Test.YtojdejdnfkgcdaaDiskK
namespace Go.Proofs.Ytojdejdnfkgcdaa
open Go.RowKit Mem FM

set_option maxRecDepth 100000 in
set_option maxHeartbeats 1000000 in
theorem diskNames_any (s : ByteArray) (w : World) (hs : s.size ≤ 9223372036854775807) : Calls Try.prog 4 #[.string s] w (Yes w) := by
  go_enter Try.func4, Try.ntmps4
  go_wp2_with fail
  refine (awake_any w).mono ?_
  rintro e w1 ⟨rfl, hb1⟩
  go_wp2_with fail
  refine (name_any s _ hs).mono ?_
  rintro e w2 ⟨rfl, rfl⟩
  go_wp2_with fail
  refine (ref_name_any s _ hs).mono ?_
  rintro e w2 ⟨rfl, rfl⟩
  generalize nameOk s = x
  cases x
  · go_wp2
    go_ret
    exact ⟨rfl, hb1⟩
  · go_wp2
    go_ret
    exact ⟨rfl, hb1⟩
end Go.Proofs.Ytojdejdnfkgcdaa
