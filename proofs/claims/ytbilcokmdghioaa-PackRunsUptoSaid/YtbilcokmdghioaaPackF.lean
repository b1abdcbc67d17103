/-
  The document's examples ('awake') come out true: a contract.
-/
import Derived.Test.YtbilcokmdghioaaPackE
import Derived.Lib.SlBytesConst
namespace Go.Proofs.Ytbilcokmdghioaa
open Go.RowKit Mem

def Yes (w : World) (e : Ending) (w' : World) : Prop := e = .returned (.bool true) ∧ Below w.heap.size w w'

set_option maxRecDepth 100000 in
set_option maxHeartbeats 1000000 in
theorem awake_any (w : World) : Calls Try.prog 11 #[] w (Yes w) := by
  have c1 : Calls Try.prog 12 #[.int .u64 300] w (Gives w [172, 2]) := uvarint_any 300 w (by omega)
  have C1 := Lib.hid c1
  have kc := fun (w : World) (C : Array Value) (n c : Nat) => Lib.run_convert_bytes_const (P := Try.prog) w 24 5 C n c Try.underlying24 Try.underlying5
  clear c1
  go_enter Try.func11, Try.ntmps11
  go_wp2_with fail
  refine C1.out.mono ?_
  rintro e w1 ⟨v, rfl, hown, hbel⟩
  obtain ⟨A1, c1, rfl, hrd⟩ := hown.open_
  have hs1 : (convert 24 9 (.slice A1 2 c1)).run Try.prog w1 = .ok (.string ⟨#[172, 2]⟩) w1 := run_str (P := Try.prog) w1 _ 24 9 5 Try.underlying24 Try.underlying5 Try.underlying9 A1 _ c1 _ hrd
  go_wp2_with fail
  refine (zig_any (-1) _ (by omega) (by omega)).mono ?_
  rintro e w2 ⟨rfl, rfl⟩
  rw [show M.zig (-1) = 1 from rfl]
  go_wp2_with fail
  refine (sum_any _ 9 9 _ [49, 50, 51, 52, 53, 54, 55, 56, 57] _ (Rd.fresh w1 _ _ _ [49, 50, 51, 52, 53, 54, 55, 56, 57] (by rfl) (by decide))).mono ?_
  rintro e w3 ⟨rfl, rfl⟩
  rw [show ((M.sum [49, 50, 51, 52, 53, 54, 55, 56, 57] : Nat) : Int) = 3421780262 from by decide +kernel]
  go_wp2
  go_ret
  exact ⟨rfl, hbel.alloc hbel.size _⟩
end Go.Proofs.Ytbilcokmdghioaa
