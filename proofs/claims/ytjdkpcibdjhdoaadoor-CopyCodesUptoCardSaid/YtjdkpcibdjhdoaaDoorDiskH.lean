/-
  What lose does, by contract.
-/
import Derived.Test.YtjdkpcibdjhdoaaDoorDiskG
namespace Go.Proofs.YtjdkpcibdjhdoaaDoor
open Go.RowKit Mem FM

/-- how many bytes are left, and durable, of n of which so many were durable -/
def left (n sure : Nat) (keep : Int) : Nat := if keep ≤ 0 then sure else if keep ≤ ((n - sure : Nat) : Int) then sure + keep.toNat else n
theorem left_le {n sure : Nat} {keep : Int} (h : sure ≤ n) : sure ≤ left n sure keep ∧ left n sure keep ≤ n := by
  unfold left
  split
  · omega
  · split <;> omega

end Go.Proofs.YtjdkpcibdjhdoaaDoor
