/-
  What the laws' turned does; the law WordsCase.
-/
import Derived.Test.YtfapkpaohkdfpaaGreatDoorWordsI
namespace Go.Proofs.YtfapkpaohkdfpaaGreatDoor
open Go.RowKit Mem
set_option linter.unusedVariables false
set_option maxRecDepth 100000

def turnF (back : Bool) : UInt8 → UInt8 := if back then M.low else M.high
theorem high_turn {b : UInt8} {x : Nat} (hx : b.toNat = x) (h : 97 ≤ x ∧ x ≤ 122) : ((M.high b).toNat : Int) = (x : Int) - 32 := by
  have e : M.high b = b - 32 := by unfold M.high; rw [if_pos (by rw [hx]; exact h)]
  rw [e, UInt8.toNat_sub, hx]
  show (((256 - 32 + x) % 256 : Nat) : Int) = _
  omega
theorem low_turn {b : UInt8} {x : Nat} (hx : b.toNat = x) (h : 65 ≤ x ∧ x ≤ 90) : ((M.low b).toNat : Int) = (x : Int) + 32 := by
  have e : M.low b = b + 32 := by unfold M.low; rw [if_pos (by rw [hx]; exact h)]
  rw [e, UInt8.toNat_add, hx]
  show (((x + 32) % 256 : Nat) : Int) = _
  omega
theorem high_keep {b : UInt8} (h : ¬ (97 ≤ b.toNat ∧ b.toNat ≤ 122)) : M.high b = b := by unfold M.high; rw [if_neg h]

end Go.Proofs.YtfapkpaohkdfpaaGreatDoor
