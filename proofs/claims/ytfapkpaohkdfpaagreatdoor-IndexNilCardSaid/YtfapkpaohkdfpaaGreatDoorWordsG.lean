/-
  What One, Pair and paired do, by contracts.
-/
import Derived.Test.YtfapkpaohkdfpaaGreatDoorWordsF
import Derived.BigQuiet
import Derived.Deep.QuietTactic
import Derived.Deep.RegionHeld3
namespace Go.Proofs.YtfapkpaohkdfpaaGreatDoor
open Go.RowKit Mem
set_option linter.unusedVariables false
set_option maxRecDepth 100000

namespace M
def one (l : List UInt8) : Bool := match words l with
  | [x] => decide (x.text = l)
  | _ => false
def pair (l : List UInt8) : Bool := match words l with
  | [x, y] => decide (x.text ++ 61 :: y.text = l)
  | _ => false
end M
def SaysB (b : Bool) (w : World) (e : Ending) (w' : World) : Prop := e = .returned (.bool b) ∧ Below w.heap.size w w'

theorem eq_str (a : List UInt8) (s : ByteArray) : (a == s.toList) = decide (a = bl s) := by
  rw [Lib.toList_data, Bool.eq_iff_iff]
  simp
theorem bel_drewN {B : Nat} {w w' : World} (h : Below B w w') (n : Nat) : Below B w (w'.drewN n) := ⟨h.os, h.tape, h.output, h.size, h.block⟩

set_option maxHeartbeats 1000000 in
theorem paired_any (s x1 x2 : ByteArray) (a1 z1 a2 z2 : Nat) (w : World) (hs : s.size ≤ 1073741824) (hz : z1 ≤ a2) (ha : a2 ≤ s.size) :
    Calls Tryz.prog 101 #[.string s, .agg #[.string x1, .int .i64 (a1 : Int), .int .i64 (z1 : Int)], .agg #[.string x2, .int .i64 (a2 : Int), .int .i64 (z2 : Int)]] w (SaysB (decide (((bl s).take a2).drop z1 = [61])) w) := by
  have HC := Lib.hid (bl_cut s z1 a2)
  go_enter Tryz.func101, Tryz.ntmps101
  go_wp2
  go_ret
  refine ⟨?_, ((Below.refl _ w).alloc (Nat.le_refl _) _).alloc (by simp) _⟩
  show Ending.returned (Value.bool ((s.extract z1 a2).toList == [61])) = _
  have e : ((s.extract z1 a2).toList == [61]) = decide (((bl s).take a2).drop z1 = [61]) := by
    rw [Lib.toList_data, Bool.eq_iff_iff, ← HC.out, beq_iff_eq, decide_eq_true_eq]
  rw [e]
end Go.Proofs.YtfapkpaohkdfpaaGreatDoor
