/-
  What the document's length and first do, by contracts.
-/
import Derived.Test.YtpmcjkhhjkahjaaDoorHttpI
namespace Go.Proofs.YtpmcjkhhjkahjaaDoor
open Go.RowKit Mem
set_option linter.unusedVariables false
set_option maxRecDepth 100000

def lz : Option Nat → Int | some n => (n : Int) | none => -1
theorem digB_iff (c : UInt8) : M.digB c = true ↔ 48 ≤ c.toNat ∧ c.toNat ≤ 57 := by unfold M.digB; simp
theorem len9_of {l : List UInt8} (h : l.length ≤ 9) : M.len9 l = if M.canon l = true then some (M.dval l) else none := by
  unfold M.len9
  rw [if_pos h, M.num_canon (by omega)]
theorem len9_no {l : List UInt8} (h : M.canon l = false ∨ 9 < l.length) : lz (M.len9 l) = -1 := by
  by_cases h9 : l.length ≤ 9
  · rcases h with h | h
    · rw [len9_of h9, if_neg (by rw [h]; simp)]; rfl
    · omega
  · unfold M.len9; rw [if_neg h9]; rfl
theorem dval_take {l : List UInt8} {i : Nat} (h : i < l.length) : M.dval (l.take (i + 1)) = 10 * M.dval (l.take i) + (l[i].toNat - 48) := by
  rw [List.take_succ_eq_append_getElem h, M.dval_snoc]
theorem dval_bound {l : List UInt8} {i : Nat} (h : PreAll M.digB l i) (hi : i ≤ 9) : M.dval (l.take i) < 1000000000 := by
  have h1 := M.dval_lt _ h
  have h2 : (10 : Nat) ^ (l.take i).length ≤ 10 ^ 9 := Nat.pow_le_pow_right (by omega) (by simp; omega)
  omega

end Go.Proofs.YtpmcjkhhjkahjaaDoor
