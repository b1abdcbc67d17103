/-
  What the document's trim and length do, by contracts.
-/
import Derived.Test.YtdbinhbmhkbfeaaGreatDoorHttpB
import Derived.Test.YtdbinhbmhkbfeaaGreatDoorHttpMb
namespace Go.Proofs.YtdbinhbmhkbfeaaGreatDoor
open Go.RowKit Mem
set_option linter.unusedVariables false
set_option maxRecDepth 100000

def szv : Value → Nat | .string s => s.size | _ => 0
theorem str_cons {t : ByteArray} (h : 0 < t.size) : bl t = t[0] :: bl (t.extract 1 t.size) := by
  have hl : 0 < (bl t).length := by rw [bl_len]; exact h
  rw [bl_from, ← List.drop_zero (l := bl t), List.drop_eq_getElem_cons hl]
  rfl
theorem str_snoc {t : ByteArray} (h : 0 < t.size) : bl t = bl (t.extract 0 (t.size - 1)) ++ [t[t.size - 1]] := by
  have hl : t.size - 1 < (bl t).length := by rw [bl_len]; omega
  rw [bl_cut, List.drop_zero]
  have := List.take_succ_eq_append_getElem hl
  rw [show t.size - 1 + 1 = (bl t).length by rw [bl_len]; omega, List.take_length] at this
  rw [← bl_get]
  exact this
def blankB (x : Nat) : Prop := x = 32 ∨ x = 9
instance (x : Nat) : Decidable (blankB x) := by unfold blankB; infer_instance
theorem blank_mem {b : UInt8} : ([32, 9] : List UInt8).contains b = decide (blankB b.toNat) := by
  rw [Bool.eq_iff_iff, decide_eq_true_eq]
  unfold blankB
  simp only [List.contains_cons, List.contains_nil, Bool.or_false, Bool.or_eq_true, beq_iff_eq]
  constructor
  · rintro (h | h) <;> subst h <;> decide
  · rintro (h | h)
    · exact .inl (UInt8.toNat_inj.1 h)
    · exact .inr (UInt8.toNat_inj.1 h)
theorem trimL_step {t : ByteArray} (h : 0 < t.size) (hc : blankB (t[0]).toNat) : Lib.trimLeftS (bl (t.extract 1 t.size)) [32, 9] = Lib.trimLeftS (bl t) [32, 9] := by
  rw [str_cons h]
  conv => rhs; unfold Lib.trimLeftS
  rw [List.dropWhile_cons, if_pos (by rw [blank_mem]; exact decide_eq_true hc)]
  rfl
theorem trimL_stop {t : ByteArray} (h : 0 < t.size) (hc : ¬ blankB (t[0]).toNat) : Lib.trimLeftS (bl t) [32, 9] = bl t := by
  rw [str_cons h]
  unfold Lib.trimLeftS
  rw [List.dropWhile_cons, if_neg (by rw [blank_mem]; simpa using hc)]
theorem trimR_step {t : ByteArray} (h : 0 < t.size) (hc : blankB (t[t.size - 1]).toNat) : Lib.trimRightS (bl (t.extract 0 (t.size - 1))) [32, 9] = Lib.trimRightS (bl t) [32, 9] := by
  conv => rhs; rw [str_snoc h]
  unfold Lib.trimRightS
  rw [List.reverse_append, List.reverse_singleton, List.singleton_append, List.dropWhile_cons, if_pos (by rw [blank_mem]; exact decide_eq_true hc)]
theorem trimR_stop {t : ByteArray} (h : 0 < t.size) (hc : ¬ blankB (t[t.size - 1]).toNat) : Lib.trimRightS (bl t) [32, 9] = bl t := by
  rw [str_snoc h]
  unfold Lib.trimRightS
  rw [List.reverse_append, List.reverse_singleton, List.singleton_append, List.dropWhile_cons, if_neg (by rw [blank_mem]; simpa using hc)]
  simp
theorem size_cut (t : ByteArray) (a b : Nat) : (t.extract a b).size = min b t.size - a := by simp

end Go.Proofs.YtdbinhbmhkbfeaaGreatDoor
