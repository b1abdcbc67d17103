/-
  What ring.Hash and the document's Hash do, by contracts: both answer 'M.hash' of the text's bytes, and nothing turns.
-/
import Derived.Test.YtfgcchpmdenfcaaDoorRows
import Derived.Test.YtfgcchpmdenfcaaDoorRingMath
import Derived.Test.YtfgcchpmdenfcaaDoorMemW
import Derived.Test.YtfgcchpmdenfcaaDoorTurn
import Derived.Lib.Hide
import Derived.Deep.DeepMust
import Derived.BigQuiet
import Derived.Deep.QuietTactic
namespace Go.Proofs.YtfgcchpmdenfcaaDoor
open Go.RowKit Mem
set_option linter.unusedVariables false
set_option maxRecDepth 100000

abbrev bl (s : ByteArray) : List UInt8 := s.data.toList
theorem bl_len (s : ByteArray) : (bl s).length = s.size := by simp
theorem bl_get (s : ByteArray) (i : Nat) (h : i < s.size) : (bl s)[i]'(by simpa using h) = s[i] := rfl
theorem bel_drewN {B : Nat} {w w' : World} (h : Below B w w') (n : Nat) : Below B w (w'.drewN n) := ⟨h.os, h.tape, h.output, h.size, h.block⟩

theorem hrun_take {l : List UInt8} {j : Nat} (h : j < l.length) : M.hrun (l.take (j + 1)) = M.hstep (M.hrun (l.take j)) l[j].toNat := by
  rw [List.take_succ_eq_append_getElem h, M.hrun_snoc]
theorem step_form (r x : Nat) (hr : r < 18446744073709551616) (hx : x < 256) :
    IntKind.u64.wrap (bits .xor .u64 (r : Int) (x : Int) * 1099511628211) = ((M.hstep r x : Nat) : Int) := by
  rw [u64_xor_nat _ _ hr (by omega)]
  unfold M.hstep
  generalize r ^^^ x = y
  simp [IntKind.wrap, IntKind.signed, IntKind.bits]
theorem mix_form (r : Nat) (hr : r < 18446744073709551616) :
    IntKind.u64.wrap (bits .xor .u64 (r : Int) ((r : Int) / 4294967296) * 11400714819323198485) = ((M.hmix r : Nat) : Int) := by
  rw [show (r : Int) / 4294967296 = ((r / 4294967296 : Nat) : Int) from by omega, u64_xor_nat _ _ hr (by omega)]
  unfold M.hmix
  generalize r ^^^ (r / 4294967296) = y
  simp [IntKind.wrap, IntKind.signed, IntKind.bits]
theorem fin_form (r : Nat) (hr : r < 18446744073709551616) :
    bits .xor .u64 (IntKind.u64.wrap (bits .xor .u64 (r : Int) ((r : Int) / 4294967296) * 11400714819323198485)) (IntKind.u64.wrap (bits .xor .u64 (r : Int) ((r : Int) / 4294967296) * 11400714819323198485) / 536870912) = ((M.hfin (M.hmix r) : Nat) : Int) := by
  rw [mix_form r hr]
  have := M.hmix_lt r
  generalize M.hmix r = y at *
  rw [show (y : Int) / 536870912 = ((y / 536870912 : Nat) : Int) from by omega, u64_xor_nat _ _ this (by omega)]
  rfl

set_option maxHeartbeats 1000000 in
theorem hash_any (s : ByteArray) (w : World) (hs : s.size ≤ 9223372036854775806) : Calls Tryd.prog 9 #[.string s] w fun e w' => e = .returned (.int .u64 (M.hash (bl s) : Nat)) ∧ w' = w := by
  have hln : (bl s).length = s.size := bl_len s
  go_enter Tryd.func9, Tryd.ntmps9
  go_wp2
  go_loopw [3, 7] (fun h p wr => ∃ i r : Nat, p = .int .i64 (i : Int) ∧ h = .int .u64 (r : Int) ∧ i ≤ s.size ∧ r < 18446744073709551616 ∧ Hid (r = M.hrun ((bl s).take i)) ∧ wr = w) (fun _ p _ => s.size - (intOf p).toNat)
  case atStart => exact ⟨0, M.hbegin, rfl, rfl, Nat.zero_le _, by unfold M.hbegin; omega, Lib.hid rfl, rfl⟩
  case round =>
    obtain ⟨i, r, rfl, rfl, hi, hr, HR, rfl⟩ := hrel
    by_cases hlt : i < s.size
    · have HN := Lib.hid (show M.hstep r (s[i]).toNat = M.hrun ((bl s).take (i + 1)) by rw [hrun_take (by rw [hln]; exact hlt), HR.out, bl_get _ _ hlt])
      have hx : (s[i]).toNat < 256 := UInt8.toNat_lt _
      go_wp2
      go_roundw
      case rel => exact ⟨i + 1, M.hstep r (s[i]).toNat, by go_num, by rw [← step_form r _ hr hx], by omega, M.hstep_lt _ _, HN, trivial⟩
      case measure => simp [intOf]; omega
    · have HE := Lib.hid (show M.hash (bl s) = M.hfin (M.hmix r) by rw [HR.out, List.take_of_length_le (by omega)]; rfl)
      go_wp2
      go_ret
      exact ⟨by rw [HE.out, ← fin_form r hr]; rfl, rfl⟩

set_option maxHeartbeats 1000000 in
theorem ref_hash_any (s : ByteArray) (w : World) (hs : s.size ≤ 9223372036854775806) : Calls Tryd.prog 10 #[.string s] w fun e w' => e = .returned (.int .u64 (M.hash (bl s) : Nat)) ∧ w' = w := by
  have hln : (bl s).length = s.size := bl_len s
  go_enter Tryd.func10, Tryd.ntmps10
  go_wp2
  go_loopw [3, 4] (fun h p wr => ∃ i r : Nat, p = .int .i64 (i : Int) ∧ h = .int .u64 (r : Int) ∧ i ≤ s.size ∧ r < 18446744073709551616 ∧ Hid (r = M.hrun ((bl s).take i)) ∧ wr = w) (fun _ p _ => s.size - (intOf p).toNat)
  case atStart => exact ⟨0, M.hbegin, rfl, rfl, Nat.zero_le _, by unfold M.hbegin; omega, Lib.hid rfl, rfl⟩
  case round =>
    obtain ⟨i, r, rfl, rfl, hi, hr, HR, rfl⟩ := hrel
    by_cases hlt : i < s.size
    · have HN := Lib.hid (show M.hstep r (s[i]).toNat = M.hrun ((bl s).take (i + 1)) by rw [hrun_take (by rw [hln]; exact hlt), HR.out, bl_get _ _ hlt])
      have hx : (s[i]).toNat < 256 := UInt8.toNat_lt _
      go_wp2
      go_roundw
      case rel => exact ⟨i + 1, M.hstep r (s[i]).toNat, by go_num, by rw [← step_form r _ hr hx], by omega, M.hstep_lt _ _, HN, trivial⟩
      case measure => simp [intOf]; omega
    · have HE := Lib.hid (show M.hash (bl s) = M.hfin (M.hmix r) by rw [HR.out, List.take_of_length_le (by omega)]; rfl)
      go_wp2
      go_ret
      exact ⟨by rw [HE.out, ← fin_form r hr]; rfl, rfl⟩
end Go.Proofs.YtfgcchpmdenfcaaDoor
