/-
  What Zig and Zag do, the program's and the document's, by contracts; and the sums.
-/
import Derived.Test.YtjdkpcibdjhdoaaDoorPackC
namespace Go.Proofs.YtjdkpcibdjhdoaaDoor
open Go.RowKit Mem

theorem ret_int {k : IntKind} {a b : Int} (h : a = b) : Ending.returned (.int k a) = .returned (.int k b) := by rw [h]
theorem xor_ones (a : Nat) (h : a < 18446744073709551616) : a ^^^ 18446744073709551615 = 18446744073709551615 - a := by
  have h1 : (BitVec.ofNat 64 a ^^^ BitVec.allOnes 64).toNat = 2 ^ 64 - 1 - a := by
    rw [BitVec.xor_allOnes, BitVec.toNat_not, BitVec.toNat_ofNat, Nat.mod_eq_of_lt h]
  rw [BitVec.toNat_xor, BitVec.toNat_ofNat, Nat.mod_eq_of_lt h, BitVec.toNat_allOnes] at h1
  simpa using h1
theorem zig_form (v : Int) (h1 : -9223372036854775808 ≤ v) (h2 : v ≤ 9223372036854775807) :
    bits .xor .u64 (IntKind.u64.wrap (IntKind.u64.wrap v * 2)) (IntKind.u64.wrap (v / 9223372036854775808)) = M.zig v := by
  simp only [IntKind.wrap_u64]
  unfold M.zig
  by_cases h : 0 ≤ v
  · have e1 : v / 9223372036854775808 % 18446744073709551616 = ((0 : Nat) : Int) := by omega
    have e2 : v % 18446744073709551616 * 2 % 18446744073709551616 = ((2 * v.toNat : Nat) : Int) := by omega
    rw [if_pos h, e1, e2, u64_xor_nat _ _ (by omega) (by omega), Nat.xor_zero]; omega
  · have e1 : v / 9223372036854775808 % 18446744073709551616 = ((18446744073709551615 : Nat) : Int) := by omega
    have e2 : v % 18446744073709551616 * 2 % 18446744073709551616 = ((2 * v + 18446744073709551616).toNat : Int) := by omega
    rw [if_neg h, e1, e2, u64_xor_nat _ _ (by omega) (by omega), xor_ones _ (by omega)]; omega
theorem zag_form (v : Int) (h1 : 0 ≤ v) (h2 : v < 18446744073709551616) :
    bits .xor .i64 (v / 2) (wrap64 (-wrap64 (bits .and .u64 v 1))) = M.zag v := by
  have e0 : bits .and .u64 v 1 = v % 2 := by
    have e : v = ((v.toNat : Nat) : Int) := by omega
    rw [e, show (1 : Int) = ((1 : Nat) : Int) from rfl, u64_and_nat _ _ (by omega) (by omega), nat_mask1]; omega
  rw [e0]
  unfold M.zag
  have hd : v / 2 = (((v / 2).toNat : Nat) : Int) := by omega
  by_cases h : v % 2 = 0
  · have e1 : wrap64 (-wrap64 (v % 2)) = ((0 : Nat) : Int) := by rw [h]; simp only [wrap64]; decide
    rw [if_pos h, e1, hd]
    show IntKind.i64.wrap ((BitVec.ofInt 64 (((v / 2).toNat : Nat) : Int) ^^^ BitVec.ofInt 64 ((0 : Nat) : Int)).toNat : Int) = _
    rw [BitVec.toNat_xor, ofInt_u64 _ (by omega), ofInt_u64 _ (by omega), Nat.xor_zero, IntKind.wrap_i64]; omega
  · have h' : v % 2 = 1 := by omega
    have e1 : wrap64 (-wrap64 (v % 2)) = -1 := by rw [h']; simp only [wrap64]; decide
    have e2 : (BitVec.ofInt 64 (-1)).toNat = 18446744073709551615 := by decide
    rw [if_neg h, e1, hd]
    show IntKind.i64.wrap ((BitVec.ofInt 64 (((v / 2).toNat : Nat) : Int) ^^^ BitVec.ofInt 64 (-1)).toNat : Int) = _
    rw [BitVec.toNat_xor, ofInt_u64 _ (by omega), e2, xor_ones _ (by omega), IntKind.wrap_i64]; omega

set_option maxRecDepth 100000 in
set_option maxHeartbeats 400000 in
theorem zig_any (v : Int) (w : World) (h1 : -9223372036854775808 ≤ v) (h2 : v ≤ 9223372036854775807) :
    Calls Tryd.prog 48 #[.int .i64 v] w fun e w' => e = .returned (.int .u64 (M.zig v)) ∧ w = w' := by
  go_enter Tryd.func48, Tryd.ntmps48
  go_wp2
  go_ret
  exact ⟨ret_int (zig_form v h1 h2), rfl⟩
set_option maxRecDepth 100000 in
set_option maxHeartbeats 400000 in
theorem zag_any (v : Int) (w : World) (h1 : 0 ≤ v) (h2 : v < 18446744073709551616) :
    Calls Tryd.prog 51 #[.int .u64 v] w fun e w' => e = .returned (.int .i64 (M.zag v)) ∧ w = w' := by
  go_enter Tryd.func51, Tryd.ntmps51
  go_wp2
  go_ret
  exact ⟨ret_int (zag_form v h1 h2), rfl⟩
set_option maxRecDepth 100000 in
set_option maxHeartbeats 400000 in
theorem ref_zig_any (v : Int) (w : World) (h1 : -9223372036854775808 ≤ v) (h2 : v ≤ 9223372036854775807) :
    Calls Tryd.prog 26 #[.int .i64 v] w fun e w' => e = .returned (.int .u64 (M.zig v)) ∧ w = w' := by
  by_cases h : 0 ≤ v
  · go_enter Tryd.func26, Tryd.ntmps26
    go_wp2
    go_ret
    exact ⟨ret_int (by unfold M.zig; rw [if_pos h]), rfl⟩
  · go_enter Tryd.func26, Tryd.ntmps26
    go_wp2
    go_ret
    exact ⟨ret_int (by unfold M.zig; rw [if_neg (by omega)]; omega), rfl⟩
set_option maxRecDepth 100000 in
set_option maxHeartbeats 400000 in
theorem ref_zag_any (v : Int) (w : World) (h1 : 0 ≤ v) (h2 : v < 18446744073709551616) :
    Calls Tryd.prog 29 #[.int .u64 v] w fun e w' => e = .returned (.int .i64 (M.zag v)) ∧ w = w' := by
  go_enter Tryd.func29, Tryd.ntmps29
  go_wp2
  · have hq : (v % 2 == 0) = true := by assumption
    go_ret
    exact ⟨ret_int (by unfold M.zag; rw [if_pos (by simpa using hq)]), rfl⟩
  · have hq : (v % 2 == 0) = false := by assumption
    go_ret
    exact ⟨ret_int (by unfold M.zag; rw [if_neg (by simpa using hq)]), rfl⟩
end Go.Proofs.YtjdkpcibdjhdoaaDoor
