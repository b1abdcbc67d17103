/-
  The laws RingShards and RingGrows, by the contracts.
-/
import Derived.Test.YtfgcchpmdenfcaaDoorRingC
namespace Go.Proofs.YtfgcchpmdenfcaaDoor
open Go.RowKit Mem
set_option linter.unusedVariables false
set_option maxRecDepth 100000

theorem hash_ab : M.hash [97] ≠ M.hash [98] := by decide +kernel
set_option maxHeartbeats 1000000 in
theorem awake13_any (w : World) : Calls Tryd.prog 6 #[] w fun e w' => e = .returned (.bool true) ∧ w' = w := by
  have H1 := Lib.hid (shard_ok ⟨#[97]⟩ 1 (by omega) (by omega) w (by decide))
  have hz : M.shard (bl ⟨#[97]⟩) 1 = 0 := by
    have := M.shard_lt (bl ⟨#[97]⟩) 1 (by omega)
    omega
  rw [hz] at H1
  have H2 := Lib.hid (hash_any ⟨#[97]⟩ w (by decide))
  have H3 := Lib.hid (hash_any ⟨#[98]⟩ w (by decide))
  have hne : M.hash (bl ⟨#[97]⟩) ≠ M.hash (bl ⟨#[98]⟩) := hash_ab
  generalize M.hash (bl ⟨#[97]⟩) = x at *
  generalize M.hash (bl ⟨#[98]⟩) = y at *
  have hne2 : ((x : Int) != (y : Int)) = true := by simp; omega
  clear hz hne
  go_enter Tryd.func6, Tryd.ntmps6
  go_wp2_with fail
  refine H1.out.mono ?_
  rintro e w1 ⟨rfl, rfl⟩
  go_wp2_with fail
  refine H2.out.mono ?_
  rintro e w2 ⟨rfl, rfl⟩
  go_wp2_with fail
  refine H3.out.mono ?_
  rintro e w3 ⟨rfl, rfl⟩
  go_wp2
  go_ret
  exact ⟨rfl, rfl⟩

set_option maxHeartbeats 2000000 in
theorem ringShards_any (id : ByteArray) (n : Int) (w : World) (hs : id.size ≤ 140737488351232) : Calls Tryd.prog 3 #[.string id, .int .i64 n] w fun e w' => e = .returned (.bool true) ∧ Below w.heap.size w w' := by
  by_cases hn : n < 1 ∨ 8 < n
  · have HA := Lib.hid (awake13_any w)
    have HB := Lib.hid (shard_bad id n hn w)
    by_cases h1 : n < 1
    · clear hn
      go_enter Tryd.func3, Tryd.ntmps3
      go_wp2_with fail
      refine HA.out.mono ?_
      rintro e w1 ⟨rfl, rfl⟩
      go_wp2_with fail
      refine HB.out.mono ?_
      rintro e w2 ⟨rfl, rfl⟩
      go_wp2
      go_ret
      exact ⟨rfl, Below.refl _ _⟩
    · have h2 : 8 < n := by omega
      clear hn
      go_enter Tryd.func3, Tryd.ntmps3
      go_wp2_with fail
      refine HA.out.mono ?_
      rintro e w1 ⟨rfl, rfl⟩
      go_wp2_with fail
      refine HB.out.mono ?_
      rintro e w2 ⟨rfl, rfl⟩
      go_wp2
      go_ret
      exact ⟨rfl, Below.refl _ _⟩
  · obtain ⟨m, rfl⟩ := Int.eq_ofNat_of_zero_le (show 0 ≤ n by omega)
    have HA := Lib.hid (awake13_any w)
    have HB := Lib.hid (shard_ok id m (by omega) (by omega) w (by omega))
    have HR := Lib.hid (ref_shard_ok id m (by omega) (by omega) w (by omega))
    have HH := Lib.hid (fun w' => hash_any id w' (by omega))
    have HH2 := Lib.hid (fun w' => ref_hash_any id w' (by omega))
    have h1 : ¬ (m : Int) < 1 := by omega
    have h2 : ¬ 8 < (m : Int) := by omega
    generalize M.shard (bl id) m = x at *
    generalize M.hash (bl id) = y at *
    clear hn
    go_enter Tryd.func3, Tryd.ntmps3
    go_wp2_with fail
    refine HA.out.mono ?_
    rintro e w1 ⟨rfl, rfl⟩
    go_wp2_with fail
    refine HB.out.mono ?_
    rintro e w2 ⟨rfl, rfl⟩
    go_wp2_with fail
    refine HR.out.mono ?_
    rintro e w3 ⟨rfl, hb⟩
    go_wp2_with fail
    refine (HH.out w3).mono ?_
    rintro e w4 ⟨rfl, rfl⟩
    go_wp2_with fail
    refine (HH2.out w4).mono ?_
    rintro e w5 ⟨rfl, rfl⟩
    go_wp2
    go_ret
    exact ⟨rfl, hb⟩

set_option maxHeartbeats 2000000 in
theorem ringGrows_any (id : ByteArray) (s : Nat) (hs8 : s < 256) (w : World) (hs : id.size ≤ 140737488351232) : Calls Tryd.prog 4 #[.string id, .int .u8 (s : Int)] w fun e w' => e = .returned (.bool true) ∧ Below w.heap.size w w' := by
  obtain ⟨m, hm⟩ : ∃ m, m = 1 + s % 7 := ⟨_, rfl⟩
  have hmi : (1 + (s : Int) % 7) = (m : Int) := by omega
  have HA := Lib.hid (awake13_any w)
  have HB := Lib.hid (shard_ok id m (by omega) (by omega) w (by omega))
  have HC := Lib.hid (shard_ok id (m + 1) (by omega) (by omega) w (by omega))
  have hg := M.grows (bl id) m
  have hmi2 : ((m : Int) + 1) = ((m + 1 : Nat) : Int) := by omega
  generalize M.shard (bl id) m = x at *
  generalize M.shard (bl id) (m + 1) = y at *
  rw [← hmi2] at HC
  have hm8 : m ≤ 7 := by omega
  have HM := Lib.hid hmi
  clear hm hmi2 hmi
  go_enter Tryd.func4, Tryd.ntmps4
  go_wp2_with fail
  refine HA.out.mono ?_
  rintro e w1 ⟨rfl, rfl⟩
  have hmi := HM.out
  go_wp2_with fail
  clear hmi
  refine HB.out.mono ?_
  rintro e w2 ⟨rfl, rfl⟩
  go_wp2_with fail
  refine HC.out.mono ?_
  rintro e w3 ⟨rfl, rfl⟩
  by_cases hxy : x = y
  · subst hxy
    go_wp2
    go_ret
    exact ⟨rfl, Below.refl _ _⟩
  · obtain rfl : y = m := hg.resolve_left hxy
    clear hg
    go_wp2
    go_ret
    exact ⟨rfl, Below.refl _ _⟩
end Go.Proofs.YtfgcchpmdenfcaaDoor
