/-
  Sorting a list of one entry (slices.SortStableFunc, slices.SortFunc), and the index's methods at nil, by contracts.
-/
import Derived.Test.YtfapkpaohkdfpaaGreatDoorMatchN
import Derived.Test.YtfapkpaohkdfpaaGreatDoorMatchArg
namespace Go.Proofs.YtfapkpaohkdfpaaGreatDoor
open Go.RowKit Mem
set_option linter.unusedVariables false
set_option maxRecDepth 100000

theorem ins1_any (v f : Value) (w : World) : Calls Tryz.prog 84 #[v, .int .i64 0, .int .i64 1, f] w (fun e w' => e = .returned (.tuple #[]) ∧ w' = w) := by
  go_enter Tryz.func84, Tryz.ntmps84
  go_wp2
  go_loopw [8] (fun p wr => p = .int .i64 1 ∧ Hid (wr = w)) (fun _ _ => 0)
  case atStart => exact ⟨rfl, Lib.hid rfl⟩
  case round =>
    obtain ⟨rfl, HE⟩ := hrel
    have he := HE.out
    subst he
    go_wp2
    refine bodyPost_end (results_none rfl _ _ _) rfl ?_
    exact ⟨rfl, rfl⟩
theorem stable1_any (v f : Value) (w : World) : Calls Tryz.prog 83 #[v, .int .i64 1, f] w (fun e w' => e = .returned (.tuple #[]) ∧ w' = w) := by
  have HI := Lib.hid (fun W => ins1_any v f W)
  go_enter Tryz.func83, Tryz.ntmps83
  go_wp2
  go_loopw [7, 8] (fun q p wr => q = .int .i64 0 ∧ p = .int .i64 20 ∧ Hid (wr = w)) (fun _ _ _ => 0)
  case atStart => exact ⟨rfl, rfl, Lib.hid rfl⟩
  case round =>
    obtain ⟨rfl, rfl, HE⟩ := hrel
    have he := HE.out
    subst he
    go_wp2_with fail
    refine (HI.out _).mono ?_
    rintro e w1 ⟨rfl, hx⟩
    subst hx
    go_wp2
    go_loopw [6] (fun p wr => p = .int .i64 20 ∧ Hid (wr = w1)) (fun _ _ => 0)
    case atStart => exact ⟨rfl, Lib.hid rfl⟩
    case round =>
      obtain ⟨rfl, HE2⟩ := hrel
      have he := HE2.out
      subst he
      go_wp2
      refine bodyPost_end (results_none rfl _ _ _) rfl ?_
      exact ⟨rfl, rfl⟩
theorem sortStable1_any (A : Option Addr) (c : Nat) (hc : 1 ≤ c) (hm : c ≤ 9223372036854775807) (f : Value) (w : World) : Calls Tryz.prog 59 #[.slice A 1 c, f] w (fun e w' => e = .returned (.tuple #[]) ∧ w' = w) := by
  have HI := Lib.hid (fun W => stable1_any (.slice A 1 c) f W)
  go_enter Tryz.func59, Tryz.ntmps59
  go_wp2_with fail
  refine (HI.out _).mono ?_
  rintro e w1 ⟨rfl, hx⟩
  subst hx
  go_wp2
  refine bodyPost_end (results_none rfl _ _ _) rfl ?_
  exact ⟨rfl, rfl⟩
theorem len64_1 (w : World) : Calls Tryz.prog 93 #[.int .u64 1] w (fun e w' => ∃ k : Int, e = .returned (.int .i64 k) ∧ w' = w) := by
  go_enter Tryz.func93, Tryz.ntmps93
  go_wp2
  go_ret
  exact ⟨_, rfl, rfl⟩
theorem len_1 (w : World) : Calls Tryz.prog 61 #[.int .u64 1] w (fun e w' => ∃ k : Int, e = .returned (.int .i64 k) ∧ w' = w) := by
  have HI := Lib.hid (fun W => len64_1 W)
  go_enter Tryz.func61, Tryz.ntmps61
  go_wp2_with fail
  refine (HI.out _).mono ?_
  rintro e w1 ⟨k, rfl, hx⟩
  subst hx
  go_wp2
  go_ret
  exact ⟨_, rfl, rfl⟩
set_option maxHeartbeats 2000000 in
theorem pdq1_any (v f : Value) (k : Int) (w : World) : Calls Tryz.prog 60 #[v, .int .i64 0, .int .i64 1, .int .i64 k, f] w (fun e w' => e = .returned (.tuple #[]) ∧ w' = w) := by
  have HI := Lib.hid (fun W => ins1_any v f W)
  go_enter Tryz.func60, Tryz.ntmps60
  go_wp2
  go_loopw [1, 2] (fun a b wr => a = .int .i64 0 ∧ b = .int .i64 1 ∧ Hid (wr = w)) (fun _ _ _ => 0)
  case atStart => exact ⟨rfl, rfl, Lib.hid rfl⟩
  case round =>
    obtain ⟨rfl, rfl, HE⟩ := hrel
    have he := HE.out
    subst he
    go_wp2_with fail
    refine (HI.out _).mono ?_
    rintro e w1 ⟨rfl, hx⟩
    subst hx
    go_wp2
    refine bodyPost_ret (results_none rfl _ _ _) rfl ?_
    exact ⟨rfl, rfl⟩
theorem sort1_any (A : Option Addr) (c : Nat) (hc : 1 ≤ c) (hm : c ≤ 9223372036854775807) (f : Value) (w : World) : Calls Tryz.prog 43 #[.slice A 1 c, f] w (fun e w' => e = .returned (.tuple #[]) ∧ w' = w) := by
  have HL := Lib.hid (fun W => len_1 W)
  have HI := Lib.hid (fun k W => pdq1_any (.slice A 1 c) f k W)
  go_enter Tryz.func43, Tryz.ntmps43
  go_wp2_with fail
  refine (HL.out _).mono ?_
  rintro e w1 ⟨k, rfl, hx⟩
  subst hx
  go_wp2_with fail
  refine (HI.out _ _).mono ?_
  rintro e w2 ⟨rfl, hx⟩
  subst hx
  go_wp2
  refine bodyPost_end (results_none rfl _ _ _) rfl ?_
  exact ⟨rfl, rfl⟩
end Go.Proofs.YtfapkpaohkdfpaaGreatDoor
