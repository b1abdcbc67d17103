/-
  What the document's words says of a status.
-/
import Derived.Test.YtdbinhbmhkbfeaaGreatDoorHttpAo
import Derived.Test.YtdbinhbmhkbfeaaGreatDoorHttpJ
namespace Go.Proofs.YtdbinhbmhkbfeaaGreatDoor
open Go.RowKit Mem Go.Sort
set_option linter.unusedVariables false
set_option maxRecDepth 100000

def M.codes : List Nat := [200, 201, 400, 404, 405, 409, 410, 413, 431, 503, 504, 507]
def M.wl : List (List UInt8) := [[79, 75], [67, 114, 101, 97, 116, 101, 100], [66, 97, 100, 32, 82, 101, 113, 117, 101, 115, 116], [78, 111, 116, 32, 70, 111, 117, 110, 100], [77, 101, 116, 104, 111, 100, 32, 78, 111, 116, 32, 65, 108, 108, 111, 119, 101, 100], [67, 111, 110, 102, 108, 105, 99, 116], [71, 111, 110, 101], [67, 111, 110, 116, 101, 110, 116, 32, 84, 111, 111, 32, 76, 97, 114, 103, 101], [82, 101, 113, 117, 101, 115, 116, 32, 72, 101, 97, 100, 101, 114, 32, 70, 105, 101, 108, 100, 115, 32, 84, 111, 111, 32, 76, 97, 114, 103, 101], [83, 101, 114, 118, 105, 99, 101, 32, 85, 110, 97, 118, 97, 105, 108, 97, 98, 108, 101], [71, 97, 116, 101, 119, 97, 121, 32, 84, 105, 109, 101, 111, 117, 116], [73, 110, 115, 117, 102, 102, 105, 99, 105, 101, 110, 116, 32, 83, 116, 111, 114, 97, 103, 101]]
def wordsW (w : World) : World := (w.alloc (.cells #[.int .i64 200, .int .i64 201, .int .i64 400, .int .i64 404, .int .i64 405, .int .i64 409, .int .i64 410, .int .i64 413, .int .i64 431, .int .i64 503, .int .i64 504, .int .i64 507] 3)).alloc (.cells #[.string ⟨#[79, 75]⟩, .string ⟨#[67, 114, 101, 97, 116, 101, 100]⟩, .string ⟨#[66, 97, 100, 32, 82, 101, 113, 117, 101, 115, 116]⟩, .string ⟨#[78, 111, 116, 32, 70, 111, 117, 110, 100]⟩, .string ⟨#[77, 101, 116, 104, 111, 100, 32, 78, 111, 116, 32, 65, 108, 108, 111, 119, 101, 100]⟩, .string ⟨#[67, 111, 110, 102, 108, 105, 99, 116]⟩, .string ⟨#[71, 111, 110, 101]⟩, .string ⟨#[67, 111, 110, 116, 101, 110, 116, 32, 84, 111, 111, 32, 76, 97, 114, 103, 101]⟩, .string ⟨#[82, 101, 113, 117, 101, 115, 116, 32, 72, 101, 97, 100, 101, 114, 32, 70, 105, 101, 108, 100, 115, 32, 84, 111, 111, 32, 76, 97, 114, 103, 101]⟩, .string ⟨#[83, 101, 114, 118, 105, 99, 101, 32, 85, 110, 97, 118, 97, 105, 108, 97, 98, 108, 101]⟩, .string ⟨#[71, 97, 116, 101, 119, 97, 121, 32, 84, 105, 109, 101, 111, 117, 116]⟩, .string ⟨#[73, 110, 115, 117, 102, 102, 105, 99, 105, 101, 110, 116, 32, 83, 116, 111, 114, 97, 103, 101]⟩] 9)
theorem wordsW_one (w : World) (k : Nat) (hk : k < 12) : (wordsW w).cell? ⟨w.heap.size, k, none⟩ = some (.int .i64 ((M.codes.getD k 0 : Nat) : Int)) := by
  unfold wordsW
  rw [World.cell?_alloc2_first]
  have h : k = 0 ∨ k = 1 ∨ k = 2 ∨ k = 3 ∨ k = 4 ∨ k = 5 ∨ k = 6 ∨ k = 7 ∨ k = 8 ∨ k = 9 ∨ k = 10 ∨ k = 11 := by omega
  rcases h with rfl | rfl | rfl | rfl | rfl | rfl | rfl | rfl | rfl | rfl | rfl | rfl <;> rfl
theorem wordsW_two (w : World) (k : Nat) (hk : k < 12) : (wordsW w).cell? ⟨w.heap.size + 1, k, none⟩ = some (.string ⟨(M.wl.getD k []).toArray⟩) := by
  unfold wordsW
  rw [World.cell?_alloc2_new]
  have h : k = 0 ∨ k = 1 ∨ k = 2 ∨ k = 3 ∨ k = 4 ∨ k = 5 ∨ k = 6 ∨ k = 7 ∨ k = 8 ∨ k = 9 ∨ k = 10 ∨ k = 11 := by omega
  rcases h with rfl | rfl | rfl | rfl | rfl | rfl | rfl | rfl | rfl | rfl | rfl | rfl <;> rfl
theorem wordsW_below (w : World) : Below w.heap.size w (wordsW w) := (Below.refl _ _).alloc (Nat.le_refl _) _ |>.alloc (by simp) _
theorem M.word_at (k : Nat) (hk : k < 12) : wordsOf (codes.getD k 0) = wl.getD k [] := by
  have h : k = 0 ∨ k = 1 ∨ k = 2 ∨ k = 3 ∨ k = 4 ∨ k = 5 ∨ k = 6 ∨ k = 7 ∨ k = 8 ∨ k = 9 ∨ k = 10 ∨ k = 11 := by omega
  rcases h with rfl | rfl | rfl | rfl | rfl | rfl | rfl | rfl | rfl | rfl | rfl | rfl <;> rfl
theorem M.word_none {s : Nat} (h : ∀ j, j < 12 → codes.getD j 0 ≠ s) : wordsOf s = [85, 110, 107, 110, 111, 119, 110] := by
  have h0 : s ≠ 200 := fun e => h 0 (by omega) e.symm
  have h1 : s ≠ 201 := fun e => h 1 (by omega) e.symm
  have h2 : s ≠ 400 := fun e => h 2 (by omega) e.symm
  have h3 : s ≠ 404 := fun e => h 3 (by omega) e.symm
  have h4 : s ≠ 405 := fun e => h 4 (by omega) e.symm
  have h5 : s ≠ 409 := fun e => h 5 (by omega) e.symm
  have h6 : s ≠ 410 := fun e => h 6 (by omega) e.symm
  have h7 : s ≠ 413 := fun e => h 7 (by omega) e.symm
  have h8 : s ≠ 431 := fun e => h 8 (by omega) e.symm
  have h9 : s ≠ 503 := fun e => h 9 (by omega) e.symm
  have h10 : s ≠ 504 := fun e => h 10 (by omega) e.symm
  have h11 : s ≠ 507 := fun e => h 11 (by omega) e.symm
  unfold wordsOf
  rw [if_neg h0, if_neg h1, if_neg h2, if_neg h3, if_neg h4, if_neg h5, if_neg h6, if_neg h7, if_neg h8, if_neg h9, if_neg h10, if_neg h11]

set_option maxHeartbeats 4000000 in
theorem words_any (s : Nat) (hs : s < 1000) (w : World) : Calls Tryz.prog 15 #[.int .i64 (s : Int)] w (SaysT (M.wordsOf s) w) := by
  go_enter Tryz.func15, Tryz.ntmps15
  go_upto_region 3 with (fail)
  have HC := Lib.hid (wordsW_one w)
  have HL := Lib.hid (wordsW_two w)
  have HB := Lib.hid (wordsW_below w)
  change Code.wp _ _ _ _ (wordsW w)
  generalize wordsW w = W2 at *
  go_wp2_with fail
  go_loopw [5] (fun p w2 => ∃ k : Nat, p = .int .i64 (k : Int) ∧ k ≤ 12 ∧ Hid (∀ j, j < k → M.codes.getD j 0 ≠ s) ∧ w2 = W2) (fun p _ => 12 - (intOf p).toNat)
  case atStart => exact ⟨0, rfl, by omega, Lib.hid (fun j hj => absurd hj (by omega)), rfl⟩
  case round =>
    obtain ⟨k, rfl, hk, HK, rfl⟩ := hrel
    by_cases hlt : k < 12
    · have hc1 := HC.out k hlt
      have hc2 := HL.out k hlt
      obtain ⟨C, hC⟩ : ∃ C, C = M.codes.getD k 0 := ⟨_, rfl⟩
      rw [← hC] at hc1
      by_cases he : C = s
      · have HW := Lib.hid (show M.wordsOf s = M.wl.getD k [] by rw [← he, hC]; exact M.word_at k hlt)
        subst he
        clear hC
        generalize M.wl.getD k [] = Z at *
        go_wp2
        go_ret
        exact ⟨by rw [HW.out]; rfl, HB.out⟩
      · have hne : ¬ (C : Int) = (s : Int) := by omega
        have HK2 := Lib.hid (show ∀ j, j < k + 1 → M.codes.getD j 0 ≠ s from fun j hj => by
          rcases Nat.lt_succ_iff_lt_or_eq.1 hj with h | rfl
          · exact HK.out j h
          · rw [← hC]; exact he)
        clear hC he hc2
        go_wp2
        go_roundw
        case rel => exact ⟨k + 1, by go_num, by omega, HK2, trivial⟩
        case measure => simp [intOf]; omega
    · have HW := Lib.hid (M.word_none (fun j hj => HK.out j (by omega)))
      go_wp2
      go_ret
      exact ⟨by rw [HW.out]; rfl, HB.out⟩
end Go.Proofs.YtdbinhbmhkbfeaaGreatDoor
