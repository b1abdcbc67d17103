/-
  Mathematics of the law HttpLines: what is read of many lines, and of one that is long.
-/
import Derived.Test.YtpmcjkhhjkahjaaDoorHttpMb
namespace Go.Proofs.YtpmcjkhhjkahjaaDoor.M
open Go

def lnHead : List UInt8 := [71, 69, 84, 32, 47, 116, 97, 98, 108, 101, 32, 72, 84, 84, 80, 47, 49, 46, 49, 13, 10, 72, 111, 115, 116, 58, 32, 120, 13, 10]
def lnAb : List UInt8 := [97, 58, 32, 98, 13, 10]
def lnMany : Nat → List UInt8
  | 0 => lnHead
  | k + 1 => lnMany k ++ lnAb
theorem lnMany_len (k : Nat) : (lnMany k).length = 30 + 6 * k := by
  induction k with
  | zero => rfl
  | succ k ih => unfold lnMany; rw [List.length_append, ih]; simp [lnAb]; omega
def lnOk (k : Nat) : Bool := if 30 < k then decide ((read (lnMany k ++ [13, 10])).2 = (0, 431)) else decide ((read (lnMany k ++ [13, 10])).2 = (32 + 6 * k, 0))
theorem ln_all : ∀ k : Fin 40, lnOk k.1 = true := by decide +kernel
theorem ln_read {k : Nat} (h : k < 40) : (read (lnMany k ++ [13, 10])).2 = if 30 < k then (0, 431) else (32 + 6 * k, 0) := by
  have := ln_all ⟨k, h⟩
  unfold lnOk at this
  split at this <;> rename_i hk
  · rw [if_pos hk]; simpa using this
  · rw [if_neg hk]; simpa using this

def lnLong (l : Nat) : List UInt8 := lnHead ++ ([97, 58, 32] ++ (List.replicate l 98 ++ [13, 10, 13, 10]))
theorem lnLong_len (l : Nat) : (lnLong l).length = 37 + l := by simp [lnLong, lnHead]; omega
theorem mem_trim {l : List UInt8} {c : UInt8} (h : c ∈ trim l) : c ∈ l := by
  unfold trim Lib.trimS Lib.trimLeftS Lib.trimRightS at h
  have h1 := (List.dropWhile_sublist _).mem h
  rw [List.mem_reverse] at h1
  have h2 := (List.dropWhile_sublist _).mem h1
  rwa [List.mem_reverse] at h2
def lnLine (l : Nat) : List UInt8 := [97, 58, 32] ++ List.replicate l 98
theorem lnLine_len (l : Nat) : (lnLine l).length = 3 + l := by simp [lnLine]; omega
theorem lnLine_no (l : Nat) : (10 : UInt8) ∉ lnLine l := by
  simp [lnLine, List.mem_replicate]
theorem lnLine_step (l : Nat) (h : Hd) : lineStep h (lnLine l) = some h := by
  have hf : fi 58 (lnLine l) = 1 := by simp [lnLine, fi]
  unfold lineStep
  rw [hf, if_neg (by rw [lnLine_len]; omega)]
  have ht : (lnLine l).take 1 = [97] := rfl
  have hd : (lnLine l).drop (1 + 1) = 32 :: List.replicate l 98 := rfl
  rw [ht, hd, if_pos]
  · unfold field
    rw [if_neg (by decide), if_neg (by decide), if_neg (by decide), if_neg (by decide)]
  · refine ⟨by decide, ?_⟩
    unfold isValue
    rw [List.all_eq_true]
    intro c hc
    have := mem_trim hc
    rcases List.mem_cons.1 this with rfl | h2
    · decide
    · rw [(List.mem_replicate.1 h2).2]; decide
def lnL0 : List UInt8 := [71, 69, 84, 32, 47, 116, 97, 98, 108, 101, 32, 72, 84, 84, 80, 47, 49, 46, 49]
def lnL1 : List UInt8 := [72, 111, 115, 116, 58, 32, 120]
theorem lnLong_0 (l : Nat) : (lnLong l).drop 0 = lnL0 ++ 13 :: 10 :: (lnL1 ++ 13 :: 10 :: (lnLine l ++ 13 :: 10 :: [13, 10])) := by
  simp [lnLong, lnHead, lnL0, lnL1, lnLine]
theorem lnLong_1 (l : Nat) : (lnLong l).drop 21 = lnL1 ++ 13 :: 10 :: (lnLine l ++ 13 :: 10 :: [13, 10]) := by
  simp [lnLong, lnHead, lnL1, lnLine]
theorem lnLong_2 (l : Nat) : (lnLong l).drop 30 = lnLine l ++ 13 :: 10 :: [13, 10] := by
  simp [lnLong, lnHead, lnLine]
theorem lnLong_3 (l : Nat) : (lnLong l).drop (35 + l) = [13, 10] := by
  have h1 : (lnLong l).drop (30 + (5 + l)) = ((lnLong l).drop 30).drop (5 + l) := by rw [List.drop_drop]
  rw [show 35 + l = 30 + (5 + l) by omega, h1, lnLong_2, show lnLine l ++ 13 :: 10 :: [13, 10] = (lnLine l ++ [13, 10]) ++ [13, 10] by simp]
  exact List.drop_left' (by rw [List.length_append, lnLine_len]; simp; omega)
theorem long_heads (l : Nat) : heads (lnLong l) = if 2048 < (lnLong l).length then .no 431 else .yes [lnL0, lnL1, lnLine l] (37 + l) := by
  unfold heads
  rw [headF_line (l := lnL0) (lnLong_0 l) (by simp) (by decide) (by decide) (.inr rfl)]
  rw [show 0 + lnL0.length + 2 = 21 from rfl, headF_line (l := lnL1) (lnLong_1 l) (by simp) (by decide) (by decide) (.inl (by decide))]
  rw [show 21 + lnL1.length + 2 = 30 from rfl, lnLong_len]
  by_cases h1 : l < 2014
  · rw [headF_line (l := lnLine l) (lnLong_2 l) (by simp) (lnLine_no l) (by rw [lnLine_len]; omega) (.inl (by simp [lnLine]))]
    rw [show 30 + (lnLine l).length + 2 = 35 + l by rw [lnLine_len]; omega]
    by_cases h2 : l < 2012
    · rw [headF_end (lnLong_3 l) (by simp) (by omega) (by simp), if_neg (by omega), show 35 + l + 2 = 37 + l by omega]
      rfl
    · rw [headF_far (l := [13]) (r := []) (lnLong_3 l) (by simp) (by decide) (by simp; omega), if_pos (by omega)]
  · rw [headF_far (l := lnLine l ++ [13]) (r := [13, 10]) (by rw [lnLong_2]; simp) (by simp) (by simp [lnLine_no l]) (by rw [List.length_append, lnLine_len]; simp; omega), if_pos (by omega)]
theorem long_read (l : Nat) : (read (lnLong l)).2 = if 2048 < 37 + l then (0, 431) else (37 + l, 0) := by
  unfold read
  rw [long_heads, lnLong_len]
  by_cases h : 2048 < 37 + l
  · rw [if_pos h, if_pos h]
  · rw [if_neg h, if_neg h]
    unfold readLines
    have h0 : first lnL0 = some ([71, 69, 84], [47, 116, 97, 98, 108, 101]) := by decide +kernel
    simp only [h0]
    have h1 : lineStep ⟨false, 0, 0, 0⟩ lnL1 = some ⟨false, 1, 0, 0⟩ := by decide +kernel
    have h2 : linesF ⟨false, 0, 0, 0⟩ [lnL1, lnLine l] = some ⟨false, 1, 0, 0⟩ := by
      unfold linesF
      rw [h1]
      simp only
      unfold linesF
      rw [lnLine_step]
      rfl
    simp only [h2]
    unfold judge
    rw [if_neg (by decide), if_neg (by decide), if_neg (by rw [lnLong_len]; simp)]
    rfl
end Go.Proofs.YtpmcjkhhjkahjaaDoor.M
